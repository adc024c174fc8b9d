import PyProof.Rows.All
import Wide.All
import OpenK.AllK
import Wide.FinOn
import Lean
import PyProof.EqAt
import PyProof.EqKinds
import PyProof.TupleCall
import PyProof.Rows.SortRunsK
import OpenK.KMore
import PyProof.Rows.SortShell
import PyProof.Rows.SortWalk
import KE.KSortTup
import PyProof.StrLawsLines
import PyProof.StrWalks
import PyProof.Rows.SetFrom
import PyProof.CollectWalk
import PyProof.Rows.SortStr
import PyProof.DictIter
import PyProof.DictWalks
import PyProof.MeetsStr
import PyProof.DictCompW
import PySem.Challenge.RW_firetogether_k06_slowed
section
abbrev oAa:=@PySem.wpAny_bind
abbrev oAb:=@PySem.wpAny_pure
abbrev oAc:=@PySem.wpAny_mono
abbrev oAd:=@PySem.Heap.get?_push_of_some
abbrev oAe:=@PySem.Heap.get?_push_size
abbrev oAf:=@PySem.Heap.lt_size
abbrev oAg:=@Bool.false_ne_true
abbrev oAh:=@decide_eq_false
abbrev oAi:=@decide_eq_true
abbrev oAj:=@of_decide_eq_true
abbrev oAk:=@Option.some.inj
abbrev oAl:=@Nat.le_refl
abbrev oAm:=@List.mem_cons_of_mem
abbrev oAn:=@List.mem_cons_self
abbrev oAo:=@Nat.lt_of_lt_of_le
abbrev oAp:=@Nat.ne_of_lt
abbrev oAq:=@Nat.le_trans
abbrev oAr:=@Nat.lt_irrefl
abbrev oAs:=@Nat.lt_succ_self
abbrev oAt:=@List.getElem?_eq_getElem
abbrev oAu:=@List.mem_append_right
abbrev oAv:=@PyProof.Rows.wpS_bind
abbrev oAw:=@PyProof.Rows.wpS_pure
abbrev zPn:=List (PySem.Addr×PySem.Obj)
abbrev zVP:=PySem.Value->PySem.Shared->Prop
theorem zoB {α β:Type}{x:Option α}{f:α->Option β}{b:β}(h:x.bind f=some b):∃ a,x=some a/\f a=some b:=Option.bind_eq_some_iff.1 h
theorem zoM {α β:Type}{x:Option α}{f:α->β}{b:β}(h:x.map f=some b):∃ a,x=some a/\f a=b:=Option.map_eq_some_iff.1 h
open List (mem_append_left getElem?_set_self getElem?_set_ne size_toArray length_cons map_cons length_map append_nil length_take getElem?_append_right getElem?_append_left getElem?_map mem_of_getElem? length_append length_replicate length_drop length_set all_cons any_cons replicate_succ flatten_cons map_nil find?_cons length_nil nodup_nil take_of_length_le map_map getElem_mem append_assoc getElem?_eq_none length_range nodup_append lookup_cons mem_cons not_mem_nil all_map pairwise_cons nil_append all_eq_true take_length take_succ map_append set_set foldl_cons forall_mem_nil pairwise_map nodup_cons)
open Nat (le_of_lt ne_of_gt le_of_eq zero_le le_succ zero_add lt_succ_of_lt)
open PySem.Heap (SameBut size_push get?_update_self ExtBut)
open Bool (and_eq_true false_eq_true not_eq_true' or_eq_true)
open Int (toNat_natCast emod_nonneg)
open Array (length_toList getElem?_eq_getElem mem_toList_iff)
open PySem.W (Frag)
set_option Elab.async false
set_option linter.all false
set_option maxRecDepth 100000
namespace L2
open PySem PySem.Spec PyProof.Rows
inductive Key where
 |inl (i:Int) | inr (x:Str) | non
 deriving DecidableEq
noncomputable def Zc3:Key->Value->Bool
 |.inl k,v=>Value.isInt k v
 |.inr x,v=>Value.isStrOf x v
 |.non,.none=>true
 |.non,_=>false
noncomputable def keyH(w:World):Key->Int
 |.inl k=>hashInt k
 |.inr x=>hashStr w x
 |.non=>4238894112
theorem Z3:∀ {k:Key}{v:Value},Zc3 k v=true->(∃ i t,k=Key.inl i/\v=Value.int i t)\/(∃ x t,k=Key.inr x/\v=Value.str x t)\/(k=Key.non/\v=Value.none)
 |.inl i,v,h=>by obtain⟨t,e⟩:=Value.isInt_shape (k:=i) (v:=v) h;exact .inl ⟨i,t,rfl,e⟩
 |.inr x,v,h=>by obtain⟨t,e⟩:=Value.isStrOf_shape (x:=x) (v:=v) h;exact .inr (.inl ⟨x,t,rfl,e⟩)
 |.non,v,h=>by cases v<;>first | exact .inr (.inr ⟨rfl,rfl⟩) | cases h
theorem Za8{E:zVP}{Q:Int->Shared->Prop}(h:Q 4238894112 { s with toks:=s.toks+1 }):wpAny (model prog w) A (PySem.pyHash .none) Q E s:=by
 have hT:s.TypeIs .none "NoneType":=rfl;unfold PySem.pyHash pyHashByItsType;refine oAa ?_;rw[cRoomFor,if_neg (by decide)];refine oAb ?_
 refine oAa (wpAny_specialOf hT F.slot_NoneType_hash.lookup ?_);show wpAny _ _ (if (some (Value.builtin "NoneType.__hash__")==some Value.none)=true then _ else _) Q E s;rw[if_neg (by decide)];refine oAa (wpAny_specialOf hT F.slot_NoneType_hash.lookup ?_);show wpAny _ _ (callSpecialIfBoundUnlessNone? .none "__hash__" _>>=_) Q E s;refine oAa (wpAny_callSpecialIfBoundUnlessNone?_slot hT F.slot_NoneType_hash (wpAny_call_entry F.slot_NoneType_hash hT F.entry_NoneType_hash (show wpAny _ _ (do ret (<- mkInt 4238894112)) _ _ s from wpAny_ret_mkInt ?_) (F.args_NoneType_hash_1 _)));exact oAb h
theorem keq{a b:Key}:decide (a=b)=(match a,b with | .inl i,.inl j=>i==j | .inr x,.inr y=>x==y | .non,.non=>true | _,_=>false):=by
 cases a with
 | inl i=>cases b with
  | inl j=>
   by_cases e:i=j
   ·subst e;simp
   ·rw[oAh (fun q=>e (Key.inl.inj q))];simp[e]
  |inr y=>exact oAh (fun q=>nomatch q)
  |non=>exact oAh (fun q=>nomatch q)
 | inr x=>cases b with
  |inl j=>exact oAh (fun q=>nomatch q)
  | inr y=>
   by_cases e:x=y
   ·subst e;simp
   ·rw[oAh (fun q=>e (Key.inr.inj q))];simp[e]
  |non=>exact oAh (fun q=>nomatch q)
 | non=>cases b with
  |inl j=>exact oAh (fun q=>nomatch q)
  |inr y=>exact oAh (fun q=>nomatch q)
  |non=>rfl
noncomputable def ZH(prog:Program)(w:World):PySem.KeyKind prog w Key where
 is:=Zc3
 hash:=keyH w
 inj:=fun v a b ha hb=>by
  rcases Z3 ha with ⟨i,t,rfl,rfl⟩ | ⟨x,t,rfl,rfl⟩ | ⟨rfl,rfl⟩<;>rcases Z3 hb with ⟨j,u,rfl,e⟩ | ⟨y,u,rfl,e⟩ | ⟨rfl,e⟩<;>first | (cases e;rfl) | exact nomatch e
 byValue:=fun k v h=>by rcases Z3 h with ⟨i,t,rfl,rfl⟩ | ⟨x,t,rfl,rfl⟩ | ⟨rfl,rfl⟩<;>rfl
 pyHash:=fun hv h=>by
  rcases Z3 hv with ⟨i,t,rfl,rfl⟩ | ⟨x,t,rfl,rfl⟩ | ⟨rfl,rfl⟩
  ·exact wpAny_pyHash_int h
  ·exact wpAny_pyHash_str h
  ·exact Za8 h
 eqBool:=fun hu hv h=>by
  rw[keq] at h
  rcases Z3 hu with ⟨i,t,rfl,rfl⟩ | ⟨x,t,rfl,rfl⟩ | ⟨rfl,rfl⟩<;>rcases Z3 hv with ⟨j,u,rfl,rfl⟩ | ⟨y,u,rfl,rfl⟩ | ⟨rfl,rfl⟩
  ·exact SeqAt.EqAt.int_int i t j u _ _ _ _ h
  ·exact SeqAt.EqAt.int_str i t y u _ _ _ _ h
  ·exact SeqAt.EqAt.int_none i t _ _ _ _ h
  ·exact SeqAt.EqAt.str_int x t j u _ _ _ _ h
  ·exact SeqAt.EqAt.str_str x t y u _ _ _ _ h
  ·exact SeqAt.EqAt.str_none x t _ _ _ _ h
  ·exact SeqAt.EqAt.none_int j u _ _ _ _ h
  ·exact SeqAt.EqAt.none_str y u _ _ _ _ h
  ·exact SeqAt.EqAt.same .none _ _ _ _ h
 «strs»:=fun k x t v h=>by
  rcases Z3 h with ⟨i,u,rfl,e⟩ | ⟨y,u,rfl,e⟩ | ⟨rfl,e⟩
  ·exact nomatch e
  ·injection e with e1 _;subst e1;cases v<;>rfl
  ·exact nomatch e
theorem zr(prog:Program)(w:World)(i:Int)(t:Tok):(ZH prog w).is (.inl i) (.int i t)=true:=by show Value.isInt i (.int i t)=true;simp[Value.isInt]
theorem zu(prog:Program)(w:World)(x:Str)(t:Tok):(ZH prog w).is (.inr x) (.str x t)=true:=by show Value.isStrOf x (.str x t)=true;simp[Value.isStrOf]
theorem zv(prog:Program)(w:World):(ZH prog w).is .non .none=true:=rfl
inductive V where
 |non | bl (b:Bool) | int (i:Int) | str (x:Str) | byt (b:Array UInt8) | flt (b:UInt64) | ref (a:Addr) | ty (n:String)
 deriving DecidableEq
def RelV:V->Value->Prop
 |.non,u=>u=Value.none
 |.bl b,u=>u=Value.bool b
 |.int i,u=>∃ t,u=Value.int i t
 |.str x,u=>∃ t,u=Value.str x t
 |.byt b,u=>∃ t,u=Value.bytes b t
 |.flt b,u=>∃ t,u=Value.float b t
 |.ref a,u=>u=Value.ref a
 |.ty n,u=>u=Value.type n
abbrev Vals:List V->List Value->Prop:=Paired RelV
theorem Vals.length{xs:List V}{us:List Value}(r:Vals xs us):xs.length=us.length:=Paired.length r
theorem Vals.get:∀ {xs:List V}{us:List Value}{i:Nat}{x:V},Vals xs us->xs[i]?=some x->∃ u,us[i]?=some u/\RelV x u
 |_,_,_,_,.nil,e=>by simp at e
 |_,_,0,_,.cons r _,e=>by simp at e;subst e;exact⟨_,rfl,r⟩
 | _,_,i+1,x,.cons _ t,e=>by
  obtain⟨u,h1,h2⟩:=Vals.get (i:=i) (x:=x) t (by simpa using e);exact⟨u,by simpa using h1,h2⟩
theorem Vals.set{x:V}{u:Value}(r:RelV x u):∀ {xs:List V}{us:List Value} (i:Nat),Vals xs us->Vals (xs.set i x) (us.set i u)
 |_,_,_,.nil=>.nil
 |_,_,0,.cons _ t=>.cons r t
 |_,_,i+1,.cons q t=>.cons q (Vals.set r i t)
theorem Vals.append:∀ {xs ys:List V}{us ws:List Value},Vals xs us->Vals ys ws->Vals (xs++ys) (us++ws)
 |_,_,_,_,.nil,s=>s
 |_,_,_,_,.cons r t,s=>.cons r (Vals.append t s)
theorem Vals.take:∀ {xs:List V}{us:List Value} (n:Nat),Vals xs us->Vals (xs.take n) (us.take n)
 |_,_,0,_=>.nil
 |_,_,_+1,.nil=>.nil
 |_,_,n+1,.cons r t=>.cons r (Vals.take n t)
theorem Vals.drop:∀ {xs:List V}{us:List Value} (n:Nat),Vals xs us->Vals (xs.drop n) (us.drop n)
 |_,_,0,r=>r
 |_,_,_+1,.nil=>.nil
 |_,_,n+1,.cons _ t=>Vals.drop n t
def RelO:Option V->Option Value->Prop
 |some v,some u=>RelV v u
 |none,none=>True
 |_,_=>False
def KV{κ:Type}:List (κ×V)->List (κ×Value)->Prop:=Paired fun (p:κ×V) (q:κ×Value)=>p.1=q.1/\RelV p.2 q.2
noncomputable def kV:Key->V
 |.inl i=>.int i
 |.inr x=>.str x
 |.non=>.non
inductive HO where
  |lst (xs:List V)
  |tup (xs:List V)
  |dK (kvs:List (Key×V)) | dT (kvs:List (List Key×V))
  |set (S:Int->Bool) (n:Nat)
  |ins (C dx:Addr) (fs:List (Str×V))
  |own (x:Addr)
  |xd (fs:List (Str×V))
  |met (f x:Addr)
  |rng (lo hi:Int)
  |frz (o:Obj) (u:HO)
  |tbl (ps:Array Value)
  |ext (φ:Heap->Prop)
noncomputable abbrev Hp:=Addr->Option HO
noncomputable def upd(H:Hp)(a:Addr)(o:HO):Hp:=fun b=>if b=a then some o else H b
theorem Zv:upd H a o a=some o:=by unfold upd;rw[if_pos rfl]
theorem Zi(h:b≠a):upd H a o b=H b:=by unfold upd;rw[if_neg h]
theorem JE{H:Hp}{a b:Addr}{o u:HO}(h:H a=some o)(h':H b=some u)(d:o≠u):a≠b:=by
 intro e;subst e;rw[h] at h';exact d (oAk h')
theorem Zr{H:Hp}{a b:Addr}{o:HO}(h:H a=some o)(h':H b=none):a≠b:=by
 intro e;subst e;rw[h] at h';cases h'
section
variable (P:Program) (w:World)
def ZC(H:Hp)(h:Heap)(a:Addr):HO->Prop
 |.lst xs=>xs.length<=sizeLine/\∃ (its:List Value) (n:Nat),Vals xs its/\h.get? a=some { cls:=.type "list",data:=.seq its.toArray n }
 |.tup xs=>xs.length<=sizeLine/\∃ its:List Value,Vals xs its/\IsTup h a its.toArray
 |.dK kvs=>kvs.length<=sizeLine/\(a==sysModules)=false/\∃ vs,KV kvs vs/\h.DictOf (ZH P w) a vs
 | .dT kvs=>kvs.length<=sizeLine/\(a==sysModules)=false/\∃ xs:List (List Key×Addr×Value),
   Paired (fun (p:List Key×V) (q:List Key×Addr×Value)=>p.1=q.1/\H q.2.1=some (.tup (p.1.map kV))/\RelV p.2 q.2.2) kvs xs /\
   ∃ o es ep,h.get? a=some o/\o.ExactDict/\o.data=.dict es ep/\es.toList=xs.map (entryOfKey (tupleKind (ZH P w)))/\(xs.map (·.1)).Nodup
 |.set S n=>h.SetOf (intKind P w) a S n
 | .ins C dx fs=>H dx=some (.own a)/\fs.length<=1000/\dx≠a/\h.get? a=some (PySem.W.instObj C dx) /\
   ∃ mA,h.Ns1 dx mA/\(∀ f,RelO (fs.lookup f) (mA f))/\PySem.Within mA (fs.map (·.1))
 |.own _=>∃ o,h.get? a=some o
 |.xd fs=>∃ mA,h.Ns1 a mA/\∀ f,RelO (fs.lookup f) (mA f)
 |.rng lo hi=>∃ t u v,h.get? a=some { cls:=.type "range",data:=.fields #[.int lo t,.int hi u,.int 1 v] }
 |.frz o u=>h.get? a=some o/\ZC H h a u
 |.tbl ps=>h.get? a=some { cls:=.none,data:=.fields ps }
 |.met f x=>h.get? a=some (PySem.W.methodObj (.ref f) (.ref x))
 |.ext φ=>φ h/\(∃ o,h.get? a=some o)/\∀ h1 h2:Heap,φ h1->(∀ o,h1.get? a=some o->h2.get? a=some o)->φ h2
def HOk(H:Hp)(h:Heap):Prop:=∀ a o,H a=some o->ZC P w H h a o
end
section
variable {P:Program}{w:World}{H H':Hp}{h h':Heap}{a:Addr}{o:HO}
theorem ZC.lt(x:ZC P w H h a o):a<h.objs.size:=by
 cases o with
 |lst xs=>obtain⟨_,_,_,_,e⟩:=x;exact oAf e
 |tup xs=>obtain⟨_,_,_,p⟩:=x;exact p.lt
 |dK kvs=>obtain⟨_,_,_,_,o,_,_,e,_⟩:=x;exact oAf e
 |dT kvs=>obtain⟨_,_,_,_,o,_,_,e,_⟩:=x;exact oAf e
 |set S n=>obtain⟨o,_,_,_,e,_⟩:=x;exact oAf e
 |ins C dx fs=>obtain⟨_,_,_,e,_⟩:=x;exact oAf e
 |own y=>obtain⟨_,e⟩:=x;exact oAf e
 |xd fs=>obtain⟨_,⟨_,_,_,e,_⟩,_⟩:=x;exact oAf e
 |rng lo hi=>obtain⟨_,_,_,e⟩:=x;exact oAf e
 |frz ob u=>obtain⟨e,_⟩:=x;exact oAf e
 |tbl ps=>exact oAf (show h.get? a=some _ from x)
 |met f y=>exact oAf (show h.get? a=some _ from x)
 |ext φ=>obtain⟨_,⟨_,e⟩,_⟩:=x;exact oAf e
theorem Paired.mapP{α β:Type}{F G:α->β->Prop}:∀ {l₁:List α}{l₂:List β},Paired F l₁ l₂->(∀ a b,F a b->G a b)->Paired G l₁ l₂
 |_,_,.nil,_=>.nil
 |_,_,.cons r t,f=>.cons (f _ _ r) (Paired.mapP t f)
theorem ZC.stay(x:ZC P w H h a o)(k:∀ b u,(b=a\/H b=some (.own a))->h.get? b=some u->h'.get? b=some u)
  (ho:∀ b,H b=some (.own a)->H' b=some (.own a))(ht:∀ b xs,H b=some (.tup xs)->H' b=some (.tup xs)):ZC P w H' h' a o:=by
 induction o with
 |lst xs=>obtain⟨z,its,n,r,e⟩:=x;exact⟨z,its,n,r,k _ _ (.inl rfl) e⟩
 |tup xs=>obtain⟨z,its,r,ob,e,c⟩:=x;exact⟨z,its,r,ob,k _ _ (.inl rfl) e,c⟩
 |dK kvs=>obtain⟨z,y,vs,r,ob,es,ep,e,c⟩:=x;exact⟨z,y,vs,r,ob,es,ep,k _ _ (.inl rfl) e,c⟩
 | dT kvs=>
  obtain⟨z,y,xs,r,ob,es,ep,e,c⟩:=x;exact⟨z,y,xs,Paired.mapP r fun p q z=>⟨z.1,ht _ _ z.2.1,z.2.2⟩,ob,es,ep,k _ _ (.inl rfl) e,c⟩
 |set S n=>obtain⟨ob,es,ep,t,e,c⟩:=x;exact⟨ob,es,ep,t,k _ _ (.inl rfl) e,c⟩
 | ins C dx fs=>
  obtain⟨d,z,ne,e,mA,⟨od,es,ep,e2,c⟩,r⟩:=x;exact⟨ho _ d,z,ne,k _ _ (.inl rfl) e,mA,⟨od,es,ep,k _ _ (.inr d) e2,c⟩,r⟩
 |own y=>obtain⟨ob,e⟩:=x;exact⟨ob,k _ _ (.inl rfl) e⟩
 |xd fs=>obtain⟨mA,⟨od,es,ep,e,c⟩,r⟩:=x;exact⟨mA,⟨od,es,ep,k _ _ (.inl rfl) e,c⟩,r⟩
 |rng lo hi=>obtain⟨t,u,v,e⟩:=x;exact⟨t,u,v,k _ _ (.inl rfl) e⟩
 |frz ob u ih=>obtain⟨e,q⟩:=x;exact⟨k _ _ (.inl rfl) e,ih q⟩
 | tbl ps=>
  have e:h.get? a=some { cls:=.none,data:=.fields ps }:=x;show h'.get? a=some { cls:=.none,data:=.fields ps };exact k a _ (.inl rfl) e
 | met f y=>
  have e:h.get? a=some (PySem.W.methodObj (.ref f) (.ref y)):=x;show h'.get? a=some (PySem.W.methodObj (.ref f) (.ref y));exact k a _ (.inl rfl) e
 |ext φ=>obtain⟨p,⟨o,e⟩,st⟩:=x;exact⟨st _ _ p fun o q=>k _ _ (.inl rfl) q,⟨o,k _ _ (.inl rfl) e⟩,st⟩
theorem HOk.lt(x:HOk P w H h)(e:H a=some o):a<h.objs.size:=(x a o e).lt
theorem HOk.fresh(x:HOk P w H h)(e:h.objs.size<=a):H a=none:=by
 cases q:H a with
 |none=>rfl
 |some u=>exact absurd (oAo (x.lt q) e) (oAr _)
theorem HOk.kept(x:HOk P w H h)(k:∀ b u,h.get? b=some u->h'.get? b=some u):HOk P w H h':=fun a o e=>
 (x a o e).stay (fun b u _ q=>k b u q) (fun _ q=>q) fun _ _ q=>q
theorem HOk.laid(x:HOk P w H h)(k:∀ b u,h.get? b=some u->h'.get? b=some u)(hp:h.objs.size<=a)(new:ZC P w (upd H a o) h' a o):HOk P w (upd H a o) h':=fun b u e=>by
 have hn:=x.fresh hp;by_cases hb:b=a
 ·subst hb;rw[Zv] at e;cases e;exact new
 ·rw[Zi hb] at e;exact(x b u e).stay (fun c v _ q=>k c v q) (fun c q=>by rw[Zi (Zr q hn)];exact q) fun c xs q=>by rw[Zi (Zr q hn)];exact q
end
def Rd(H:Hp)(a:Addr)(u:HO):Prop:=H a=some u\/∃ o,H a=some (.frz o u)
theorem Rd.ok(r:Rd H a u)(x:HOk P w H h):ZC P w H h a u:=by
 rcases r with r | ⟨o,r⟩
 ·exact x a u r
 ·obtain⟨_,q⟩:=x a _ r;exact q
def Mut:Option HO->Prop
 |some (.lst _)=>True
 |some (.dK _)=>True
 |some (.dT _)=>True
 |some (.set _ _)=>True
 |some (.ins _ _ _)=>True
 |some (.ext _)=>True
 |_=>False
section
variable {P:Program}{w:World}{H:Hp}{h h':Heap}{x e:Addr}{o':HO}
theorem HOk.write(ok:HOk P w H h)(mu:Mut (H x))(he:e=x\/H e=some (.own x))(k:∀ b u,b≠e->h.get? b=some u->h'.get? b=some u)(heo:∃ u,h'.get? e=some u)
  (new:ZC P w (upd H x o') h' x o'):HOk P w (upd H x o') h':=fun b u q=>by
 have nown:∀ c y,H c=some (.own y)->c≠x:=fun c y r z=>by subst z;rw[r] at mu;exact mu
 have ntup:∀ c xs,H c=some (.tup xs)->c≠x:=fun c xs r z=>by subst z;rw[r] at mu;exact mu
 by_cases hb:b=x
 ·subst hb;rw[Zv] at q;cases q;exact new
 ·rw[Zi hb] at q;by_cases hbe:b=e
  ·have q':H b=some (.own x):=by
    rcases he with z | z
    ·exact absurd (hbe.trans z) hb
    ·rw[hbe];exact z
   rw[q] at q';cases q'
   obtain⟨v,hv⟩:=heo;exact⟨v,by rw[hbe];exact hv⟩
  ·refine(ok b u q).stay (fun c v hc r=>k c v ?_ r) (fun c r=>by rw[Zi (nown c b r)];exact r) fun c xs r=>by rw[Zi (ntup c xs r)];exact r
   rcases hc with rfl | hc
   ·exact hbe
   ·rintro rfl
    rcases he with z | z
    ·exact nown c b hc z
    ·rw[hc] at z;cases z;exact hb rfl
end
structure Un(fs ex:List Addr)(H H':Hp)(h h':Heap):Prop where
 keep:∀ b o,h.get? b=some o->H b=none->b∉fs->b∉ex->h'.get? b=some o
 slot:∀ b o,h.get? b=some o->H b=none->b∈fs->b∉ex->∃ sl,h'.get? b=some { o with slots:=sl }
 free:∀ b o,h.get? b=some o->H b=none->b∉ex->H' b=none
 there:∀ b o,h.get? b=some o->b∉ex->∃ o',h'.get? b=some o'
 tups:∀ b xs,H b=some (.tup xs)->H' b=some (.tup xs)
 frzs:∀ b o u,H b=some (.frz o u)->H' b=some (.frz o u)
 tbls:∀ b ps,H b=some (.tbl ps)->∃ more,H' b=some (.tbl (ps++more))
section
variable {fs fs' ex ex':List Addr}{H H1 H2:Hp}{h h1 h2 h':Heap}{a x e:Addr}{o:HO}
theorem Un.any(u:Un fs ex H H1 h h1)(q:h.get? b=some ob)(n:H b=none)(hx:b∉ex):∃ sl,h1.get? b=some { ob with slots:=sl }:=by
 by_cases hb:b∈fs
 ·exact u.slot b ob q n hb hx
 ·exact⟨ob.slots,u.keep b ob q n hb hx⟩
theorem Un.kept(k:∀ b u,h.get? b=some u->h'.get? b=some u):Un fs ex H H h h':=
 ⟨fun b ob q _ _ _=>k b ob q,fun b ob q _ _ _=>⟨ob.slots,k b ob q⟩,fun _ _ _ n _=>n,fun b ob q _=>⟨ob,k b ob q⟩,fun _ _ q=>q,fun _ _ _ q=>q,fun _ ps q=>⟨#[],by rw[q];simp⟩⟩
theorem Un.refl:Un fs ex H H h h:=Un.kept fun _ _ q=>q
theorem Un.laid(k:∀ b u,h.get? b=some u->h'.get? b=some u)(hp:h.objs.size<=a)(hn:H a=none):Un fs ex H (upd H a o) h h' where
 keep:=fun b u q _ _ _=>k b u q
 slot:=fun b u q _ _ _=>⟨u.slots,k b u q⟩
 free:=fun b u q n _=>by rw[Zi (oAp (oAo (oAf q) hp))];exact n
 there:=fun b u q _=>⟨u,k b u q⟩
 tups:=fun b xs q=>by rw[Zi (Zr q hn)];exact q
 frzs:=fun b u xs q=>by rw[Zi (Zr q hn)];exact q
 tbls:=fun b ps q=>⟨#[],by rw[Zi (Zr q hn),q];simp⟩
theorem Un.write(mu:Mut (H x))(he:e=x\/H e=some (.own x))(k:∀ b u,b≠e->h.get? b=some u->h'.get? b=some u)(heo:∃ u,h'.get? e=some u):Un fs ex H (upd H x o) h h':=by
 have hx:∀ b,H b=none->b≠x:=fun b n z=>by subst z;rw[n] at mu;exact mu
 have hb:∀ b,H b=none->b≠e:=fun b n z=>by
  subst z
  rcases he with r | r
  ·exact hx b n r
  ·rw[n] at r;cases r
 have hm:∀ b u,H b=some u->¬ Mut (some u)->b≠x:=fun b u q nm z=>by subst z;rw[q] at mu;exact nm mu
 refine⟨fun b u q n _ _=>k b u (hb b n) q,fun b u q n _ _=>⟨u.slots,k b u (hb b n) q⟩,fun b u q n _=>by rw[Zi (hx b n)];exact n,fun b u q _=>?_,
  fun b xs q=>by rw[Zi (hm b _ q fun z=>z)];exact q,fun b u xs q=>by rw[Zi (hm b _ q fun z=>z)];exact q,fun b ps q=>⟨#[],by rw[Zi (hm b _ q fun z=>z),q];simp⟩⟩
 by_cases hbe:b=e
 ·subst hbe;exact heo
 ·exact⟨u,k b u hbe q⟩
end
noncomputable def trk(h:Heap)(H:Hp):List Addr:=(List.range h.objs.size).filter fun a=>(H a).isSome
noncomputable def hidT(h:Heap)(H:Hp):Heap:=PySem.W.hideAll h (trk h H)
theorem Za9(h:Heap)(H:Hp):(hidT h H).objs.size=h.objs.size:=PySem.W.hideAll_size _ _
theorem Zce(e:h.get? b=some o)(n:H b=none):(hidT h H).get? b=some o:=
 PySem.W.hideAll_get _ e fun hm=>by
  have q:(H b).isSome=true:=(List.mem_filter.1 hm).2;rw[n] at q;simp at q
theorem ZdA(e:(hidT h H).get? b=some o):h.get? b=some o/\H b=none:=by
 have e':h.get? b=some o:=PySem.W.of_hideAll (trk h H) e;refine⟨e',?_⟩;cases q:H b with
 |none=>rfl
 | some x=>
  have hm:b∈trk h H:=List.mem_filter.2 ⟨List.mem_range.2 (oAf e'),by simp[q]⟩;have z:(hidT h H).get? b=none:=PySem.W.hideAll_none (trk h H) hm;rw[z] at e;cases e
structure Mod(K:Frag)(mg:Str->Option Value)(base:Heap):Prop where
 kin:K.In base
 glob:base.Ns mainGlobals mg
 blt:∃ mb,base.Ns builtinsNs mb/\∀ x:Str,x≠"__name__"->mb x=bootBuiltins x
 nolimit:base.NoLimit
structure Cx where
 prog:Program
 w:World
 K:Frag
 mg:Str->Option Value
 base:Heap
 A:Around
 N:List Str
 s₀:Shared
 H₀:Hp
 env:Env
 outer:List Env
 stack:List Env
 ex:List Addr
 fn:Str->Bool
 calm:Bool
 pn:zPn
 xe:Value->Shared->Prop
noncomputable def frs(l:List Env):List Addr:=l.filterMap (·.frame)
noncomputable abbrev Cx.fs(X:Cx):List Addr:=frs X.outer
def Vis(sc:Scope)(x:Str):Prop:=sc.names.lookup x=some .local\/sc.names.lookup x=some .cell\/sc.names.lookup x=some .free
def Loc(sc:Scope)(x:Str):Prop:=sc.names.lookup x=some .local\/sc.names.lookup x=some .cell
def Look(env:Env)(h:Heap)(m:Str->Option Value)(x:Str)(u:Value):Prop:=
 (env.kindOf x=some .local/\m x=some u)\/((env.kindOf x=some .cell\/env.kindOf x=some .free)/\∃ c,env.cells.lookup x=some c/\h.IsCell c (some u))
structure Cx.Ok(X:Cx):Prop where
 mod:Mod X.K X.mg X.base
 kind:X.env.scope.kind=.function
 glob:X.env.globals=mainGlobals
 blt:X.env.builtins=builtinsNs
 above:X.s₀.heap.objs.size<=X.env.locals
 inj:∀ x y c,X.env.cells.lookup x=some c->X.env.cells.lookup y=some c->x=y
 has:∀ x,(X.env.kindOf x=some .cell\/X.env.kindOf x=some .free)->∃ c,X.env.cells.lookup x=some c
 cab:∀ x c,X.fn x=true->X.env.cells.lookup x=some c->X.s₀.heap.objs.size<=c
 hd:X.calm=true->X.A.handled=none
 frames:X.A.frames=some X.stack
 stk:X.stack=X.outer\/(X.stack=X.env::X.outer/\X.env.frame=some X.env.locals)
 exf:∀ b∈X.ex,b≠X.env.locals/\∀ x c,X.env.cells.lookup x=some c->c≠b
 bs:∀ b o,X.base.get? b=some o->X.s₀.heap.get? b=some o/\X.H₀ b=none
 bsz:X.base.objs.size<=X.s₀.heap.objs.size
 noex:∀ b o,X.base.get? b=some o->b∉X.ex
 exfs:∀ b∈X.ex,b∉X.fs
 funs:X.s₀.heap.FunFrames X.base X.outer
 frf:∀ b∈X.fs,X.H₀ b=none
structure Inv(X:Cx)(pins:zPn)(σ:List (Option V))(H:Hp)(s:Shared):Prop where
 ok:X.Ok
 os:s.os=X.s₀.os
 bare:AllBare s.gens
 base:Un X.fs X.ex X.H₀ H X.s₀.heap s.heap
 loc:∃ m,s.heap.Ns X.env.locals m/\∀ (i:Nat) (x:Str) (v:V),X.N[i]?=some x->σ[i]?=some (some v)->Vis X.env.scope x->∃ u,RelV v u/\Look X.env s.heap m x u
 cell:∀ x c,X.env.cells.lookup x=some c->∃ v,s.heap.IsCell c v
 free:H X.env.locals=none
 freeC:∀ x c,X.env.cells.lookup x=some c->H c=none
 pin:∀ p∈X.pn++pins,s.heap.get? p.1=some p.2/\H p.1=none/\p.1≠X.env.locals/\p.1∉X.fs/\∀ v,p.2.data≠.cell v
 hok:HOk X.prog X.w H s.heap
 len:σ.length=X.N.length
section
variable {X:Cx}{pins:zPn}{σ:List (Option V)}{H H':Hp}{s:Shared}{h':Heap}
theorem Cx.Ok.nofr(ok:X.Ok)(e:X.base.get? b=some o):b∉X.fs:=fun hb=>by
 have:=(ok.funs.mem hb).1;rw[e] at this;cases this
theorem Inv.bs(I:Inv X pins σ H s):∀ b o,X.base.get? b=some o->s.heap.get? b=some o/\H b=none:=fun b o e=>
 ⟨I.base.keep b o (I.ok.bs b o e).1 (I.ok.bs b o e).2 (I.ok.nofr e) (I.ok.noex b o e),I.base.free b o (I.ok.bs b o e).1 (I.ok.bs b o e).2 (I.ok.noex b o e)⟩
theorem Inv.bk(I:Inv X pins σ H s):∀ b o,X.base.get? b=some o->s.heap.get? b=some o:=fun b o e=>(I.bs b o e).1
theorem Inv.mod(I:Inv X pins σ H s):Mod X.K X.mg X.base:=I.ok.mod
theorem Inv.kIn(I:Inv X pins σ H s):X.K.In s.heap:=I.ok.mod.kin.keeps I.bk
theorem Inv.lt(I:Inv X pins σ H s):X.env.locals<s.heap.objs.size:=let ⟨_,hn,_⟩:=I.loc;hn.lt
theorem Inv.sz(I:Inv X pins σ H s):X.s₀.heap.objs.size<=s.heap.objs.size:=oAq I.ok.above (le_of_lt I.lt)
theorem Inv.nofs(I:Inv X pins σ H s)(h:s.heap.objs.size<=a):a∉X.fs:=fun hb=>by
 obtain⟨_,o,ho,_⟩:=I.ok.funs.mem hb;exact absurd (oAo (oAf ho) (oAq I.sz h)) (oAr _)
theorem Inv.cne(I:Inv X pins σ H s):∀ x c,X.env.cells.lookup x=some c->c≠X.env.locals:=fun x c e z=>by
 obtain⟨v,o,ho,hd⟩:=I.cell x c e;obtain⟨m,⟨o',es,ep,ho',hd',_⟩,_⟩:=I.loc;rw[z,ho'] at ho;cases ho;rw[hd'] at hd;cases hd
theorem Inv.funs(I:Inv X pins σ H s):s.heap.FunFrames X.base X.outer:=by
 have all:∀ (l:List Env),(∀ b∈frs l,b∈X.fs)->X.s₀.heap.FunFrames X.base l->s.heap.FunFrames X.base l:=by
  intro l
  induction l with
  |nil=>intro _ _;trivial
  | cons env r ih=>
   intro hs hl;obtain⟨hk,⟨L,o,hf,hn,ho,hd⟩,hr⟩:=hl;have hL:L∈X.fs:=hs L (by unfold frs;rw[List.filterMap_cons,hf];exact oAn)
   obtain⟨sl,e⟩:=I.base.slot L o ho (I.ok.frf L hL) hL fun z=>I.ok.exfs L z hL;exact⟨hk,⟨L,_,hf,hn,e,hd⟩,ih (fun b hb=>hs b (by unfold frs;rw[List.filterMap_cons,hf];exact oAm _ hb)) hr⟩
 exact all X.outer (fun _ hb=>hb) I.ok.funs
theorem Inv.stack(I:Inv X pins σ H s):s.heap.FunFrames X.base X.stack:=by
 rcases I.ok.stk with e | ⟨e,hf⟩
 ·rw[e];exact I.funs
 ·rw[e];obtain⟨m,hn,_⟩:=I.loc;refine .cons (by rw[I.ok.kind];decide) hf hn ?_ I.funs
  exact Heap.get?_none_of_le (oAq I.ok.bsz I.ok.above)
theorem Inv.stkSub(I:Inv X pins σ H s):∀ b∈frs X.stack,b∈X.env.locals::X.fs:=fun b hb=>by
 rcases I.ok.stk with e | ⟨e,hf⟩
 ·rw[e] at hb;exact oAm _ hb
 ·rw[e] at hb;unfold frs at hb;rw[List.filterMap_cons,hf] at hb;exact hb
theorem Inv.stkFree(I:Inv X pins σ H s):∀ b∈frs X.stack,H b=none:=fun b hb=>by
 rcases List.mem_cons.1 (I.stkSub b hb) with e | hb
 ·rw[e];exact I.free
 ·obtain⟨_,o,ho,_⟩:=I.ok.funs.mem hb;exact I.base.free b o ho (I.ok.frf b hb) fun z=>I.ok.exfs b z hb
theorem Inv.step{g':Array GenState}{t':Nat}{d':Drawn}{ch:List Addr}(I:Inv X pins σ H s)
  (hch:∀ b∈ch,(b∈X.ex\/X.s₀.heap.objs.size<=b)/\b≠X.env.locals/\(∀ x c,X.env.cells.lookup x=some c->c≠b)/\∀ p∈X.pn++pins,p.1≠b)
  (keep:∀ b o,b≠X.env.locals->b∉X.fs->b∉ch->s.heap.get? b=some o->H b=none->h'.get? b=some o)
  (slot:∀ b o,b≠X.env.locals->b∈X.fs->b∉ch->s.heap.get? b=some o->H b=none->∃ sl,h'.get? b=some { o with slots:=sl })(free:∀ b o,b∉ch->s.heap.get? b=some o->H b=none->H' b=none)
  (there:∀ b o,b∉ch->s.heap.get? b=some o->∃ o',h'.get? b=some o')
  (tups:∀ b xs,H b=some (.tup xs)->H' b=some (.tup xs))(frzs:∀ b o u,H b=some (.frz o u)->H' b=some (.frz o u))(tbls:∀ b ps,H b=some (.tbl ps)->∃ more,H' b=some (.tbl (ps++more)))
  (ns:∀ m,s.heap.Ns X.env.locals m->h'.Ns X.env.locals m)(hok:HOk X.prog X.w H' h')(hg:AllBare g') :
  Inv X pins σ H' { s with heap:=h',gens:=g',drawn:=d',toks:=t' }:=by
 have neL:∀ b o,X.s₀.heap.get? b=some o->b≠X.env.locals:=fun b o e=>oAp (oAo (oAf e) I.ok.above);have neC:∀ b o,X.s₀.heap.get? b=some o->b∉X.ex->b∉ch:=fun b o e hx hb=>by
  rcases (hch b hb).1 with z | z
  ·exact hx z
  ·exact absurd (oAo (oAf e) z) (oAr _)
 have cellK:∀ x c,X.env.cells.lookup x=some c->∀ v,s.heap.IsCell c v->h'.IsCell c v:=fun x c e v ⟨o,ho,hd⟩=>by
  have nch:c∉ch:=fun z=>(hch c z).2.2.1 x c e rfl;by_cases hc:c∈X.fs
  ·obtain⟨sl,q⟩:=slot c o (I.cne x c e) hc nch ho (I.freeC x c e);exact⟨_,q,hd⟩
  ·exact⟨o,keep c o (I.cne x c e) hc nch ho (I.freeC x c e),hd⟩
 refine⟨I.ok,I.os,hg,⟨fun b o e n hb hx=>?_,fun b o e n hb hx=>?_,fun b o e n hx=>?_,fun b o e hx=>?_,fun b xs e=>tups b xs (I.base.tups b xs e),fun b o xs e=>frzs b o xs (I.base.frzs b o xs e),fun b ps e=>?_⟩,?_,fun x c e=>?_,?_,fun x c e=>?_,fun p hp=>?_,hok,I.len⟩
 ·exact keep b o (neL b o e) hb (neC b o e hx) (I.base.keep b o e n hb hx) (I.base.free b o e n hx)
 ·obtain⟨sl,e1⟩:=I.base.slot b o e n hb hx;obtain⟨sl',e2⟩:=slot b _ (neL b o e) hb (neC b o e hx) e1 (I.base.free b o e n hx);exact⟨sl',e2⟩
 ·obtain⟨o',e1⟩:=I.base.there b o e hx;exact free b o' (neC b o e hx) e1 (I.base.free b o e n hx)
 ·obtain⟨o',e1⟩:=I.base.there b o e hx;exact there b o' (neC b o e hx) e1
 ·obtain⟨m1,e1⟩:=I.base.tbls b ps e;obtain⟨m2,e2⟩:=tbls b _ e1;exact⟨m1++m2,by rw[e2,Array.append_assoc]⟩
 ·obtain⟨m,hn,hl⟩:=I.loc;refine⟨m,ns m hn,fun i x v e1 e2 e3=>?_⟩;obtain⟨u,r,l⟩:=hl i x v e1 e2 e3;refine⟨u,r,?_⟩
  rcases l with l | ⟨k,c,e,z⟩
  ·exact .inl l
  ·exact .inr ⟨k,c,e,cellK x c e _ z⟩
 ·obtain⟨v,z⟩:=I.cell x c e;exact⟨v,cellK x c e v z⟩
 ·obtain⟨m,⟨o,_,_,ho,_⟩,_⟩:=I.loc;exact free _ o (fun z=>(hch _ z).2.1 rfl) ho I.free
 ·obtain⟨v,o,ho,hd⟩:=I.cell x c e;exact free c o (fun z=>(hch c z).2.2.1 x c e rfl) ho (I.freeC x c e)
 ·obtain⟨e,n,ne,nf,d⟩:=I.pin p hp;have nch:p.1∉ch:=fun z=>(hch p.1 z).2.2.2 p hp rfl;exact⟨keep p.1 p.2 ne nf nch e n,free p.1 p.2 nch e n,ne,nf,d⟩
theorem Inv.un{t':Nat}(I:Inv X pins σ H s)(u:Un X.fs [] H H' s.heap h')(hok:HOk X.prog X.w H' h'):Inv X pins σ H' { s with heap:=h',toks:=t' }:=by
 obtain⟨m,⟨o,es,ep,ho,r⟩,_⟩:=id I.loc;obtain⟨sl,hL⟩:=u.any ho I.free (by simp);exact I.step (g':=s.gens) (d':=s.drawn) (ch:=[]) (fun _ z=>nomatch z) (fun b o _ hb _ e n=>u.keep b o e n hb (by simp)) (fun b o _ hb _ e n=>u.slot b o e n hb (by simp)) (fun b o _ e n=>u.free b o e n (by simp)) (fun b o _ e=>u.there b o e (by simp)) u.tups u.frzs u.tbls (fun m' hm=>by
  obtain⟨o',es',ep',ho',r'⟩:=hm;rw[ho] at ho';cases ho'
  exact⟨_,es',ep',hL,r'⟩) hok I.bare
theorem Inv.call{g':Array GenState}{t':Nat}{d':Drawn}{ch:List Addr}(I:Inv X pins σ H s)(u:Un (frs X.stack) ch H H' s.heap h')(hok:HOk X.prog X.w H' h')(hg:AllBare g')
  (hch:∀ b∈ch,(b∈X.ex\/X.s₀.heap.objs.size<=b)/\b≠X.env.locals/\(∀ x c,X.env.cells.lookup x=some c->c≠b)/\∀ p∈X.pn++pins,p.1≠b) :
  Inv X pins σ H' { s with heap:=h',gens:=g',drawn:=d',toks:=t' }:=by
 obtain⟨m,⟨o,es,ep,ho,r⟩,_⟩:=id I.loc;obtain⟨sl,hL⟩:=u.any ho I.free fun z=>(hch _ z).2.1 rfl;exact I.step (ch:=ch) hch (fun b o hL hb hc e n=>u.keep b o e n (fun z=>(List.mem_cons.1 (I.stkSub b z)).elim hL hb) hc) (fun b o _ _ hc e n=>u.any e n hc) (fun b o hc e n=>u.free b o e n hc) (fun b o hc e=>u.there b o e hc) u.tups u.frzs u.tbls (fun m' hm=>by
  obtain⟨o',es',ep',ho',r'⟩:=hm;rw[ho] at ho';cases ho'
  exact⟨_,es',ep',hL,r'⟩) hok hg
theorem Inv.turned{t':Nat}{it:Addr}(I:Inv X pins σ H s)(k:∀ b o,b≠it->s.heap.get? b=some o->h'.get? b=some o)(hn:H it=none)(hL:it≠X.env.locals)
  (h1:it∈X.ex\/X.s₀.heap.objs.size<=it)(h2:∀ x c,X.env.cells.lookup x=some c->c≠it)(h3:∀ p∈X.pn++pins,p.1≠it):Inv X pins σ H { s with heap:=h',toks:=t' }:=by
 have nit:∀ b u,H b=some u->b≠it:=fun b u e z=>by rw[z,hn] at e;cases e
 refine I.step (g':=s.gens) (d':=s.drawn) (ch:=[it]) (fun b hb=>?_) (fun b o _ _ hc e _=>k b o (fun z=>hc (by simp[z])) e) (fun b o _ _ hc e _=>⟨o.slots,k b o (fun z=>hc (by simp[z])) e⟩) (fun _ _ _ _ n=>n)
  (fun b o hc e=>⟨o,k b o (fun z=>hc (by simp[z])) e⟩) (fun _ _ e=>e) (fun _ _ _ e=>e) (fun b ps e=>⟨#[],by rw[e];simp⟩) (fun m hm=>?_) (fun b u e=>?_) I.bare
 ·have e:b=it:=by simpa using hb
  subst e;exact⟨h1,hL,h2,h3⟩
 ·obtain⟨o,es,ep,ho,r⟩:=hm;exact⟨o,es,ep,k _ o (Ne.symm hL) ho,r⟩
 ·refine(I.hok b u e).stay (fun c v hc q=>k c v ?_ q) (fun _ q=>q) fun _ _ q=>q
  rcases hc with z | z
  ·rw[z];exact nit b u e
  ·exact nit c _ z
theorem Inv.tok(I:Inv X pins σ H s)(t:Nat):Inv X pins σ H { s with toks:=t }:=I.un (h':=s.heap) (t':=t) Un.refl I.hok
theorem Inv.kept(I:Inv X pins σ H s)(k:∀ b u,s.heap.get? b=some u->h'.get? b=some u):Inv X pins σ H { s with heap:=h',toks:=t' }:=I.un (Un.kept k) (I.hok.kept k)
theorem Inv.laid(I:Inv X pins σ H s)(k:∀ b u,s.heap.get? b=some u->h'.get? b=some u)(hp:s.heap.objs.size<=a)(new:ZC X.prog X.w (upd H a o) h' a o) :
  Inv X pins σ (upd H a o) { s with heap:=h',toks:=t' }:=I.un (Un.laid k hp (I.hok.fresh hp)) (I.hok.laid k hp new)
theorem Inv.write(I:Inv X pins σ H s)(mu:Mut (H x))(he:e=x\/H e=some (.own x))(k:∀ b u,b≠e->s.heap.get? b=some u->h'.get? b=some u)(heo:∃ u,h'.get? e=some u)
  (new:ZC X.prog X.w (upd H x o) h' x o):Inv X pins σ (upd H x o) { s with heap:=h',toks:=t' }:=I.un (Un.write mu he k heo) (I.hok.write mu he k heo new)
theorem Inv.pins_of(I:Inv X pins σ H s)(h:∀ p∈pins',s.heap.get? p.1=some p.2/\H p.1=none/\p.1≠X.env.locals/\p.1∉X.fs/\∀ v,p.2.data≠.cell v):Inv X pins' σ H s:=
 ⟨I.ok,I.os,I.bare,I.base,I.loc,I.cell,I.free,I.freeC,fun p hp=>(List.mem_append.1 hp).elim (fun z=>I.pin p (mem_append_left _ z)) (h p),I.hok,I.len⟩
theorem qk{N:List Str}(hN:N.Nodup){i j:Nat}{x:Str}(a:N[i]?=some x)(b:N[j]?=some x):i=j:=by
 obtain⟨h1,e1⟩:=List.getElem?_eq_some_iff.1 a;obtain⟨h2,e2⟩:=List.getElem?_eq_some_iff.1 b;exact(List.getElem_inj hN).mp (e1.trans e2.symm)
theorem Zba{M:Model}{A:Around}{E:zVP}{i:Nat}{x:Str}{v:V}{u:Value}{Q:Unit->Shared->Prop}(I:Inv X pins σ H s)(hN:X.N.Nodup)(hi:X.N[i]?=some x)(hx:Loc X.env.scope x)(r:RelV v u)
  (h:∀ s',Inv X pins (σ.set i (some v)) H s'->(∃ a,SameBut a s.heap s'.heap/\(a=X.env.locals\/X.env.cells.lookup x=some a))->Q () s')(hf:X.fn x=true\/X.env.scope.names.lookup x=some .local:=by first | exact .inl rfl | exact .inr rfl | assumption):wpAny M A (storeName X.env x u) Q E s:=by
 obtain⟨m,hn,hl⟩:=id I.loc;have hcls:(X.env.scope.kind==.class||(X.env.scope.kind==.module&&X.env.locals != X.env.globals))=false:=by rw[I.ok.kind];rfl
 have hiσ:i < σ.length:=by rw[I.len];exact(List.getElem?_eq_some_iff.1 hi).1
 have cne:=I.cne;have tracked:∀ {a:Addr}{h':Heap},(∃ o,s.heap.get? a=some o/\H a=none)->SameBut a s.heap h'->HOk X.prog X.w H h':=fun {a h'} ha hs b ob e=>by
  obtain⟨_,_,hfree⟩:=ha;refine(I.hok b ob e).stay (fun c w' hc q=>(hs.2 c ?_).trans q) (fun _ q=>q) fun _ _ q=>q;rintro rfl
  rcases hc with rfl | hc
  ·rw[hfree] at e;cases e
  ·rw[hfree] at hc;cases hc
 rcases hx with hk | hk
 ·refine wpAny_storeName_local hk hn (fun h' hn' hs=>?_) hcls;obtain⟨oL,_,_,hoL,_⟩:=id hn;refine h _ ⟨I.ok,I.os,I.bare,⟨fun b o e n hb hx=>?_,fun b o e n hb hx=>?_,I.base.free,fun b o e hx=>?_,I.base.tups,I.base.frzs,I.base.tbls⟩,⟨_,hn',fun j y v' e1 e2 e3=>?_⟩,fun y c e=>?_,I.free,I.freeC,fun p hp=>?_,tracked ⟨oL,hoL,I.free⟩ hs,by simpa using I.len⟩ ⟨_,hs,.inl rfl⟩
  ·exact(hs.2 b (oAp (oAo (oAf e) I.ok.above))).trans (I.base.keep b o e n hb hx)
  ·obtain⟨sl,e1⟩:=I.base.slot b o e n hb hx;exact⟨sl,(hs.2 b (oAp (oAo (oAf e) I.ok.above))).trans e1⟩
  ·obtain⟨o',e1⟩:=I.base.there b o e hx;exact⟨o',(hs.2 b (oAp (oAo (oAf e) I.ok.above))).trans e1⟩
  ·by_cases hj:j=i
   ·subst hj;rw[hi] at e1;cases e1
    rw[getElem?_set_self hiσ] at e2;cases e2
    exact⟨u,r,.inl ⟨hk,by simp⟩⟩
   ·rw[getElem?_set_ne (Ne.symm hj)] at e2;obtain⟨u',r',q⟩:=hl j y v' e1 e2 e3;refine⟨u',r',?_⟩
    rcases q with ⟨k,e⟩ | ⟨k,c,e,z⟩
    ·refine .inl ⟨k,?_⟩;have:y≠x:=fun e=>hj (qk hN e1 (e ▸ hi));simp[this,e]
    ·exact .inr ⟨k,c,e,z.sameBut hs (cne y c e)⟩
  ·obtain⟨w',z⟩:=I.cell y c e;exact⟨w',z.sameBut hs (cne y c e)⟩
  ·obtain⟨e,n,ne,nf,d⟩:=I.pin p hp;exact⟨(hs.2 p.1 ne).trans e,n,ne,nf,d⟩
 ·have hfn:X.fn x=true:=by
   rcases hf with z | z
   ·exact z
   ·rw[z] at hk;cases hk
  obtain⟨c,hc⟩:=I.ok.has x (.inl hk);obtain⟨w',z⟩:=I.cell x c hc;refine wpAny_storeName_cell I.ok.kind hk hc z (fun h' hc' hs=>?_);obtain⟨oc,hoc,hocd⟩:=id z;refine h { s with heap:=h' } ⟨I.ok,I.os,I.bare,⟨fun b o e n hb hx=>?_,fun b o e n hb hx=>?_,I.base.free,fun b o e hx=>?_,I.base.tups,I.base.frzs,I.base.tbls⟩,⟨m,hn.sameBut hs (Ne.symm (cne x c hc)),fun j y v' e1 e2 e3=>?_⟩,fun y c' e=>?_,I.free,I.freeC,fun p hp=>?_,tracked ⟨oc,hoc,I.freeC x c hc⟩ hs,by simpa using I.len⟩ ⟨c,hs,.inr hc⟩
  ·exact(hs.2 b (oAp (oAo (oAf e) (I.ok.cab x c hfn hc)))).trans (I.base.keep b o e n hb hx)
  ·obtain⟨sl,e1⟩:=I.base.slot b o e n hb hx;exact⟨sl,(hs.2 b (oAp (oAo (oAf e) (I.ok.cab x c hfn hc)))).trans e1⟩
  ·obtain⟨o',e1⟩:=I.base.there b o e hx;exact⟨o',(hs.2 b (oAp (oAo (oAf e) (I.ok.cab x c hfn hc)))).trans e1⟩
  ·by_cases hj:j=i
   ·subst hj;rw[hi] at e1;cases e1
    rw[getElem?_set_self hiσ] at e2;cases e2
    exact⟨u,r,.inr ⟨.inl hk,c,hc,hc'⟩⟩
   ·rw[getElem?_set_ne (Ne.symm hj)] at e2;obtain⟨u',r',q⟩:=hl j y v' e1 e2 e3;refine⟨u',r',?_⟩
    rcases q with q | ⟨k,c',e,z'⟩
    ·exact .inl q
    ·refine .inr ⟨k,c',e,z'.sameBut hs ?_⟩;rintro rfl;exact hj (qk hN e1 (I.ok.inj _ _ _ e hc ▸ hi))
  ·by_cases hcc:c'=c
   ·subst hcc;exact⟨_,hc'⟩
   ·obtain⟨w2,z2⟩:=I.cell y c' e;exact⟨w2,z2.sameBut hs hcc⟩
  ·obtain⟨e,n,ne,nf,d⟩:=I.pin p hp;refine⟨(hs.2 p.1 ?_).trans e,n,ne,nf,d⟩;intro q;rw[q,hoc] at e;have q':oc=p.2:=oAk e;exact d w' (by rw[<- q'];exact hocd)
theorem VE{E:zVP}{Q:Unit->Shared->Prop}(I:Inv X pins σ H s)(hN:X.N.Nodup)(hi:X.N[i]?=some x)(hx:Loc X.env.scope x)(r:RelV v u)
  (h:∀ s',Inv X pins (σ.set i (some v)) H s'->Q () s')(hf:X.fn x=true\/X.env.scope.names.lookup x=some .local:=by first | exact .inl rfl | exact .inr rfl | assumption):wpAny M A (storeName X.env x u) Q E s:=
 Zba I hN hi hx r (fun s' I' _=>h s' I') hf
end
abbrev XK:=Value->Option Addr->Hp->Prop
noncomputable abbrev St:=List (Option V)
abbrev VK:=V->Hp->Prop
abbrev TE:=St->Hp->VK->Prop
abbrev TT:=St->Hp->(Bool->Hp->Prop)->Prop
abbrev TA:=St->Hp->(List V->Hp->Prop)->Prop
structure Ends where
 nx:St->Hp->Prop
 rt:VK
 bk:St->Hp->Prop:=fun _ _=>False
 ct:St->Hp->Prop:=fun _ _=>False
abbrev TS:=Ends->St->Hp->Prop
inductive EP(X:Cx)(pins:zPn)(σ:St)(Q:VK)(u:Value)(s':Shared):Prop
 |mk (v:V) (H':Hp) (i:Inv X pins σ H' s') (r:RelV v u) (q:Q v H')
inductive TP(X:Cx)(pins:zPn)(σ:St)(Q:Bool->Hp->Prop)(b:Bool)(s':Shared):Prop
 |mk (H':Hp) (i:Inv X pins σ H' s') (q:Q b H')
inductive AP(X:Cx)(pins:zPn)(σ:St)(Q:List V->Hp->Prop)(us:List Value)(s':Shared):Prop
 |mk (vs:List V) (H':Hp) (i:Inv X pins σ H' s') (r:Vals vs us) (q:Q vs H')
inductive SPn(X:Cx)(pins:zPn)(Q:St->Hp->Prop)(s':Shared):Prop
 |mk (σ':St) (H':Hp) (i:Inv X pins σ' H' s') (q:Q σ' H')
inductive SPr(X:Cx)(pins:zPn)(Q:VK)(u:Value)(s':Shared):Prop
 |mk (v:V) (σ':St) (H':Hp) (i:Inv X pins σ' H' s') (r:RelV v u) (q:Q v H')
def SP(X:Cx)(pins:zPn)(D:Ends)(f:Flow)(s':Shared):Prop:=
 match f with
 |.next=>SPn X pins D.nx s'
 |.brk=>SPn X pins D.bk s'
 |.cont=>SPn X pins D.ct s'
 |.ret u=>SPr X pins D.rt u s'
def PE(X:Cx)(e:Expr)(t:TE):Prop:=
 ∀ (pins:zPn) (s:Shared) (σ:St) (H:Hp) (Q:VK),Inv X pins σ H s->t σ H Q->wpAny (model X.prog X.w) X.A (eval e X.env) (EP X pins σ Q) X.xe s
def PT(X:Cx)(e:Expr)(t:TT):Prop:=
 ∀ (pins:zPn) (s:Shared) (σ:St) (H:Hp) (Q:Bool->Hp->Prop),Inv X pins σ H s->t σ H Q->wpAny (model X.prog X.w) X.A (isTrue e X.env (eval e X.env)) (TP X pins σ Q) X.xe s
def PW(X:Cx)(e:Expr)(t:TT):Prop:=
 ∀ (whole:Sem Value) (pins:zPn) (s:Shared) (σ:St) (H:Hp) (Q:Bool->Hp->Prop),Inv X pins σ H s->t σ H Q->wpAny (model X.prog X.w) X.A (isTrue e X.env whole) (TP X pins σ Q) X.xe s
theorem PW.pt(h:PW X e t):PT X e t:=h _
def PA(X:Cx)(es:List Expr)(t:TA):Prop:=
 ∀ (pos:Pos) (pins:zPn) (s:Shared) (σ:St) (H:Hp) (Q:List V->Hp->Prop),Inv X pins σ H s->t σ H Q->wpAny (model X.prog X.w) X.A (spliced (backTo pos (starEach es X.env))) (AP X pins σ Q) X.xe s
def PS(X:Cx)(st:Stmt)(t:TS):Prop:=
 ∀ (pins:zPn) (s:Shared) (σ:St) (H:Hp) (D:Ends),Inv X pins σ H s->t D σ H->wpAny (model X.prog X.w) X.A (exec st X.env) (SP X pins D) X.xe s
def PSs(X:Cx)(st:List Stmt)(t:TS):Prop:=
 ∀ (pins:zPn) (s:Shared) (σ:St) (H:Hp) (D:Ends),Inv X pins σ H s->t D σ H->wpAny (model X.prog X.w) X.A (execs st X.env) (SP X pins D) X.xe s
theorem thn{α:Type}{t:Sem α}{Q Q':α->Shared->Prop}{M:Model}{A:Around}{E:zVP}{s:Shared}(h:wpAny M A t Q E s)(hQ:∀ a s,Q a s->Q' a s):wpAny M A t Q' E s:=oAc h hQ fun _ _ x=>x
section
variable {X:Cx}
noncomputable def tVar(i:Nat):TE:=fun σ H Q=>∃ v,σ[i]?=some (some v)/\Q v H
noncomputable def tC(v:V):TE:=fun _ H Q=>Q v H
theorem Ze8(hN:X.N[i]?=some x)(hv:Vis X.env.scope x)(hd:(x==("__debug__":Str))=false:=by decide)(hcd:(x==("__classdict__":Str))=false:=by decide):PE X (.Name x pos) (tVar i):=by
 intro pins s σ H Q I h;obtain⟨v,e,h⟩:=h;obtain⟨m,hn,hl⟩:=I.loc;obtain⟨u,r,l⟩:=hl i x v hN e hv;have fin:EP X pins σ Q u s:=⟨v,H,I,r,h⟩
 rcases l with ⟨hk,hm⟩ | ⟨hk,c,hc,hcell⟩
 ·exact wpAny_Name (wpAny_loadName_local I.ok.kind hk hn hm fin) hd
 ·rcases hk with hk | hk
  ·exact wpAny_Name (wpAny_loadName_cell I.ok.kind hk hc hcell fin) hd
  ·exact wpAny_Name (wpAny_loadName_free I.ok.kind hk hc hcell fin hcd) hd
theorem Ze9{i j pos}:PE X (.Constant (.int i) j pos) (tC (.int i)):=fun _ _ _ H _ I h=>wpAny_Constant_int ⟨.int i,H,I.tok _,⟨_,rfl⟩,h⟩
theorem ZhM{b j pos}:PE X (.Constant (.bool b) j pos) (tC (.bl b)):=fun _ _ _ H _ I h=>Constant_bool ⟨.bl b,H,I,rfl,h⟩
theorem Zfa{j pos}:PE X (.Constant .none j pos) (tC .non):=fun _ _ _ H _ I h=>Constant_none ⟨.non,H,I,rfl,h⟩
theorem Zbb{x j pos}:PE X (.Constant (.str x) j pos) (tC (.str x)):=fun _ _ _ H _ I h=>Calls.Constant_str ⟨.str x,H,I.tok _,⟨_,rfl⟩,h⟩
def Gl(X:Cx)(x:Str):Prop:=X.env.kindOf x=some .globalImplicit
theorem YF{E:zVP}{Q:zVP}(I:Inv X pins σ H s)(hg:Gl X x)(hm:X.mg x=some u)(h:Q u s)
  (hd:(x==("__debug__":Str))=false:=by decide):wpAny (model X.prog X.w) X.A (eval (.Name x pos) X.env) Q E s:=
 Calls.Name_function_global I.ok.kind hg (Calls.loadGlobal_global (by rw[I.ok.glob];exact I.mod.glob.keeps I.bk) hm h) hd
theorem Ji{E:zVP}{Q:zVP}(I:Inv X pins σ H s)(hg:Gl X x)(hm:X.mg x=none)(hv:bootBuiltins x=some u)(h:Q u s)
  (hn:x≠"__name__":=by decide)(hd:(x==("__debug__":Str))=false:=by decide):wpAny (model X.prog X.w) X.A (eval (.Name x pos) X.env) Q E s:=by
 obtain⟨mb,h1,h2⟩:=I.mod.blt;exact Calls.Name_function_global I.ok.kind hg (Calls.loadGlobal_builtin (by rw[I.ok.glob];exact I.mod.glob.keeps I.bk) hm (by rw[I.ok.blt];exact h1.keeps I.bk) ((h2 x hn).trans hv) h) hd
variable {a b:Expr}{ta tb:TE}{pos:Pos}
def PC(X:Cx)(op:CmpOp)(a b:Expr)(t:TE):Prop:=
 ∀ (pins:zPn) (s:Shared) (σ:St) (H:Hp) (Q:VK),Inv X pins σ H s->t σ H Q ->
  wpAny (model X.prog X.w) X.A (eval a X.env) (fun v s₁=>wpAny (model X.prog X.w) X.A (eval b X.env) (fun u s₂=>wpAny (model X.prog X.w) X.A (compareOp op v u) (EP X pins σ Q) X.xe s₂) X.xe s₁) X.xe s
noncomputable def tIsN(ta:TE):TE:=fun σ H Q=>ta σ H fun x H1=>Q (.bl (decide (x=.non))) H1
noncomputable def ZhN(ta:TE):TE:=fun σ H Q=>ta σ H fun x H1=>Q (.bl (!decide (x=.non))) H1
theorem RelV.none_iff(r:RelV x v):(v==Value.none)=decide (x=.non):=by
 cases x with
 |non=>cases r;rfl
 |bl _=>cases r;rfl
 |int _=>obtain⟨t,rfl⟩:=r;rfl
 |str _=>obtain⟨t,rfl⟩:=r;rfl
 |byt _=>obtain⟨t,rfl⟩:=r;rfl
 |flt _=>obtain⟨t,rfl⟩:=r;rfl
 |ref _=>cases r;rfl
 |ty _=>cases r;rfl
theorem Zfb{j pos'}(ha:PE X a ta):PC X .Is a (.Constant .none j pos') (tIsN ta):=by
 intro pins s σ H Q I h;refine thn (ha pins s σ H _ I h) fun v s1 ⟨x,H1,I1,r1,q1⟩=>?_;exact Constant_none (is_none_gen ⟨.bl _,H1,I1,by rw[r1.none_iff];rfl,q1⟩)
theorem ZdB{j pos'}(ha:PE X a ta):PC X .IsNot a (.Constant .none j pos') (ZhN ta):=by
 intro pins s σ H Q I h;refine thn (ha pins s σ H _ I h) fun v s1 ⟨x,H1,I1,r1,q1⟩=>?_;exact Constant_none (isnot_none_gen ⟨.bl _,H1,I1,by rw[r1.none_iff];rfl,q1⟩)
theorem UF(h:PC X op a b t)(h1:behindInMarks op b=false:=by first | exact nobehind _ (by decide) (by decide) | rfl):PE X (.Compare a [op] [b] pos) t:=fun pins s σ H Q I hw=>wpAny_Compare1 (h pins s σ H Q I hw) h1
variable {tA tB':TT}{rest:List Expr}
theorem ZdC(ha:PT X a tA):PW X (.BoolOp .And [a] pos) tA:=by
 intro wh pins s σ H Q I h;refine isTrue_and (thn (ha pins s σ H Q I h) fun c s1 e=>?_);cases c with
 |true=>exact isTrue_and_nil e
 |false=>exact e
theorem Zfc(ha:PT X a tA):PW X (.BoolOp .Or [a] pos) tA:=by
 intro wh pins s σ H Q I h;refine isTrue_or (thn (ha pins s σ H Q I h) fun c s1 e=>?_);cases c with
 |false=>exact isTrue_or_nil e
 |true=>exact e
theorem Zfd{op}(h:PE X a t):PE X (.BoolOp op [a] pos) t:=fun pins s σ H Q I hw=>BoolOp_one (h pins s σ H Q I hw)
end
def SqL(K:Frag)(H:Hp)(a:Addr)(xs:List V):Prop:=
 Rd H a (.lst xs) \/
  ∃ (o:Obj) (its:Array Value) (n:Nat),K.lookup a=some o/\o.cls=.type "list"/\o.dict=none/\o.data=.seq its n/\its.size<=sizeLine/\Vals xs its.toList
def SqT(K:Frag)(H:Hp)(a:Addr)(xs:List V):Prop:=
 Rd H a (.tup xs) \/
  ∃ (o:Obj) (its:Array Value) (n:Nat),K.lookup a=some o/\o.cls=.type "tuple"/\o.data=.seq its n/\its.size<=sizeLine/\Vals xs its.toList
noncomputable def absV:Value->Option V
 |.none=>some .non
 |.bool b=>some (.bl b)
 |.int i _=>some (.int i)
 |.str x _=>some (.str x)
 |.bytes b _=>some (.byt b)
 |.float b _=>some (.flt b)
 |.ref a=>some (.ref a)
 |.type n=>some (.ty n)
 |_=>none
theorem RelV.abs(r:RelV x u):absV u=some x:=by
 cases x with
 |non=>cases r;rfl
 |bl _=>cases r;rfl
 |int _=>obtain⟨t,rfl⟩:=r;rfl
 |str _=>obtain⟨t,rfl⟩:=r;rfl
 |byt _=>obtain⟨t,rfl⟩:=r;rfl
 |flt _=>obtain⟨t,rfl⟩:=r;rfl
 |ref _=>cases r;rfl
 |ty _=>cases r;rfl
theorem RelV.inj{x y:V}{u:Value}(r:RelV x u)(q:RelV y u):x=y:=oAk (r.abs.symm.trans q.abs)
theorem Vals.inj:∀ {xs ys:List V}{us:List Value},Vals xs us->Vals ys us->xs=ys
 |_,_,_,.nil,.nil=>rfl
 |_,_,_,.cons r t,.cons r' t'=>by rw[r.inj r',Vals.inj t t']
section
variable {X:Cx}{pins:zPn}{σ:St}{H:Hp}{s:Shared}{a:Addr}{xs ys:List V}
theorem SqL.of{K:Frag}(h:H a=some (.lst xs)):SqL K H a xs:=.inl (.inl h)
theorem Inv.list(I:Inv X pins σ H s)(h:SqL X.K H a xs):∃ its:List Value,Vals xs its/\PlainL s.heap a its.toArray/\xs.length<=sizeLine:=by
 rcases h with h | ⟨o,its,n,hk,hc,hd,hs,hz,r⟩
 ·obtain⟨z,its,n,r,e⟩:=h.ok I.hok;exact⟨its,r,⟨_,n,e,rfl,rfl,rfl⟩,z⟩
 ·refine⟨its.toList,r,⟨o,n,I.kIn a o hk,hc,hd,by simpa using hs⟩,?_⟩;have e:=r.length;simp only[length_toList] at e;lia
theorem Inv.tuple(I:Inv X pins σ H s)(h:SqT X.K H a xs):∃ its:List Value,Vals xs its/\IsTup s.heap a its.toArray/\xs.length<=sizeLine:=by
 rcases h with h | ⟨o,its,n,hk,hc,hs,hz,r⟩
 ·obtain⟨z,its,r,p⟩:=h.ok I.hok;exact⟨its,r,p,z⟩
 ·refine⟨its.toList,r,⟨o,I.kIn a o hk,hc,n,by simpa using hs⟩,?_⟩;have e:=r.length;simp only[length_toList] at e;lia
theorem Inv.list_inj(I:Inv X pins σ H s)(h:SqL X.K H a xs)(h':SqL X.K H a ys):xs=ys:=by
 obtain⟨its,r,⟨o,n,e,_,_,d⟩,_⟩:=I.list h;obtain⟨its',r',⟨o',n',e',_,_,d'⟩,_⟩:=I.list h';rw[e] at e';cases e'
 rw[d] at d';injection d' with d1 _
 have:its=its':=by simpa using congrArg Array.toList d1
 subst this;exact r.inj r'
theorem Inv.tuple_inj(I:Inv X pins σ H s)(h:SqT X.K H a xs)(h':SqT X.K H a ys):xs=ys:=by
 obtain⟨its,r,⟨o,e,_,n,d⟩,_⟩:=I.tuple h;obtain⟨its',r',⟨o',e',_,n',d'⟩,_⟩:=I.tuple h';rw[e] at e';cases e'
 rw[d] at d';injection d' with d1 _
 have:its=its':=by simpa using congrArg Array.toList d1
 subst this;exact r.inj r'
end
noncomputable abbrev Cx.wish(X:Cx)(E:zVP):Cx:={ X with xe:=E }
noncomputable abbrev Cx.nox(X:Cx):Cx:=X.wish fun _ _=>False
theorem Cx.Ok.wish{X:Cx}(ok:X.Ok)(E:zVP):(X.wish E).Ok:=
 ⟨ok.mod,ok.kind,ok.glob,ok.blt,ok.above,ok.inj,ok.has,ok.cab,ok.hd,ok.frames,ok.stk,ok.exf,ok.bs,ok.bsz,ok.noex,ok.exfs,ok.funs,ok.frf⟩
theorem Cx.Ok.unwish{X:Cx}{E:zVP}(ok:(X.wish E).Ok):X.Ok:=
 ⟨ok.mod,ok.kind,ok.glob,ok.blt,ok.above,ok.inj,ok.has,ok.cab,ok.hd,ok.frames,ok.stk,ok.exf,ok.bs,ok.bsz,ok.noex,ok.exfs,ok.funs,ok.frf⟩
section
variable {X:Cx}{pins:zPn}{σ:St}{H:Hp}{s:Shared}{E:zVP}
theorem Inv.wish(I:Inv X pins σ H s)(E:zVP):Inv (X.wish E) pins σ H s:=⟨I.ok.wish E,I.os,I.bare,I.base,I.loc,I.cell,I.free,I.freeC,I.pin,I.hok,I.len⟩
theorem Inv.unwish(I:Inv (X.wish E) pins σ H s):Inv X pins σ H s:=⟨I.ok.unwish,I.os,I.bare,I.base,I.loc,I.cell,I.free,I.freeC,I.pin,I.hok,I.len⟩
theorem SP.unwish(h:SP (X.wish E) pins D f s'):SP X pins D f s':=by
 cases f with
 |next=>obtain⟨σ',H',I,q⟩:=h;exact⟨σ',H',I.unwish,q⟩
 |brk=>obtain⟨σ',H',I,q⟩:=h;exact⟨σ',H',I.unwish,q⟩
 |cont=>obtain⟨σ',H',I,q⟩:=h;exact⟨σ',H',I.unwish,q⟩
 |ret u=>obtain⟨v,σ',H',I,r,q⟩:=h;exact⟨v,σ',H',I.unwish,r,q⟩
theorem PSs.nox{st:List Stmt}{t:TS}(h:PSs X.nox st t):PSs X st t:=fun pins s σ H D I hw=>
 oAc (h pins s σ H D (I.wish _) hw) (fun _ _ q=>q.unwish) fun _ _ z=>False.elim z
end
section
variable {X:Cx}{st:Stmt}{rest:List Stmt}{t u:TS}{e:Expr}{te:TE}{pos:Pos}
noncomputable def ZhO:TS:=fun D σ H=>D.nx σ H
noncomputable def tSeq(t u:TS):TS:=fun D σ H=>t { D with nx:=u D } σ H
theorem ZdD:PSs X [] ZhO:=fun _ _ σ H _ I h=>wpAny_execs_nil ⟨σ,H,I,h⟩
theorem Zcf(h1:PS X st t)(h2:PSs X rest u):PSs X (st::rest) (tSeq t u):=by
 intro pins s σ H D I h;refine wpAny_execs_cons (thn (h1 pins s σ H { D with nx:=u D } I h) fun f s1 q=>?_);cases f with
 | next=>
  obtain⟨σ',H',I',q⟩:=q;exact h2 pins s1 σ' H' D I' q
 |ret v=>exact q
 |brk=>exact q
 |cont=>exact q
theorem Inv.quiet(I:Inv X pins σ H s):interactive X.env=false:=by simp[interactive,I.ok.kind]
noncomputable def ZhP(te:TE):TS:=fun D σ H=>te σ H fun _ H1=>D.nx σ H1
theorem ZdE(he:PE X e te)(hs:swapsWith e none pos.line X.env=pure false:=by rfl):PS X (.Expr e pos) (ZhP te):=by
 intro pins s σ H D I h;exact wpAny_Expr_any (thn (he pins s σ H _ I h) fun v s1 ⟨x,H1,I1,r1,q1⟩=>⟨σ,H1,I1,q1⟩) I.quiet hs
noncomputable def tRet(te:TE):TS:=fun D σ H=>te σ H D.rt
theorem Zfe(he:PE X e te):PS X (.Return (some e) pos) (tRet te):=by
 intro pins s σ H D I h;exact wpAny_Return_some (thn (he pins s σ H _ I h) fun v s1 ⟨x,H1,I1,r1,q1⟩=>⟨x,σ,H1,I1,r1,q1⟩)
noncomputable def tIfS(c:TT)(t u:TS):TS:=fun D σ H=>c σ H fun b H1=>if b=true then t D σ H1 else u D σ H1
theorem ZhQ(hc:PT X c tc)(ha:PSs X a t)(hb:PSs X b u):PS X (.If c a b pos) (tIfS tc t u):=by
 intro pins s σ H D I h;refine wpAny_If (thn (hc pins s σ H _ I h) fun d s1 ⟨H1,I1,q1⟩=>?_);cases d with
 |true=>exact ha pins s1 σ H1 D I1 q1
 |false=>exact hb pins s1 σ H1 D I1 q1
end
abbrev TG:=V->St->Hp->(St->Hp->Prop)->Prop
abbrev TGs:=List V->St->Hp->(St->Hp->Prop)->Prop
def PG(X:Cx)(target:Expr)(t:TG):Prop:=
 ∀ (pins:zPn) (s:Shared) (σ:St) (H:Hp) (v:V) (u:Value) (Q:St->Hp->Prop),Inv X pins σ H s->RelV v u->t v σ H Q ->
  wpAny (model X.prog X.w) X.A (assign target X.env u) (fun _ s'=>SPn X pins Q s') X.xe s
def PGs(X:Cx)(ts:List Expr)(t:TGs):Prop:=
 ∀ (pins:zPn) (s:Shared) (σ:St) (H:Hp) (vs:List V) (us:List Value) (Q:St->Hp->Prop),Inv X pins σ H s->Vals vs us->t vs σ H Q ->
  wpAny (model X.prog X.w) X.A (assignInOrder ((assignEach ts X.env).map (·.2)) us) (fun _ s'=>SPn X pins Q s') X.xe s
abbrev TSet:=V->V->V->Hp->(Hp->Prop)->Prop
inductive HPo(X:Cx)(pins:zPn)(σ:St)(Q:Hp->Prop)(s':Shared):Prop
 |mk (H':Hp) (i:Inv X pins σ H' s') (q:Q H')
def PSet(X:Cx)(t:TSet):Prop:=
 ∀ (pins:zPn) (s:Shared) (σ:St) (H:Hp) (o i v:V) (ov iv u:Value) (Q:Hp->Prop),Inv X pins σ H s->RelV o ov->RelV i iv->RelV v u->t o i v H Q ->
  wpAny (model X.prog X.w) X.A (setItem ov iv u) (fun _ s'=>HPo X pins σ Q s') X.xe s
section
variable {X:Cx}{pos:Pos}
noncomputable def ZhR(i:Nat):TG:=fun v σ H Q=>Q (σ.set i (some v)) H
theorem ZdF(hN:X.N.Nodup)(hi:X.N[i]?=some x)(hx:Loc X.env.scope x)(hf:X.fn x=true\/X.env.scope.names.lookup x=some .local:=by first | exact .inl rfl | exact .inr rfl | assumption):PG X (.Name x pos) (ZhR i):=by
 intro pins s σ H v u Q I r h;exact wpAny_assign_Name (VE I hN hi hx r (fun s' I'=>⟨_,H,I',h⟩) hf)
noncomputable def gNil:TGs:=fun vs σ H Q=>vs=[]/\Q σ H
noncomputable def ZhS(t:TG)(u:TGs):TGs:=fun vs σ H Q=>∃ v r,vs=v::r/\t v σ H fun σ' H'=>u r σ' H' Q
theorem ZdG:PGs X [] gNil:=by
 intro pins s σ H vs us Q I r h;obtain⟨e,h⟩:=h;subst e;cases r
 exact assignInOrder_nil ⟨σ,H,I,h⟩
theorem Zcg(h1:PG X e t)(h2:PGs X es u)
  (hs:(assignEach (e::es) X.env).map (·.2)=assign e X.env::(assignEach es X.env).map (·.2):=by rfl):PGs X (e::es) (ZhS t u):=by
 intro pins s σ H vs us Q I r h;obtain⟨v,vr,e1,h⟩:=h;subst e1;cases r with
 | cons r rr=>
  rw[hs];refine assignInOrder_cons (thn (h1 pins s σ H _ _ _ I r h) fun _ s1 ⟨σ1,H1,I1,q1⟩=>?_);exact h2 pins s1 σ1 H1 _ _ Q I1 rr q1
noncomputable def gTup(K:Frag)(n:Nat)(t:TGs):TG:=fun v σ H Q=>∃ a xs,v=.ref a/\SqT K H a xs/\xs.length=n/\t xs σ H Q
theorem Zff(hc:X.calm=true)(h:PGs X es t)
  (hn:(assignEach es X.env).length=n:=by rfl)(hst:(assignEach es X.env).findIdx? (·.1)=none:=by rfl):PG X (.Tuple es k pos) (gTup X.K n t):=by
 intro pins s σ H v u Q I r hw;obtain⟨a,xs,e1,hq,hl,hw⟩:=hw;subst e1;cases r
 obtain⟨its,rv,ht,hz⟩:=I.tuple hq;refine assign_Tuple_tuple (I.ok.hd hc) ht (by simp[hn,<-hl,rv.length]) hst fun h' hx=>?_;have I1:Inv X pins σ H { s with heap:=h' }:=I.kept (t':=s.toks) fun b o e=>hx b o (oAp (oAf e)) e;exact h pins _ σ H xs _ Q I1 (by simpa using rv) hw
noncomputable def gSub(to ti:TE)(t:TSet):TG:=fun v σ H Q=>to σ H fun o H1=>ti σ H1 fun i H2=>t o i v H2 fun H3=>Q σ H3
theorem Zbc(ho:PE X o to)(hi:PE X i ti)(hs:PSet X t)
  (ha:∀ v,assign (.Subscript o i pos) X.env v=(do
   let ov<-holding [v] (eval o X.env)
   let iv<-holding [v,ov] (eval i X.env)
   standAt pos
   holding [v,ov,iv] (setItem ov iv v)
   release [v,ov,iv] []):=by intro _;rfl):PG X (.Subscript o i pos) (gSub to ti t):=by
 intro pins s σ H v u Q I r h;rw[ha];refine oAa (wpAny_holding (thn (ho pins s σ H _ I h) fun ov s1 ⟨x,H1,I1,r1,q1⟩=>?_));refine oAa (wpAny_holding (thn (hi pins s1 σ H1 _ I1 q1) fun iv s2 ⟨y,H2,I2,r2,q2⟩=>?_));refine oAa (wpAny_standAt (oAa (wpAny_holding (thn (hs pins s2 σ H2 x y v ov iv u _ I2 r1 r2 r q2) fun _ s3 ⟨H3,I3,q3⟩=>?_))));exact wpAny_release ⟨σ,H3,I3,q3⟩
noncomputable def tAsg(te:TE)(g:TG):TS:=fun D σ H=>te σ H fun x H1=>g x σ H1 D.nx
theorem Zfg(he:PE X e te)(hg:PG X tg g)(hs:swapsWithSole [tg] e pos.line X.env=pure false:=by rfl)(hw:swappedStores [tg] e X.env=pure none:=by rfl)
  (h1:(assignEach [tg] X.env).map (·.2)=[assign tg X.env]:=by rfl):PS X (.Assign [tg] e pos) (tAsg te g):=by
 intro pins s σ H D I h;refine wpAny_Assign_stores (thn (he pins s σ H _ I h) fun v s1 ⟨x,H1,I1,r1,q1⟩=>?_) hs hw;rw[h1];exact thn (hg pins s1 σ H1 x v _ I1 r1 q1) fun _ s2 q=>q
noncomputable def tPar(i j:Nat)(ta:TA):TS:=fun D σ H=>ta σ H fun vs H1=>∃ v w,vs=[v,w]/\D.nx ((σ.set i (some v)).set j (some w)) H1
theorem Zfh{kt k2 pt2}(hc:X.calm=true)(hN:X.N.Nodup)(hi:X.N[i]?=some x)(hj:X.N[j]?=some y)(hij:i≠j)
  (hx:X.env.scope.names.lookup x=some .local)(hy:X.env.scope.names.lookup y=some .local)(ha:PA X [a,b] ta)
  (hw:swappedStores [.Tuple [.Name x px,.Name y py] kt pt] (.Tuple [a,b] k2 pt2) X.env=pure (some [x,y]))
  (hs:swapsWithSole [.Tuple [.Name x px,.Name y py] kt pt] (.Tuple [a,b] k2 pt2) pos.line X.env=pure false:=by rfl) :
  PS X (.Assign [.Tuple [.Name x px,.Name y py] kt pt] (.Tuple [a,b] k2 pt2) pos) (tPar i j ta):=by
 intro pins s σ H D I h;rw[exec_Assign_arm];refine oAa (wpAny_standAt ?_);rw[hs];refine oAa (oAb ?_);rw[if_neg (by decide)];refine oAa (Tuple_ (thn (ha _ pins s σ H _ I h) fun us s1 ⟨vs,H1,I1,r1,q1⟩=>?_));obtain⟨v,w,e1,q1⟩:=q1;subst e1;obtain⟨u1,u2,rfl,rv,rw'⟩:∃ u1 u2,us=[u1,u2]/\RelV v u1/\RelV w u2:=by
  cases r1 with
  | cons p q=>
   cases q with
   | cons p' q'=>
    cases q'
    exact⟨_,_,rfl,p,p'⟩
 refine wpAny_newObj_type ?_ (by show 2<=sizeLine;decide)
 have I2:Inv X pins σ H1 { s1 with heap:=s1.heap.push { cls:=.type "tuple",data:=.seq [u1,u2].toArray } }:=I1.kept (t':=s1.toks) fun b o e=>oAd _ e;rw[hw];refine oAa (oAb ?_);show wpAny (model X.prog X.w) X.A (do rule "assign.swapped-stores";let items<-unpackItems (.ref s1.heap.objs.size) 2 none;assignInOrder [fun v=>bindName X.env y v,fun v=>bindName X.env x v] items.reverse;pure Flow.next) _ _ _
 refine oAa (wpAny_rule (oAa (unpackItems_tuple (items:=#[u1,u2]) (I.ok.hd hc) (IsTup.new s1.heap _) fun h' hx'=>?_)));have I3:=I2.kept (h':=h') (t':=s1.toks) fun b o e=>hx' b o (oAp (oAf e)) e;show wpAny _ _ (assignInOrder [fun v=>bindName X.env y v,fun v=>bindName X.env x v] [u2,u1]>>=fun _=>pure Flow.next) _ _ _;refine oAa (assignInOrder_cons (wpAny_bindName (VE I3 hN hj (.inl hy) rw' (fun s2 I4=>?_) (.inr hy))));refine assignInOrder_cons (wpAny_bindName (VE I4 hN hi (.inl hx) rv (fun s3 I5=>assignInOrder_nil (oAb ?_)) (.inr hx)));rw[List.set_comm _ _ (Ne.symm hij)] at I5;exact⟨_,H1,I5,q1⟩
end
structure It where
 go:Nat->Hp->Prop
 yld:Nat->Hp->V->Hp->Prop
 stop:Nat->Hp->Prop
def FpOk(X:Cx)(pins:zPn)(H:Hp)(b:Addr):Prop:=
 H b=none/\b≠X.env.locals/\b∉X.fs/\(b∈X.ex\/X.s₀.heap.objs.size<=b)/\(∀ x c,X.env.cells.lookup x=some c->c≠b)/\∀ p∈X.pn++pins,p.1≠b
theorem Inv.fpOk(I:Inv X pins σ H s)(hb:s.heap.objs.size<=b)(hn:H' b=none):FpOk X pins H' b:=by
 refine⟨hn,ne_of_gt (oAo I.lt hb),I.nofs hb,.inr (oAq I.sz hb),fun x c e z=>?_,fun p hp z=>?_⟩
 ·obtain⟨v,q⟩:=I.cell x c e;exact absurd (oAo q.lt (by rw[z];exact hb)) (oAr _)
 ·exact absurd (oAo (oAf (I.pin p hp).1) (by rw[z];exact hb)) (oAr _)
inductive YP(X:Cx)(pins:zPn)(σ:St)(J:It)(i:Nat)(H:Hp)(tn:Nat->Heap->Prop)(fp:List Addr)(u:Value)(s2:Shared):Prop
 |mk (x:V) (H':Hp) (I:Inv X pins σ H' s2) (r:RelV x u) (y:J.yld i H x H') (t:tn (i+1) s2.heap) (f:∀ b∈fp,H' b=none)
structure Turn(P:Program)(w:World)(K:Frag)(tg:Expr)(J:It)(fp:List Addr)(it:Addr)(tn:Nat->Heap->Prop):Prop where
 mem:it∈fp
 obj:∀ i h,tn i h->∀ b∈fp,∃ o,h.get? b=some o/\∀ v,o.data≠.cell v
 keep:∀ i h h',tn i h->(∀ b∈fp,∀ o,h.get? b=some o->h'.get? b=some o)->tn i h'
 item:∀ (X:Cx),X.prog=P->X.w=w->X.K=K->X.calm=true->∀ (i:Nat) (pins:zPn) (s:Shared) (σ:St) (H:Hp) (E:zVP),Inv X pins σ H s->(∀ b∈fp,FpOk X pins H b)->tn i s.heap->J.go i H ->
  wpAny (model P w) X.A (pyNext (.ref it)) (fun r s1=>∃ u,r=some u /\
   wpAny (model P w) X.A (letOwnedTupleGo tg (.ref it) u) (fun _ s2=>YP X pins σ J i H tn fp u s2) E s1) E s
 done:∀ (X:Cx),X.prog=P->X.w=w->X.K=K->X.calm=true->∀ (i:Nat) (pins:zPn) (s:Shared) (σ:St) (H:Hp) (E:zVP),Inv X pins σ H s->(∀ b∈fp,FpOk X pins H b)->tn i s.heap->J.stop i H ->
  wpAny (model P w) X.A (pyNext (.ref it)) (fun r s1=>r=none/\Inv X pins σ H s1) E s
 self:∀ (A:Around) (i:Nat) (s:Shared) (Q:zVP) (E:zVP),tn i s.heap->Q (.ref it) s->wpAny (model P w) A (pyIter (.ref it)) Q E s
abbrev TI:=St->Hp->(It->Hp->Prop)->Prop
inductive PIE(X:Cx)(pins:zPn)(σ:St)(tg:Expr)(R:It->Hp->Prop)(itv:Value)(s2:Shared):Prop
 |mk (it:Addr) (fp:List Addr) (tn:Nat->Heap->Prop) (J:It) (H':Hp) (e:itv=.ref it) (i:Inv X pins σ H' s2) (t:Turn X.prog X.w X.K tg J fp it tn) (z:tn 0 s2.heap) (f:∀ b∈fp,FpOk X pins H' b) (r:R J H')
def PI(X:Cx)(tg iter:Expr)(wi:TI):Prop:=
 ∀ (pins:zPn) (s:Shared) (σ:St) (H:Hp) (R:It->Hp->Prop),Inv X pins σ H s->wi σ H R ->
  wpAny (model X.prog X.w) X.A (eval iter X.env) (fun v s1=>wpAny (model X.prog X.w) X.A (pyIter v) (PIE X pins σ tg R) X.xe s1) X.xe s
theorem VR{E:zVP}{Q:Unit->Shared->Prop}(ho:s.heap.get? it=some o)(hc:o.cls=.type n)(hd:o.data=.fields vs)
    (hn:["enumerate","zip","dict_itemiterator","dict_reverseitemiterator","odict_iterator","itertools.zip_longest","itertools.pairwise"].contains n=false)(hQ:Q () s):wpAny M A (letOwnedTupleGo tg (.ref it) u) Q E s:=by
  unfold letOwnedTupleGo;cases tg<;>first
    |exact oAb hQ
    | (cases u<;>first
        |exact oAb hQ
        | (refine oAa (wpAny_load ho ?_)
           rw[hc,hd];show wpAny M A (if (["enumerate","zip","dict_itemiterator","dict_reverseitemiterator","odict_iterator","itertools.zip_longest","itertools.pairwise"].contains n&&vs[0]?==some (rawInt _))=true then _ else _) Q E s;rw[if_neg (by intro h;rw[hn,Bool.false_and] at h;cases h)]
           exact oAb hQ))
noncomputable def Itl(K:Frag)(a:Addr):It:=
 ⟨fun i H=>∃ xs x,SqL K H a xs/\xs[i]?=some x,fun i H x H'=>H'=H/\∀ xs,SqL K H a xs->xs[i]?=some x,fun i H=>∃ xs,SqL K H a xs/\xs.length<=i⟩
noncomputable def Itt(K:Frag)(a:Addr):It:=
 ⟨fun i H=>∃ xs x,SqT K H a xs/\xs[i]?=some x,fun i H x H'=>H'=H/\∀ xs,SqT K H a xs->xs[i]?=some x,fun i H=>∃ xs,SqT K H a xs/\xs.length<=i⟩
noncomputable def Itr(lo:Int)(n:Nat):It:=⟨fun i _=>i<n,fun i H x H'=>H'=H/\x=.int (lo+i),fun i _=>n<=i⟩
theorem Zbd{P:Program}{w:World}{K:Frag}{tg:Expr}(a it:Addr):Turn P w K tg (Itl K a) [it] it (fun i h=>h.IsListIter it a i) where
 mem:=by simp
 obj:=fun i h st b hb=>by
  have e:b=it:=by simpa using hb
  subst e;obtain⟨o,e,c,d⟩:=st;exact⟨o,e,fun v z=>by rw[d] at z;cases z⟩
 keep:=fun i h h' st k=>st.at fun o e=>k it (by simp) o e
 item:=by
  intro X hP hw hK hc i pins s σ H E I hf st hg;subst hP hw hK;obtain⟨xs,x,hq,hx⟩:=hg;obtain⟨its,rv,p,hz⟩:=I.list hq;obtain⟨u,hu,ru⟩:=rv.get hx;obtain⟨f0,f1,f2,f3,f4,f5⟩:=hf it (by simp);refine wpAny_pyNext_list_item st p.isList (x:=u) (by simpa using hu) fun h' st' sb=>?_;have I1:Inv X pins σ H { s with heap:=h' }:=I.turned (t':=s.toks) (fun b o hb e=>(sb.2 b hb).trans e) f0 f1 f3 f4 f5;obtain⟨o,e,c,d⟩:=id st';exact⟨u,rfl,VR (s:={ s with heap:=h' }) e c d (by decide) ⟨x,H,I1,ru,⟨rfl,fun ys hy=>by rw[I.list_inj hy hq];exact hx⟩,st',fun b hb=>(hf b hb).1⟩⟩
 done:=by
  intro X hP hw hK hc i pins s σ H E I hf st hg;subst hP hw hK;obtain⟨xs,hq,hx⟩:=hg;obtain⟨its,rv,p,hz⟩:=I.list hq;obtain⟨f0,f1,f2,f3,f4,f5⟩:=hf it (by simp);have hl:=rv.length;exact wpAny_pyNext_list_end (I.ok.hd hc) st p.isList (by simp;lia) fun h' eb=>⟨rfl,I.turned (t':=s.toks) (fun b o hb e=>eb b o hb e) f0 f1 f3 f4 f5⟩
 self:=fun _ _ _ _ _ st h=>wpAny_pyIter_listiter st h
theorem Zat{P:Program}{w:World}{K:Frag}{tg:Expr}(a it:Addr):Turn P w K tg (Itt K a) [it] it (fun i h=>h.IsTupleIter it a i) where
 mem:=by simp
 obj:=fun i h st b hb=>by
  have e:b=it:=by simpa using hb
  subst e;obtain⟨o,e,c,d⟩:=st;exact⟨o,e,fun v z=>by rw[d] at z;cases z⟩
 keep:=fun i h h' st k=>st.at fun o e=>k it (by simp) o e
 item:=by
  intro X hP hw hK hc i pins s σ H E I hf st hg;subst hP hw hK;obtain⟨xs,x,hq,hx⟩:=hg;obtain⟨its,rv,p,hz⟩:=I.tuple hq;obtain⟨u,hu,ru⟩:=rv.get hx;obtain⟨f0,f1,f2,f3,f4,f5⟩:=hf it (by simp);refine wpAny_pyNext_tuple_item st (show s.heap.IsTuple a its.toArray from p) (x:=u) (by simpa using hu) fun h' st' sb=>?_;have I1:Inv X pins σ H { s with heap:=h' }:=I.turned (t':=s.toks) (fun b o hb e=>(sb.2 b hb).trans e) f0 f1 f3 f4 f5;obtain⟨o,e,c,d⟩:=id st';exact⟨u,rfl,VR (s:={ s with heap:=h' }) e c d (by decide) ⟨x,H,I1,ru,⟨rfl,fun ys hy=>by rw[I.tuple_inj hy hq];exact hx⟩,st',fun b hb=>(hf b hb).1⟩⟩
 done:=by
  intro X hP hw hK hc i pins s σ H E I hf st hg;subst hP hw hK;obtain⟨xs,hq,hx⟩:=hg;obtain⟨its,rv,p,hz⟩:=I.tuple hq;obtain⟨f0,f1,f2,f3,f4,f5⟩:=hf it (by simp);have hl:=rv.length;exact wpAny_pyNext_tuple_end (I.ok.hd hc) st (show s.heap.IsTuple a its.toArray from p) (by simp;lia) fun h' eb=>⟨rfl,I.turned (t':=s.toks) (fun b o hb e=>eb b o hb e) f0 f1 f3 f4 f5⟩
 self:=fun _ _ _ _ _ st h=>wpAny_pyIter_tupleiter st h
theorem Zau{P:Program}{w:World}{K:Frag}{tg:Expr}(it:Addr)(lo:Int)(n:Nat):Turn P w K tg (Itr lo n) [it] it (fun i h=>IsRangeIter h it (lo+(i:Nat) * 1) ((n:Int) - (i:Nat)) 1) where
 mem:=by simp
 obj:=fun i h st b hb=>by
  have e:b=it:=by simpa using hb
  subst e;exact⟨_,st,fun v z=>by
   have z':Data.fields _=Data.cell v:=z;cases z'⟩
 keep:=fun i h h' st k=>k it (by simp) _ st
 item:=by
  intro X hP hw hK hc i pins s σ H E I hf st hg;subst hP hw hK;obtain⟨f0,f1,f2,f3,f4,f5⟩:=hf it (by simp);have W:=Walks.range (prog:=X.prog) (w:=X.w) (I.ok.hd hc) it lo 1 n;refine W.item i s _ _ hg st fun v h' tk hv st' kk=>?_;obtain⟨t,rfl⟩:=hv;have I1:Inv X pins σ H { s with heap:=h',toks:=tk }:=I.turned (fun b o hb e=>kk b o (by simpa using hb) e) f0 f1 f3 f4 f5;refine⟨_,rfl,VR (s:={ s with heap:=h',toks:=tk }) (n:="range_iterator") st' rfl rfl (by decide) ⟨.int (lo+i),H,I1,⟨t,?_⟩,⟨rfl,rfl⟩,st',fun b hb=>(hf b hb).1⟩⟩;rw[Int.mul_one]
 done:=by
  intro X hP hw hK hc i pins s σ H E I hf st hg;subst hP hw hK;obtain⟨f0,f1,f2,f3,f4,f5⟩:=hf it (by simp);exact wpAny_pyNext_range_end (I.ok.hd hc) st (by have:n<=i:=hg;lia) fun h' eb=>⟨rfl,I.turned (t':=s.toks) (fun b o hb e=>eb b o hb e) f0 f1 f3 f4 f5⟩
 self:=fun _ _ _ _ _ st h=>wpAny_pyIter_rangeiter st h
section
variable {X:Cx}{tg:Expr}
noncomputable def ZhT(K:Frag)(tl:TE):TI:=fun σ H R=>tl σ H fun x H1=>∃ a,x=.ref a/\(∃ xs,SqL K H1 a xs)/\R (Itl K a) H1
noncomputable def iTup(K:Frag)(tl:TE):TI:=fun σ H R=>tl σ H fun x H1=>∃ a,x=.ref a/\(∃ xs,SqT K H1 a xs)/\R (Itt K a) H1
theorem zK{l:Expr}{tl:TE}(hl:PE X l tl):PI X tg l (ZhT X.K tl):=by
 intro pins s σ H R I h;refine thn (hl pins s σ H _ I h) fun v s1 ⟨x,H1,I1,r1,q1⟩=>?_;obtain⟨a,e,⟨xs,hq⟩,q⟩:=q1;subst e;cases r1
 obtain⟨its,rv,p,hz⟩:=I1.list hq;refine wpAny_pyIter_list p.isList ?_;refine⟨s1.heap.objs.size,[s1.heap.objs.size],_,_,H1,rfl,I1.kept (t':=s1.toks) fun b o e=>oAd _ e,Zbd a _,⟨_,oAe _ rfl,rfl,rfl⟩,fun b hb=>?_,q⟩;have e:b=s1.heap.objs.size:=by simpa using hb
 subst e;exact I1.fpOk (oAl _) (I1.hok.fresh (oAl _))
theorem Zfi{l:Expr}{tl:TE}(hl:PE X l tl):PI X tg l (iTup X.K tl):=by
 intro pins s σ H R I h;refine thn (hl pins s σ H _ I h) fun v s1 ⟨x,H1,I1,r1,q1⟩=>?_;obtain⟨a,e,⟨xs,hq⟩,q⟩:=q1;subst e;cases r1
 obtain⟨its,rv,p,hz⟩:=I1.tuple hq;refine wpAny_pyIter_tuple (show s1.heap.IsTuple a its.toArray from p) ?_;refine⟨s1.heap.objs.size,[s1.heap.objs.size],_,_,H1,rfl,I1.kept (t':=s1.toks) fun b o e=>oAd _ e,Zat a _,⟨_,oAe _ rfl,rfl,rfl⟩,fun b hb=>?_,q⟩;have e:b=s1.heap.objs.size:=by simpa using hb
 subst e;exact I1.fpOk (oAl _) (I1.hok.fresh (oAl _))
theorem Zch{pins:zPn}{σ:St}{H:Hp}{s:Shared}{R:It->Hp->Prop}{E:zVP}{lo hi:Int}{t u v:Tok}{tk:Nat}(I:Inv X pins σ H s)(h1:-(2 ^ 62)<=lo)(h2:lo<2 ^ 62)(h3:-(2 ^ 62)<=hi)(h4:hi<2 ^ 62)
  (q:R (Itr lo (hi - lo).toNat) H):wpAny (model X.prog X.w) X.A (pyIter (.ref s.heap.objs.size)) (PIE X pins σ tg R) E { s with heap:=s.heap.push { cls:=.type "range",data:=.fields #[.int lo t,.int hi u,.int 1 v] },toks:=tk }:=by
 refine wpAny_pyIter_range (IsRange.new ..) (small_one h1 h2 h3 h4) ?_;have I1:Inv X pins σ H { s with heap:=s.heap.push { cls:=.type "range",data:=.fields #[.int lo t,.int hi u,.int 1 v] },toks:=tk }:=I.kept fun b o e=>oAd _ e;refine⟨(s.heap.push { cls:=.type "range",data:=.fields #[.int lo t,.int hi u,.int 1 v] }).objs.size,[(s.heap.push { cls:=.type "range",data:=.fields #[.int lo t,.int hi u,.int 1 v] }).objs.size],_,_,H,rfl,
  I1.kept (t':=tk) fun b o e=>oAd _ e,Zau _ lo (hi - lo).toNat,?_,fun b hb=>?_,q⟩
 ·have e1:lo+((0:Nat):Int) * 1=lo:=by simp
  have e2:(((hi - lo).toNat:Nat):Int) - ((0:Nat):Int)=Builtin.Range.rangeSize lo hi 1:=by rw[rangeSize_one];split<;>lia
  show IsRangeIter _ _ (lo+((0:Nat):Int) * 1) ((((hi - lo).toNat:Nat):Int) - ((0:Nat):Int)) 1;rw[e1,e2];exact oAe _ rfl
 ·have e:b=(s.heap.push { cls:=.type "range",data:=.fields #[.int lo t,.int hi u,.int 1 v] }).objs.size:=by simpa using hb
  subst e;exact I1.fpOk (oAl _) (I1.hok.fresh (oAl _))
noncomputable def ZhU(ta:TA):TI:=fun σ H R=>ta σ H fun vs H1=>∃ j:Int,vs=[.int j]/\-(2 ^ 62)<=j/\j<2 ^ 62/\R (Itr 0 j.toNat) H1
theorem Zbe{a:Expr}{ta:TA}{p pos:Pos}(hg:Gl X "range")(hm:X.mg "range"=none)(ha:PA X [a] ta)(hs:starEach [a] X.env=[(false,eval a X.env)]:=by rfl):PI X tg (.Call (.Name "range" p) [a] [] pos) (ZhU ta):=by
 intro pins s σ H R I h;refine Call_ (Ji I hg hm boot_range (PyProof.Rows.callWith_type1 (thn (ha pos pins s σ H _ I h) fun us s1 ⟨vs,H1,I1,r1,q1⟩=>?_) hs rfl));obtain⟨j,e,q1,q2,q⟩:=q1;subst e;cases r1 with
 | cons r rr=>
  cases rr
  obtain⟨t,rfl⟩:=r;exact call_range_1 (Zch I1 (by lia) (by lia) q1 q2 (by simpa using q))
noncomputable def tFor(wi:TI)(g:TG)(tb:TS):TS:=fun D σ H=>wi σ H fun J H1=>∃ W:Nat->Nat->St->Hp->Prop,(∃ m,W 0 m σ H1)/\∀ i m σ H,W i m σ H ->
 (J.stop i H/\D.nx σ H)\/(J.go i H/\∃ N:St->Hp->Prop,(∀ σ' H',N σ' H'->∃ m',m'<m/\W (i+1) m' σ' H')/\∀ x H',J.yld i H x H'->g x σ H' fun σ2 H2=>tb { D with nx:=N,ct:=N,bk:=D.nx } σ2 H2)
noncomputable def ZT(fp:List Addr)(h:Heap):zPn:=fp.filterMap fun b=>(h.get? b).map fun o=>(b,o)
theorem Yt(hb:b∈fp)(e:h.get? b=some o):(b,o)∈ZT fp h:=List.mem_filterMap.2 ⟨b,hb,by rw[e];rfl⟩
theorem Ww(hp:p∈ZT fp h):p.1∈fp/\h.get? p.1=some p.2:=by
 obtain⟨b,hb,e⟩:=List.mem_filterMap.1 hp;cases q:h.get? b with
 |none=>rw[q] at e;cases e
 | some o=>
  rw[q] at e;have e':(b,o)=p:=oAk e;subst e';exact⟨hb,q⟩
theorem Inv.pinned(I:Inv X pins σ H s)(hf:∀ b∈fp,FpOk X pins H b)(ho:∀ b∈fp,∃ o,s.heap.get? b=some o/\∀ v,o.data≠.cell v):Inv X (pins++ZT fp s.heap) σ H s:=
 I.pins_of fun p hp=>(List.mem_append.1 hp).elim (fun z=>I.pin p (oAu _ z)) fun z=>by
  obtain⟨hb,e⟩:=Ww z;obtain⟨f0,f1,f2,_⟩:=hf p.1 hb;obtain⟨o,e',d⟩:=ho p.1 hb;rw[e] at e';cases e'
  exact⟨e,f0,f1,f2,d⟩
theorem Inv.unpinned(I:Inv X (pins++pl) σ H s):Inv X pins σ H s:=I.pins_of fun p hp=>I.pin p (oAu _ (mem_append_left _ hp))
theorem Zfj(hp:PassesOwn (model X.prog X.w) X.A X.env X.xe)(hc:X.calm=true)(hi:PI X tg iter wi)(hg:PG X tg g)(hb:PSs X body tb)
  (hs:∀ x,foldedSetIterable iter X.env x=pure x:=by intro _;rfl):PS X (.For tg iter body [] pos) (tFor wi g tb):=by
 intro pins s σ H D I h;refine wpAny_For (thn (hi pins s σ H _ I h) fun v s1 h1=>thn h1 fun itv s2 h2=>?_) hs;obtain⟨it,fp,tn,J,H2,e,I2,T,st2,f2,W,⟨m0,w0⟩,turn⟩:=h2;subst e;have stat:∀ {H':Hp},(∀ b∈fp,H' b=none)->∀ b∈fp,FpOk X pins H' b:=fun hn b hb=>⟨hn b hb,(f2 b hb).2⟩;refine codeAny_forLoop_any (fun n s'=>∃ i σ' H',Inv X pins σ' H' s'/\tn i s'.heap/\(∀ b∈fp,H' b=none)/\W i n σ' H') ?_ m0 ⟨0,σ,H2,I2,st2,fun b hb=>(f2 b hb).1,w0⟩;rintro n s3 ⟨i,σ3,H3,I3,st3,fr3,w3⟩
 rcases turn i n σ3 H3 w3 with ⟨stop,qn⟩ | ⟨go,N,hN,step⟩
 ·refine wpAny_passesOwn hp (thn (T.done X rfl rfl rfl hc i pins s3 σ3 H3 X.xe I3 (stat fr3) st3 stop) fun r s4 ⟨hr,I4⟩=>?_);subst hr;exact wpAny_execs_nil ⟨σ3,H3,I4,qn⟩
 ·refine wpAny_passesOwn hp (thn (T.item X rfl rfl rfl hc i pins s3 σ3 H3 X.xe I3 (stat fr3) st3 go) fun r s4 ⟨u,hr,h4⟩=>?_);subst hr;refine wpAny_passesOwn hp (thn h4 fun _ s5 ⟨x,H5,I5,r5,y5,st5,fr5⟩=>?_);have I5':=I5.pinned (stat fr5) (T.obj _ _ st5);refine wpAny_passesOwn hp (thn (hg _ s5 σ3 H5 x u _ I5' r5 (step x H5 y5)) fun _ s6 ⟨σ6,H6,I6,q6⟩=>?_);refine wpAny_passesOwn hp (thn (hb _ s6 σ6 H6 _ I6 q6) fun f s7 q7=>?_);have again:∀ {σ7:St}{H7:Hp},Inv X (pins++ZT fp s5.heap) σ7 H7 s7->N σ7 H7->∃ m,m<n/\∃ i σ' H',Inv X pins σ' H' s7/\tn i s7.heap/\(∀ b∈fp,H' b=none)/\W i m σ' H':=fun {σ7 H7} I7 n7=>by
   obtain⟨m',hm,w7⟩:=hN σ7 H7 n7;refine⟨m',hm,i+1,σ7,H7,I7.unpinned,T.keep _ _ _ st5 fun b hb o e=>(I7.pin (b,o) (oAu _ (oAu _ (Yt hb e)))).1,fun b hb=>?_,w7⟩;obtain⟨o,e,d⟩:=T.obj _ _ st5 b hb;exact(I7.pin (b,o) (oAu _ (oAu _ (Yt hb e)))).2.1
  cases f with
  |next=>obtain⟨σ7,H7,I7,n7⟩:=q7;exact again I7 n7
  |cont=>obtain⟨σ7,H7,I7,n7⟩:=q7;exact again I7 n7
  |brk=>obtain⟨σ7,H7,I7,q7⟩:=q7;exact⟨σ7,H7,I7.unpinned,q7⟩
  |ret v=>obtain⟨x7,σ7,H7,I7,r7,q7⟩:=q7;exact⟨x7,σ7,H7,I7.unpinned,r7,q7⟩
end
abbrev R2:=V->V->Hp->VK->Prop
def OpR(X:Cx)(f:Value->Value->Sem Value)(r:R2):Prop:=
 ∀ (pins:zPn) (s:Shared) (σ:St) (H:Hp) (x y:V) (v u:Value) (Q:VK),Inv X pins σ H s->RelV x v->RelV y u->r x y H Q ->
  wpAny (model X.prog X.w) X.A (f v u) (EP X pins σ Q) X.xe s
def YB(X:Cx)(f:Value)(r:List V->Hp->VK->Prop):Prop:=
 ∀ (pins:zPn) (s:Shared) (σ:St) (H:Hp) (xs:List V) (us:List Value) (Q:VK),Inv X pins σ H s->Vals xs us->r xs H Q ->
  wpAny (model X.prog X.w) X.A (call f us) (EP X pins σ Q) X.xe s
def TruR(X:Cx)(r:V->Hp->(Bool->Hp->Prop)->Prop):Prop:=
 ∀ (pins:zPn) (s:Shared) (σ:St) (H:Hp) (x:V) (v:Value) (Q:Bool->Hp->Prop),Inv X pins σ H s->RelV x v->r x H Q ->
  wpAny (model X.prog X.w) X.A (truthy v) (TP X pins σ Q) X.xe s
noncomputable def rI(C:Int->Int->Prop)(g:Int->Int->V):R2:=fun x y H Q=>∃ i j,x=.int i/\y=.int j/\C i j/\Q (g i j) H
noncomputable def rI0(g:Int->Int->V):R2:=fun x y H Q=>∃ i j,x=.int i/\y=.int j/\Q (g i j) H
section
variable {X:Cx}{a b c:Expr}{ta tb tc:TE}{pos:Pos}
theorem binT(ha:PE X a ta)(hb:PE X b tb){pins:zPn}{s:Shared}{σ:St}{H:Hp}{R:V->V->Hp->Prop}(I:Inv X pins σ H s)
  (h:ta σ H fun x H1=>tb σ H1 fun y H2=>R x y H2){Q:zVP}{f:Value->Value->Sem Value}
  (hf:∀ v u s2 x y H2,Inv X pins σ H2 s2->RelV x v->RelV y u->R x y H2->wpAny (model X.prog X.w) X.A (f v u) Q X.xe s2) :
  wpAny (model X.prog X.w) X.A (eval a X.env) (fun v s₁=>wpAny (model X.prog X.w) X.A (eval b X.env) (fun u s₂=>wpAny (model X.prog X.w) X.A (f v u) Q X.xe s₂) X.xe s₁) X.xe s:=by
 refine thn (ha pins s σ H _ I h) fun v s1 ⟨x,H1,I1,r1,q1⟩=>?_;refine thn (hb pins s1 σ H1 _ I1 q1) fun u s2 ⟨y,H2,I2,r2,q2⟩=>?_;exact hf v u s2 x y H2 I2 r1 r2 q2
theorem opI{f:Value->Value->Sem Value}{C:Int->Int->Prop}{g:Int->Int->Int}
  (rule:∀ (i j:Int) (t u:Tok) (s:Shared) (Q:zVP) (E:zVP),C i j->Q (.int (g i j) s.toks) { s with toks:=s.toks+1 }->wpAny (model X.prog X.w) X.A (f (.int i t) (.int j u)) Q E s) :
  OpR X f (rI C fun i j=>.int (g i j)):=by
 intro pins s σ H x y v u Q I rx ry h;obtain⟨i,j,rfl,rfl,hc,q⟩:=h;obtain⟨t,rfl⟩:=rx;obtain⟨t',rfl⟩:=ry;exact rule i j t t' s _ _ hc ⟨.int (g i j),H,I.tok _,⟨_,rfl⟩,q⟩
theorem opI0{f:Value->Value->Sem Value}{g:Int->Int->Int}
  (rule:∀ (i j:Int) (t u:Tok) (s:Shared) (Q:zVP) (E:zVP),Q (.int (g i j) s.toks) { s with toks:=s.toks+1 }->wpAny (model X.prog X.w) X.A (f (.int i t) (.int j u)) Q E s) :
  OpR X f (rI0 fun i j=>.int (g i j)):=by
 intro pins s σ H x y v u Q I rx ry h;obtain⟨i,j,rfl,rfl,q⟩:=h;obtain⟨t,rfl⟩:=rx;obtain⟨t',rfl⟩:=ry;exact rule i j t t' s _ _ ⟨.int (g i j),H,I.tok _,⟨_,rfl⟩,q⟩
def CPow(i j:Int):Prop:=0<=j/\j<=1000000/\i.natAbs<2 ^ 64
theorem two_pow_nn(k:Nat):(0:Int)<=2 ^ k:=by
 rw[two_pow_cast];exact Int.natCast_nonneg _
theorem Zfk:OpR X (binaryOp .Add) (rI0 fun i j=>.int (i+j)):=opI0 fun _ _ _ _ _ _ _ q=>add_int q
theorem Zfl:OpR X (binaryOp .Sub) (rI0 fun i j=>.int (i - j)):=opI0 fun _ _ _ _ _ _ _ q=>sub_int q
theorem Zfm:OpR X (binaryOp .Mod) (rI (fun _ j=>0<j) fun i j=>.int (i % j)):=opI fun i j _ _ _ _ _ hc q=>by
 have h1:(0:Int)<j:=hc;exact mod_int' (by lia) (by rw[Int.fmod_eq_emod_of_nonneg i (by lia)];exact q)
theorem Zfn:OpR X (binaryOp .LShift) (rI CPow fun i j=>.int (i * 2 ^ j.toNat)):=opI fun _ _ _ _ _ _ _ hc q=>lshift_int_small hc.1 hc.2.1 hc.2.2 q
theorem Zfo:OpR X (binaryOp .RShift) (rI (fun _ j=>0<=j) fun i j=>.int (i / 2 ^ j.toNat)):=opI fun i j _ _ _ _ _ hc q=>
 rshift_int hc (by rw[Int.fdiv_eq_ediv_of_nonneg i (two_pow_nn _)];exact q)
theorem Zfp:OpR X (binaryOp .BitAnd) (rI0 fun i j=>.int (Builtin.bitAnd i j)):=opI0 fun _ _ _ _ _ _ _ q=>and_int q
end
noncomputable def scal:V->V->Bool
 |.non,.non=>true | .non,.int _=>true | .int _,.non=>true | .non,.bl _=>true | .bl _,.non=>true | .non,.str _=>true | .str _,.non=>true
 |.int _,.int _=>true | .bl _,.bl _=>true | .str _,.str _=>true | .byt _,.byt _=>true
 |.int _,.str _=>true | .str _,.int _=>true | .bl _,.str _=>true | .str _,.bl _=>true
 |_,_=>false
noncomputable def rEq:R2:=fun x y H Q=>scal x y=true/\Q (.bl (decide (x=y))) H
noncomputable def rNe:R2:=fun x y H Q=>scal x y=true/\Q (.bl (!decide (x=y))) H
theorem zL:decide (V.int i=V.int j)=(i==j):=by
 rw[Bool.eq_iff_iff];simp
theorem Zbf:decide (V.bl i=V.bl j)=(i==j):=by
 rw[Bool.eq_iff_iff];simp
theorem zM:decide (V.str i=V.str j)=(i==j):=by
 rw[Bool.eq_iff_iff];simp
theorem zN:decide (V.byt i=V.byt j)=(i.toList==j.toList):=by
 rw[Bool.eq_iff_iff];cases i
 cases j
 simp
section
variable {X:Cx}{a b c:Expr}{ta tb tc:TE}{pos:Pos}
theorem Zx(I:Inv X pins σ H s)(q:Q (.bl k) H)(e:k=k'):EP X pins σ Q (.bool k') s:=by
 subst e;exact⟨.bl k,H,I,rfl,q⟩
theorem ZhV:OpR X (compareOp .Eq) rEq:=by
 intro pins s σ H x y v u Q I rx ry h;obtain⟨hs,q⟩:=h;cases x with
 | non=>
  cases rx
  cases y with
  |non=>cases ry;exact PySem.EqNone.eq_none_none (Zx I q (by simp))
  |bl j=>cases ry;exact PySem.EqNone.eq_none_bool (Zx I q (by simp))
  |int j=>obtain⟨t',rfl⟩:=ry;exact PySem.EqNone.eq_none_int (Zx I q (by simp))
  |str j=>obtain⟨t',rfl⟩:=ry;exact PySem.EqNone.eq_none_str (Zx I q (by simp))
  |_=>exact absurd (show false=true from hs) oAg
 | bl i=>
  cases rx
  cases y with
  |non=>cases ry;exact PySem.EqNone.eq_bool_none (Zx I q (by simp))
  |bl j=>cases ry;exact eq_bool (Zx I q Zbf)
  |str j=>obtain⟨t',rfl⟩:=ry;exact PySem.EqMixed.eq_bool_str (Zx I q (by simp))
  |_=>exact absurd (show false=true from hs) oAg
 | int i=>
  obtain⟨t,rfl⟩:=rx;cases y with
  |non=>cases ry;exact PySem.EqNone.eq_int_none (Zx I q (by simp))
  |int j=>obtain⟨t',rfl⟩:=ry;exact eq_int (Zx I q zL)
  |str j=>obtain⟨t',rfl⟩:=ry;exact PySem.EqMixed.eq_int_str (Zx I q (by simp))
  |_=>exact absurd (show false=true from hs) oAg
 | str i=>
  obtain⟨t,rfl⟩:=rx;cases y with
  |non=>cases ry;exact PySem.EqNone.eq_str_none (Zx I q (by simp))
  |bl j=>cases ry;exact PySem.EqMixed.eq_str_bool (Zx I q (by simp))
  |int j=>obtain⟨t',rfl⟩:=ry;exact PySem.EqMixed.eq_str_int (Zx I q (by simp))
  |str j=>obtain⟨t',rfl⟩:=ry;exact eq_str (Zx I q zM)
  |_=>exact absurd (show false=true from hs) oAg
 | byt i=>
  obtain⟨t,rfl⟩:=rx;cases y with
  |byt j=>obtain⟨t',rfl⟩:=ry;exact PySem.W.eq_bytes (Zx I q zN)
  |_=>exact absurd (show false=true from hs) oAg
 |_=>cases y<;>exact absurd (show false=true from hs) oAg
theorem ZhW:OpR X (compareOp .NotEq) rNe:=by
 intro pins s σ H x y v u Q I rx ry h;obtain⟨hs,q⟩:=h;cases x with
 | non=>
  cases rx
  cases y with
  |non=>cases ry;exact PySem.EqNone.ne_none_none (Zx I q (by simp))
  |bl j=>cases ry;exact PySem.EqNone.ne_none_bool (Zx I q (by simp))
  |int j=>obtain⟨t',rfl⟩:=ry;exact PySem.EqNone.ne_none_int (Zx I q (by simp))
  |str j=>obtain⟨t',rfl⟩:=ry;exact PySem.EqNone.ne_none_str (Zx I q (by simp))
  |_=>exact absurd (show false=true from hs) oAg
 | bl i=>
  cases rx
  cases y with
  |non=>cases ry;exact PySem.EqNone.ne_bool_none (Zx I q (by simp))
  |bl j=>cases ry;exact ne_bool (Zx I q (congrArg not Zbf))
  |str j=>obtain⟨t',rfl⟩:=ry;exact PySem.EqMixed.ne_bool_str (Zx I q (by simp))
  |_=>exact absurd (show false=true from hs) oAg
 | int i=>
  obtain⟨t,rfl⟩:=rx;cases y with
  |non=>cases ry;exact PySem.EqNone.ne_int_none (Zx I q (by simp))
  |int j=>obtain⟨t',rfl⟩:=ry;exact ne_int (Zx I q (congrArg not zL))
  |str j=>obtain⟨t',rfl⟩:=ry;exact PySem.EqMixed.ne_int_str (Zx I q (by simp))
  |_=>exact absurd (show false=true from hs) oAg
 | str i=>
  obtain⟨t,rfl⟩:=rx;cases y with
  |non=>cases ry;exact PySem.EqNone.ne_str_none (Zx I q (by simp))
  |bl j=>cases ry;exact PySem.EqMixed.ne_str_bool (Zx I q (by simp))
  |int j=>obtain⟨t',rfl⟩:=ry;exact PySem.EqMixed.ne_str_int (Zx I q (by simp))
  |str j=>obtain⟨t',rfl⟩:=ry;exact ne_str (Zx I q (congrArg not zM))
  |_=>exact absurd (show false=true from hs) oAg
 | byt i=>
  obtain⟨t,rfl⟩:=rx;cases y with
  |byt j=>obtain⟨t',rfl⟩:=ry;exact PySem.W.ne_bytes (Zx I q (congrArg not zN))
  |_=>exact absurd (show false=true from hs) oAg
 |_=>cases y<;>exact absurd (show false=true from hs) oAg
def TruV(K:Frag)(x:V)(H:Hp)(k:Bool):Prop:=
 match x with
 |.non=>k=false
 |.bl b=>k=b
 |.int i=>k=(i != 0)
 |.str y=>y.length<=sizeLine/\k=((y.length:Int) != 0)
 |.byt y=>y.size<=sizeLine/\k=((y.size:Int) != 0)
 |.ref p=>(∃ xs,SqL K H p xs/\k=!xs.isEmpty)\/(∃ xs,SqT K H p xs/\k=!xs.isEmpty)\/∃ kvs,H p=some (.dK kvs)/\k=!kvs.isEmpty
 |_=>False
theorem Zav{κ:Type}{kvs:List (κ×V)}{vs:List (κ×Value)}(r:KV kvs vs):(!vs.isEmpty)=!kvs.isEmpty:=by
 cases r<;>rfl
theorem VS{xs:List V}{its:List Value}(r:Vals xs its):(!its.toArray.isEmpty)=!xs.isEmpty:=by
 cases r<;>simp
theorem line63:(sizeLine:Nat)<2 ^ 63:=by rw[sizeLine_eq];decide
theorem Zfq:TruR X (fun x H Q=>∃ k,TruV X.K x H k/\Q k H):=by
 intro pins s σ H x v Q I rx h;obtain⟨k,e,q⟩:=h;have hl:=line63;have hs:sizeLine=16777216:=sizeLine_eq;cases x with
 | non=>
  cases rx
  have e':k=false:=e;subst e';exact truthy_none ⟨H,I,q⟩
 | bl b=>
  cases rx
  have e':k=b:=e;subst e';exact wpAny_truthy_bool ⟨H,I,q⟩
 | int i=>
  obtain⟨t,rfl⟩:=rx;have e':k=(i != 0):=e;subst e';exact PySem.P.truthy_int ⟨H,I,q⟩
 | str y=>
  obtain⟨t,rfl⟩:=rx;obtain⟨hy,e'⟩:y.length<=sizeLine/\k=((y.length:Int) != 0):=e;subst e';exact PySem.P.truthy_str (by lia) ⟨H,I.tok _,q⟩
 | byt y=>
  obtain⟨t,rfl⟩:=rx;obtain⟨hy,e'⟩:y.size<=sizeLine/\k=((y.size:Int) != 0):=e;subst e';exact PySem.W.truthy_bytes (by lia) ⟨H,I.tok _,q⟩
 | ref p=>
  cases rx
  have e':(∃ xs,SqL X.K H p xs/\k=!xs.isEmpty)\/(∃ xs,SqT X.K H p xs/\k=!xs.isEmpty)\/∃ kvs,H p=some (.dK kvs)/\k=!kvs.isEmpty:=e
  rcases e' with ⟨xs,hx,e'⟩ | ⟨xs,hx,e'⟩ | ⟨kvs,hx,e'⟩
  ·subst e';obtain⟨its,r,pl,hz⟩:=I.list hx;have hlen:=r.length;exact wpAny_truthy_list pl.isList (by simp only[size_toArray];lia) ⟨H,I.tok _,by rw[VS r];exact q⟩
  ·subst e';obtain⟨its,r,pl,hz⟩:=I.tuple hx;have hlen:=r.length;exact truthy_tuple pl (by simp only[size_toArray];lia) ⟨H,I.tok _,by rw[VS r];exact q⟩
  ·subst e';obtain⟨hz,hS,vs,r,m⟩:kvs.length<=sizeLine/\(p==sysModules)=false/\∃ vs,KV kvs vs/\s.heap.DictOf (ZH X.prog X.w) p vs:=I.hok p _ hx;have hlen:kvs.length=vs.length:=Paired.length r;exact wpAny_truthy_dict hS m (by lia) ⟨H,I.tok _,by rw[Zav r];exact q⟩
 |_=>exact(show False from e).elim
theorem Zaw:OpR X (binaryOp .Add) (fun x y H Q=>∃ i j,x=.str i/\y=.str j/\i.length+j.length<=sizeLine/\Q (.str (i++j)) H):=by
 intro pins s σ H x y v u Q I rx ry h;obtain⟨i,j,rfl,rfl,hz,q⟩:=h;obtain⟨t,rfl⟩:=rx;obtain⟨t',rfl⟩:=ry;exact add_str (fun t' tk=>⟨.str (i++j),H,I.tok _,⟨_,rfl⟩,q⟩) hz
theorem vals1(r:Vals [x] us):∃ u,us=[u]/\RelV x u:=by
 cases r with
 |cons r1 r2=>cases r2;exact⟨_,rfl,r1⟩
theorem vals2(r:Vals [x,y] us):∃ u w',us=[u,w']/\RelV x u/\RelV y w':=by
 cases r with
 | cons r1 r2=>
  cases r2 with
  |cons r3 r4=>cases r4;exact⟨_,_,rfl,r1,r3⟩
theorem Zci:YB X (.builtin "abs") (fun xs H Q=>∃ i,xs=[.int i]/\Q (.int (if i<0 then -i else i)) H):=by
 intro pins s σ H xs us Q I r h;obtain⟨i,rfl,q⟩:=h;obtain⟨u,rfl,t,rfl⟩:=vals1 r;exact call_abs_int fun u tk=>⟨.int (if i<0 then -i else i),H,I.tok _,⟨_,rfl⟩,q⟩
theorem Zbg(hc:X.calm=true):YB X (.builtin "min") (fun xs H Q=>∃ i j,xs=[.int i,.int j]/\Q (.int (if j<i then j else i)) H):=by
 intro pins s σ H xs us Q I r h;obtain⟨i,j,rfl,q⟩:=h;obtain⟨u,w',rfl,⟨t,rfl⟩,⟨t',rfl⟩⟩:=vals2 r;refine min_two_ints (I.ok.hd hc) fun h' tk k=>⟨_,H,I.kept k,?_,q⟩;by_cases hj:j<i
 ·rw[if_pos hj,if_pos hj];exact⟨_,rfl⟩
 ·rw[if_neg hj,if_neg hj];exact⟨_,rfl⟩
theorem Wx:YB X (.type "int") (fun xs H Q=>(∃ i,xs=[.int i]/\Q (.int i) H)\/∃ k,xs=[.bl k]/\Q (.int (if k then 1 else 0)) H):=by
 intro pins s σ H xs us Q I r h
 rcases h with ⟨i,rfl,q⟩ | ⟨k,rfl,q⟩
 ·obtain⟨u,rfl,t,rfl⟩:=vals1 r;exact call_int_int ⟨.int i,H,I,⟨_,rfl⟩,q⟩
 ·obtain⟨u,rfl,r1⟩:=vals1 r;cases r1
  exact call_int_bool ⟨.int (if k then 1 else 0),H,I.tok _,⟨_,rfl⟩,q⟩
end
structure ObjM(h:Heap)(x dx C:Addr)(mA:Str->Option Value):Prop where
 obj:h.get? x=some (PySem.W.instObj C dx)
 ns:h.Ns1 dx mA
 ne:dx≠x
theorem Zbh{h:Heap}{dx:Addr}{mA:Str->Option Value}(n:h.Ns1 dx mA):∃ od,h.get? dx=some od/\∀ name,PySem.W.lookIn name od=some (mA name):=by
 obtain⟨o,es,ep,ho,hd,hk,_,hm⟩:=n;refine⟨o,ho,fun name=>?_⟩;have e:=hm name;unfold nsFind findBy at e;rw[<- Array.find?_toList] at e;unfold PySem.W.lookIn;rw[hd];dsimp only;split
 ·rename_i y q;rw[q] at e;exact congrArg some e
 ·rename_i q;rw[q] at e;have a:es.toList.any (·.refKey)=false:=by
   rw[List.any_eq_false];intro y hy;obtain⟨z,t,hkey⟩:=hk y (Array.mem_toList_iff.1 hy);simp[DictEntry.refKey,hkey]
  have a':¬ es.toList.any (·.refKey)=true:=by rw[a];exact oAg
  rw[if_neg a'];exact congrArg some e
theorem ObjM.look(I:ObjM h x dx C mA):∃ od,PySem.W.InstAt h x (PySem.W.instObj C dx) C (some od)/\∀ name,PySem.W.lookIn name od=some (mA name):=
 let ⟨od,ho,hl⟩:=Zbh I.ns
 ⟨od,⟨I.obj,rfl,rfl,ho⟩,hl⟩
section
variable {prog:Program}{w:World}{A:Around}{E:zVP}{s:Shared}{K:Frag}{x dx C f:Addr}{mA:Str->Option Value}{name:Str}{v:Value}
theorem get_map{Q:zVP}(X:K.In s.heap)(I:ObjM s.heap x dx C mA)(hg:PySem.W.plainGet K C name=true)(hh:PySem.W.hasDictIn K C=true)
  (ha:PySem.W.findIn K (.ref C) name=some none)(hv:mA name=some v)(hv':PySem.W.handedIn v=true)(h:Q v { s with toks:=s.toks+1 }) :
  wpAny (model prog w) A (getAttr (.ref x) name expr) Q E s:=by
 obtain⟨od,J,hl⟩:=I.look;exact PySem.W.get_value X J (PySem.W.plainGet_of hg).1 (PySem.W.findObj_own hh ha rfl (by rw[hl,hv])) hv' h
theorem Zcj{Q:Value×List Value->Shared->Prop}(X:K.In s.heap)(I:ObjM s.heap x dx C mA)(hg:PySem.W.plainGet K C name=true)
  (hf:PySem.W.findIn K (.ref C) name=some (some (.ref f)))(ht:PySem.W.isFn K (.ref f)=true)(hv:mA name=none)(h:Q (.ref f,[.ref x]) s) :
  wpAny (model prog w) A (getMethod (.ref x) name pl) Q E s:=by
 obtain⟨od,J,hl⟩:=I.look;exact PySem.W.method_fn X J (PySem.W.plainGet_of hg).1 (PySem.W.plainGet_of hg).2 hf (beq_iff_eq.1 ht) (by show (PySem.W.lookIn name od).map (·.isSome)=some false;rw[hl,hv];rfl) h
theorem ZdH{Q:Unit->Shared->Prop}(X:K.In s.heap)(I:ObjM s.heap x dx C mA)
  (hs:PySem.W.findIn K (.ref C) "__setattr__"=some (some (.builtin "object.__setattr__")))(hp:PySem.W.plainOver K C=true)(ht:PySem.W.takerIn K C name=some none)(hh:PySem.W.hasDictIn K C=true)
  (hw:PySem.Within mA ns)(hsz:ns.length<=sizeLine)
  (h:∀ h',ObjM h' x dx C (fun y=>if y=name then some v else mA y)->SameBut dx s.heap h'->Q () { s with heap:=h',toks:=s.toks+2 }) :
  wpAny (model prog w) A (setAttr (.ref x) name v) Q E s:=by
 obtain⟨od,J,hl⟩:=I.look;refine PySem.W.set_plain X J hs (PySem.W.osa_open (s:={ s with toks:=s.toks+1 }) (r:=none) X J hp ht fun b=>?_);obtain⟨cd,hc,hd'⟩:=PySem.W.any_some hh;have hx:s.heap.get? x=some ⟨.ref C,some dx,.plain,#[]⟩:=I.obj;refine oAa (oAb (oAa (oAa (wpAny_loadPart hx (oAa (PySem.W.Looks.here (s:={ s with toks:=s.toks+1 }) (PySem.W.looks_clsIn X hc) ?_))))));rw[hd'];refine oAb (a:=some dx) (oAa (oAb (oAa ?_)));refine wpAny_nsSet1 (s:={ s with toks:=s.toks+1 }) I.ns fun h' hn2 hs2=>?_;obtain⟨oD,esD,epD,hoD,hdD,hcD⟩:=hn2.count (PySem.Within.cons name v hw);refine oAa (wpAny_lookBehind hoD (by rw[hdD];exact pastItsLine_dict (oAq hcD (by rw[length_cons];lia))) ?_)
 exact oAb (h _ ⟨(hs2.2 _ (Ne.symm I.ne)).trans I.obj,hn2,I.ne⟩ hs2)
theorem Zck{R:Result->Shared->Prop}(X:K.In s.heap)(hm:PySem.W.makesIn K C=true)
  (hi:PySem.W.findIn K (.ref C) "__init__"=some (some (.ref f)))(hf:PySem.W.typeIn K (.ref f)=some (.type "function"))
  (h:codeAny (model prog w) (A.under (.builtin "type.__call__" ⟨.ref C::vs,kw⟩)) (.call (.ref f) ⟨.ref (s.heap.objs.size+1)::vs,kw⟩) (PySem.W.InitBack (s.heap.objs.size+1) R)
   { s with heap:=(s.heap.push PySem.W.emptyDict).push (PySem.W.instObj C s.heap.objs.size) }) :
  codeAny (model prog w) A (.call (.ref C) ⟨vs,kw⟩) R s:=by
 obtain⟨hh,g,d,t,os⟩:=s;exact PySem.W.make_core (PySem.W.makes_of X hm) (PySem.W.looks_findIn X hi) (fun self=>PySem.W.bind_fn X self hf) (.inl rfl) h
end
noncomputable def putF(f:Str)(v:V):List (Str×V)->List (Str×V)
 |[]=>[(f,v)]
 |(g,x)::r=>if g=f then (g,v)::r else (g,x)::putF f v r
theorem Vu(f g:Str)(v:V):∀ fs:List (Str×V),(putF f v fs).lookup g=if g=f then some v else fs.lookup g
 | []=>by
  show List.lookup g [(f,v)]=_;by_cases h:g=f
  ·have hb:(g==f)=true:=beq_iff_eq.2 h;simp only[List.lookup,hb,if_pos h]
  ·have hb:(g==f)=false:=beq_eq_false_iff_ne.2 h;simp only[List.lookup,hb,if_neg h]
 | (k,x)::r=>by
  have ih:=Vu f g v r;rw[show putF f v ((k,x)::r)=(if k=f then (k,v)::r else (k,x)::putF f v r) from rfl];by_cases hk:k=f
  ·rw[if_pos hk];by_cases h:g=k
   ·have hb:(g==k)=true:=beq_iff_eq.2 h;simp only[List.lookup,hb,if_pos (h.trans hk)]
   ·have hb:(g==k)=false:=beq_eq_false_iff_ne.2 h;simp only[List.lookup,hb,if_neg (fun e:g=f=>h (e.trans hk.symm))]
  ·rw[if_neg hk];by_cases h:g=k
   ·have hb:(g==k)=true:=beq_iff_eq.2 h;simp only[List.lookup,hb,if_neg (fun e:g=f=>hk (h.symm.trans e))]
   ·have hb:(g==k)=false:=beq_eq_false_iff_ne.2 h;simp only[List.lookup,hb];exact ih
theorem UG(f:Str)(v:V):∀ fs:List (Str×V),f∈(putF f v fs).map (·.1)/\∀ g,g∈fs.map (·.1)->g∈(putF f v fs).map (·.1)
 |[]=>⟨by simp[putF],fun g h=>by simp at h⟩
 | (k,x)::r=>by
  obtain⟨i1,i2⟩:=UG f v r;rw[show putF f v ((k,x)::r)=(if k=f then (k,v)::r else (k,x)::putF f v r) from rfl];by_cases hk:k=f
  ·rw[if_pos hk];subst hk;exact⟨by simp,fun g h=>by simpa using h⟩
  ·rw[if_neg hk];refine⟨?_,fun g h=>?_⟩
   ·rw[map_cons];exact oAm _ i1
   ·rw[map_cons] at h ⊢
    rcases List.mem_cons.1 h with e | e
    ·exact List.mem_cons.2 (.inl e)
    ·exact oAm _ (i2 g e)
theorem Vv(f:Str)(v:V):∀ fs:List (Str×V),(putF f v fs).length<=fs.length+1
 |[]=>by simp[putF]
 | (k,x)::r=>by
  have ih:=Vv f v r;rw[show putF f v ((k,x)::r)=(if k=f then (k,v)::r else (k,x)::putF f v r) from rfl];by_cases hk:k=f
  ·rw[if_pos hk,length_cons,length_cons];lia
  ·rw[if_neg hk,length_cons,length_cons];lia
theorem RelO.some_of(r:RelO (some v) o):∃ u,o=some u/\RelV v u:=by
 cases o with
 |none=>exact(show False from r).elim
 |some u=>exact⟨u,rfl,r⟩
theorem RelO.none_of(r:RelO none o):o=none:=by
 cases o with
 |none=>rfl
 |some u=>exact(show False from r).elim
theorem Zbi(r:RelV v u):PySem.W.handedIn u=true:=by
 cases v with
 |non=>cases (show u=Value.none from r);rfl
 |bl b=>cases (show u=Value.bool b from r);rfl
 |int i=>obtain⟨t,e⟩:=(show ∃ t,u=Value.int i t from r);cases e;rfl
 |str x=>obtain⟨t,e⟩:=(show ∃ t,u=Value.str x t from r);cases e;rfl
 |byt b=>obtain⟨t,e⟩:=(show ∃ t,u=Value.bytes b t from r);cases e;rfl
 |flt b=>obtain⟨t,e⟩:=(show ∃ t,u=Value.float b t from r);cases e;rfl
 |ref a=>cases (show u=Value.ref a from r);rfl
 |ty n=>cases (show u=Value.type n from r);rfl
section
variable {P:Program}{w:World}{H H':Hp}{h h':Heap}{a C dx:Addr}{fs fs':List (Str×V)}
theorem U5(hok:HOk P w H h)(e:H a=some (.ins C dx fs)):∃ mA,ObjM h a dx C mA/\(∀ f,RelO (fs.lookup f) (mA f))/\PySem.Within mA (fs.map (·.1))/\fs.length<=1000/\H dx=some (.own a):=by
 obtain⟨d,z,ne,ob,mA,n,r,q⟩:=(show ZC P w H h a (.ins C dx fs) from hok a _ e);exact⟨mA,⟨ob,n,ne⟩,r,q,z,d⟩
end
structure Cls(K:Frag)(C:Addr):Prop where
 pg:PySem.W.plainGet K C Str.empty=true
 hd:PySem.W.hasDictIn K C=true
 po:PySem.W.plainOver K C=true
 sa:PySem.W.findIn K (.ref C) "__setattr__"=some (some (.builtin "object.__setattr__"))
theorem Cls.get{K:Frag}{C:Addr}(c:Cls K C)(f:Str):PySem.W.plainGet K C f=true:=c.pg
def Yq(K:Frag)(C:Addr)(f:Str):Prop:=PySem.W.findIn K (.ref C) f=some none
theorem Yq.taker{K:Frag}{C:Addr}{f:Str}(n:Yq K C f):PySem.W.takerIn K C f=some none:=by
 unfold PySem.W.takerIn;rw[show PySem.W.findIn K (.ref C) f=some none from n];rfl
structure Meth(K:Frag)(C:Addr)(m:Str)(f:Addr):Prop where
 at_:PySem.W.findIn K (.ref C) m=some (some (.ref f))
 fn:PySem.W.isFn K (.ref f)=true
 kp:PySem.W.keepIn K (.ref f)=true
section
variable {X:Cx}{pins:zPn}{σ:St}{H:Hp}{s:Shared}{a C dx:Addr}{fs:List (Str×V)}{f:Str}{v:V}{A:Around}{E:zVP}
theorem Zax{Q:zVP}(I:Inv X pins σ H s)(e:H a=some (.ins C dx fs))(c:Cls X.K C)(n:Yq X.K C f)(l:fs.lookup f=some v)
  (h:∀ u s',Inv X pins σ H s'->RelV v u->Q u s'):wpAny (model X.prog X.w) A (getAttr (.ref a) f b) Q E s:=by
 obtain⟨mA,O,r,_,_,_⟩:=U5 I.hok e;obtain⟨u,hu,ru⟩:=RelO.some_of (v:=v) (o:=mA f) (by rw[<- l];exact r f)
 exact get_map I.kIn O (c.get f) c.hd n hu (Zbi ru) (h u _ (I.tok _) ru)
theorem VT{Q:Value×List Value->Shared->Prop}(I:Inv X pins σ H s)(e:H a=some (.ins C dx fs))(c:Cls X.K C)(k:Meth X.K C m g)(l:fs.lookup m=none)
  (h:Q (.ref g,[.ref a]) s):wpAny (model X.prog X.w) A (getMethod (.ref a) m pl) Q E s:=by
 obtain⟨mA,O,r,_,_,_⟩:=U5 I.hok e;have hn:mA m=none:=RelO.none_of (by rw[<- l];exact r m)
 exact Zcj I.kIn O (c.get m) k.at_ k.fn hn h
theorem Zay{Q:Unit->Shared->Prop}(I:Inv X pins σ H s)(e:H a=some (.ins C dx fs))(c:Cls X.K C)(n:Yq X.K C f)(hl:fs.length<1000)(ry:RelV y u)
  (h:∀ s',Inv X pins σ (upd H a (.ins C dx (putF f y fs))) s'->Q () s'):wpAny (model X.prog X.w) A (setAttr (.ref a) f u) Q E s:=by
 obtain⟨mA,O,r,wi,_,ho⟩:=U5 I.hok e;have hz:(fs.map (·.1)).length<=sizeLine:=by rw[length_map,sizeLine_eq];lia
 refine ZdH I.kIn O c.sa c.po n.taker c.hd wi hz fun h' O' sb=>h _ ?_;have hd:∃ o,h'.get? dx=some o:=let ⟨o,_,_,e',_⟩:=O'.ns;⟨o,e'⟩
 refine I.write (x:=a) (e:=dx) (by rw[e];exact True.intro) (.inr ho) (fun b q hb z=>(sb.2 b hb).trans z) hd ?_
 refine⟨by rw[Zi O.ne];exact ho,?_,O.ne,O'.obj,_,O'.ns,fun g=>?_,fun g hg=>?_⟩
 ·have:=Vv f y fs;lia
 ·show RelO ((putF f y fs).lookup g) (if g=f then some u else mA g);rw[Vu];by_cases q:g=f
  ·rw[if_pos q,if_pos q];exact ry
  ·rw[if_neg q,if_neg q];exact r g
 ·by_cases q:g=f
  ·rw[q];exact(UG f y fs).1
  ·refine(UG f y fs).2 g (wi g fun z=>hg ?_);show (if g=f then some u else mA g)=none;rw[if_neg q];exact z
theorem Inv.made(I:Inv X pins σ H s):Inv X pins σ (upd (upd H s.heap.objs.size (.own (s.heap.objs.size+1))) (s.heap.objs.size+1) (.ins C s.heap.objs.size []))
  { s with heap:=(s.heap.push PySem.W.emptyDict).push (PySem.W.instObj C s.heap.objs.size) }:=by
 have e1:(s.heap.push PySem.W.emptyDict).get? s.heap.objs.size=some PySem.W.emptyDict:=oAe s.heap rfl;have e2:((s.heap.push PySem.W.emptyDict).push (PySem.W.instObj C s.heap.objs.size)).get? (s.heap.objs.size+1)=some (PySem.W.instObj C s.heap.objs.size):=by
  have:=oAe (s.heap.push PySem.W.emptyDict) (o:=PySem.W.instObj C s.heap.objs.size) rfl
  rwa [size_push] at this
 have e3:(s.heap.push PySem.W.emptyDict).Ns s.heap.objs.size (fun _=>none):=⟨PySem.W.emptyDict,#[],_,e1,rfl,(fun e he=>absurd he (by simp)),fun _=>rfl⟩;have I1:=I.laid (a:=s.heap.objs.size) (o:=.own (s.heap.objs.size+1)) (h':=s.heap.push PySem.W.emptyDict) (t':=s.toks) (fun b u q=>oAd _ q) (oAl _) ⟨_,e1⟩;refine I1.laid (a:=s.heap.objs.size+1) (o:=.ins C s.heap.objs.size []) (t':=s.toks) (fun b u q=>oAd _ q) (le_of_eq (size_push _ _)) ?_;have ne:s.heap.objs.size≠s.heap.objs.size+1:=oAp (oAs _);refine⟨by rw[Zi ne,Zv],zero_le _,ne,e2,fun _=>none,(Heap.Ns1.of_empty e3).at fun o q=>oAd _ q,fun _=>True.intro,fun y hy=>absurd rfl hy⟩
theorem ZdI{Q:zVP}(hb:attributeBase e f env (eval e env)=eval e env)
  (h:wpAny (model prog w) A (eval e env) (fun o s₁=>wpAny (model prog w) A (getAttr o f true) Q E s₁) E s):wpAny (model prog w) A (eval (.Attribute e f pos) env) Q E s:=
 Attribute_any_ h (by rw[arm_eval_Attribute,hb])
end
noncomputable def tFld(K:Frag)(ta:TE)(f:Str):TE:=fun σ H Q=>ta σ H fun x H1=>∃ a C dx fs v,x=.ref a/\H1 a=some (.ins C dx fs)/\Cls K C/\Yq K C f/\fs.lookup f=some v/\Q v H1
noncomputable def sFld(K:Frag)(ta tv:TE)(f:Str):TS:=fun D σ H=>tv σ H fun y H1=>ta σ H1 fun x H2=>∃ a C dx fs,x=.ref a/\H2 a=some (.ins C dx fs)/\Cls K C/\Yq K C f/\fs.length<1000 /\
 D.nx σ (upd H2 a (.ins C dx (putF f y fs)))
section
variable {X:Cx}{o e value:Expr}{f:Str}{pos pos' tpos:Pos}{ta tv:TE}
theorem Zfr(he:PE X e ta)(hb:attributeBase e f X.env (eval e X.env)=eval e X.env):PE X (.Attribute e f pos) (tFld X.K ta f):=by
 intro pins s σ H Q I h;refine ZdI hb (thn (he pins s σ H _ I h) fun u s1 ⟨x,H1,I1,rx,a,C,dx,fs,v,ex,ea,c,n,l,q⟩=>?_);subst ex;obtain rfl:u=Value.ref a:=rx;exact Zax I1 ea c n l fun u' s2 I2 ru=>⟨v,H1,I2,ru,q⟩
theorem Zfs(ha:PE X o ta)(hv:PE X value tv)(hs:swapsWith value (some (.Attribute o f pos')) pos.line X.env=pure false):PS X (.Assign [.Attribute o f pos'] value pos) (sFld X.K ta tv f):=by
 intro pins s σ H D I h;refine plainObj_wpAny_Assign_Attribute (thn (hv pins s σ H _ I h) fun u s1 ⟨y,H1,I1,ry,q⟩=>thn (ha pins s1 σ H1 _ I1 q) fun ov s2 ⟨x,H2,I2,rx,a,C,dx,fs,ex,ea,c,n,l,q2⟩=>?_) hs;subst ex;obtain rfl:ov=Value.ref a:=rx;exact Zay I2 ea c n l ry fun s3 I3=>⟨σ,_,I3,q2⟩
end
section
variable {X:Cx}{pins:zPn}{σ:St}{H:Hp}{s:Shared}{A:Around}{E:zVP}{Q:zVP}{c:Value}{b:Bool}
inductive TyOf(K:Frag)(H:Hp):V->Value->Prop where
 |non:TyOf K H .non (.type "NoneType")
 |bl (x:Bool):TyOf K H (.bl x) (.type "bool")
 |int (i:Int):TyOf K H (.int i) (.type "int")
 |str (x:Str):TyOf K H (.str x) (.type "str")
 |flt (x:UInt64):TyOf K H (.flt x) (.type "float")
 |lst {a:Addr}{xs:List V} (e:H a=some (.lst xs)):TyOf K H (.ref a) (.type "list")
 |frz {a:Addr}{o:Obj}{xs:List V} (e:H a=some (.frz o (.lst xs))):TyOf K H (.ref a) (.type "list")
 |tup {a:Addr}{xs:List V} (e:H a=some (.tup xs)):TyOf K H (.ref a) (.type "tuple")
 |dK {a:Addr}{kvs:List (Key×V)} (e:H a=some (.dK kvs)):TyOf K H (.ref a) (.type "dict")
 |dT {a:Addr}{kvs:List (List Key×V)} (e:H a=some (.dT kvs)):TyOf K H (.ref a) (.type "dict")
 | ins {a C dx:Addr}{fs:List (Str×V)} (e:H a=some (.ins C dx fs)) (cl:Cls K C) (ha:PySem.W.findIn K (.ref C) "__class__"=some (some (.builtin "object.__class__")))
   (hn:PySem.W.specialIn K (.builtin "object.__class__") "__get__"=some (some (.builtin "getset_descriptor.__get__"))) (htk:PySem.W.takesIn K (.builtin "object.__class__")=some true)
   (hm:PySem.W.mroIn K C (.type "object")=some true):TyOf K H (.ref a) (.ref C)
theorem YG(I:Inv X pins σ H s)(rx:RelV x u)(ty:TyOf X.K H x t)(e:PySem.W.kitOne X.K t c=some b)(h:∀ tk,Q (.bool b) { s with toks:=tk }) :
  wpAny (model X.prog X.w) A (call (.builtin "isinstance") [u,c]) Q E s:=by
 cases ty with
 |non=>cases (show u=Value.none from rx);exact PySem.W.kia_one PySem.W.kitx_none I.kIn True.intro e (fun z=>nomatch z) h
 |bl y=>cases (show u=Value.bool y from rx);exact PySem.W.kia_one PySem.W.kitx_bool I.kIn True.intro e (fun z=>nomatch z) h
 |int i=>obtain⟨t,q⟩:=(show ∃ t,u=Value.int i t from rx);cases q;exact PySem.W.kia_one PySem.W.kitx_int I.kIn True.intro e (fun z=>nomatch z) h
 |str y=>obtain⟨t,q⟩:=(show ∃ t,u=Value.str y t from rx);cases q;exact PySem.W.kia_one PySem.W.kitx_str I.kIn True.intro e (fun z=>nomatch z) h
 |flt y=>obtain⟨t,q⟩:=(show ∃ t,u=Value.float y t from rx);cases q;exact PySem.W.kia_one PySem.W.kitx_float I.kIn True.intro e (fun z=>nomatch z) h
 | @lst a xs ea=>
  cases (show u=Value.ref a from rx)
  obtain⟨_,_,n,_,h1⟩:=(show ZC X.prog X.w H s.heap a (.lst xs) from I.hok a _ ea);exact PySem.W.kia_one PySem.W.kitx_list I.kIn ⟨_,h1,rfl⟩ e (fun z=>nomatch z) h
 | @frz a ob xs ea=>
  cases (show u=Value.ref a from rx)
  obtain⟨_,_,_,n,_,h1⟩:=(show ZC X.prog X.w H s.heap a (.frz ob (.lst xs)) from I.hok a _ ea);exact PySem.W.kia_one PySem.W.kitx_list I.kIn ⟨_,h1,rfl⟩ e (fun z=>nomatch z) h
 | @tup a xs ea=>
  cases (show u=Value.ref a from rx)
  obtain⟨_,_,_,p⟩:=(show ZC X.prog X.w H s.heap a (.tup xs) from I.hok a _ ea);obtain⟨o,h1,h2,_⟩:=p;exact PySem.W.kia_one PySem.W.kitx_tuple I.kIn ⟨o,h1,h2⟩ e (fun z=>nomatch z) h
 | @dK a kvs ea=>
  cases (show u=Value.ref a from rx)
  obtain⟨_,_,vs,_,p⟩:=(show ZC X.prog X.w H s.heap a (.dK kvs) from I.hok a _ ea);obtain⟨o,es,ep,h1,h2,_⟩:=p;exact PySem.W.kia_one PySem.W.kitx_dict I.kIn ⟨o,h1,h2.1⟩ e (fun z=>nomatch z) h
 | @dT a kvs ea=>
  cases (show u=Value.ref a from rx)
  obtain⟨_,_,xs,_,o,es,ep,h1,h2,_⟩:=(show ZC X.prog X.w H s.heap a (.dT kvs) from I.hok a _ ea);exact PySem.W.kia_one PySem.W.kitx_dict I.kIn ⟨o,h1,h2.1⟩ e (fun z=>nomatch z) h
 | @ins a C dx fs ea cl ha hn htk hm=>
  cases (show u=Value.ref a from rx)
  obtain⟨mA,O,_⟩:=U5 I.hok ea;obtain⟨od,J,_⟩:=O.look;exact PySem.W.kia_one (PySem.W.kitx_own (cl.get _) cl.hd ha hn htk hm) I.kIn J e (fun z=>nomatch z) h
end
structure Room(k:Nat)(A:Around):Prop where
 hd:A.handled=none
 dp:A.depth+3 * k+5<recursionLimit
 un:A.units+16 * k+200<cLine
theorem Room.deeper(r:Room (k+1) A)(env:Env):Room k (A.deeper env):=
 ⟨r.hd,by have:=r.dp;show A.depth+1+3 * k+5 < _;lia,by have:=r.un;show A.units+3+16 * k+200 < _;lia⟩
theorem Zaz{A:Around}{C:Addr}{us:List Value}{kw:List (Str×Value)}:(A.under (.builtin "type.__call__" ⟨.ref C::us,kw⟩)).depth=A.depth+1:=by
 first | rfl | simp[Around.under,Code.weight,Code.isCreation,Code.isGuard,Code.isCaller,Code.frames,Code.isFrame,guardIds]
theorem ZaA{A:Around}{C:Addr}{us:List Value}{kw:List (Str×Value)}:(A.under (.builtin "type.__call__" ⟨.ref C::us,kw⟩)).units=A.units+1:=by
 first | rfl | simp[Around.under,Code.cUnits,Code.frames,Code.isFrame]
theorem Room.make(r:Room (k+1) A)(C:Addr)(us:List Value)(kw:List (Str×Value)):Room k (A.under (.builtin "type.__call__" ⟨.ref C::us,kw⟩)):=
 ⟨r.hd,by have:=r.dp;rw[Zaz];omega,by have:=r.un;rw[ZaA];omega⟩
theorem Room.depth(r:Room k A):A.depth<recursionLimit:=by have:=r.dp;omega
noncomputable def tNil:TA:=fun _ H Q=>Q [] H
noncomputable def ZaB(ta:TE)(tr:TA):TA:=fun σ H Q=>ta σ H fun x H1=>tr σ H1 fun xs H2=>Q (x::xs) H2
section
variable {X:Cx}{e:Expr}{es:List Expr}{te:TE}{t:TA}{pos:Pos}
theorem JR:PA X [] tNil:=fun _ _ _ _ H Q I h=>Calls.spliced_nil ⟨[],H,I,.nil,h⟩
theorem Yu(ha:PE X e te)(hr:PA X es t)(hs:starEach (e::es) X.env=(false,eval e X.env)::starEach es X.env:=by rfl):PA X (e::es) (ZaB te t):=by
 intro pos pins s σ H Q I h;rw[hs];show wpAny _ _ (spliced ((false,eval e X.env)::backTo pos (starEach es X.env))) _ _ s;refine Calls.spliced_cons (thn (ha pins s σ H _ I h) fun u s1 ⟨x,H1,I1,r1,q1⟩=>?_);exact thn (hr pos pins s1 σ H1 _ I1 q1) fun us s2 ⟨xs,H2,I2,r2,q2⟩=>⟨x::xs,H2,I2,.cons r1 r2,q2⟩
noncomputable def tTup(t:TA):TE:=fun σ H Q=>t σ H fun xs H1=>xs.length<=sizeLine/\∀ p,H1 p=none->Q (.ref p) (upd H1 p (.tup xs))
noncomputable def tLst(t:TA):TE:=fun σ H Q=>t σ H fun xs H1=>xs.length<=sizeLine/\∀ p,H1 p=none->Q (.ref p) (upd H1 p (.lst xs))
theorem ql{x1}(h:PA X es t):PE X (.Tuple es x1 pos) (tTup t):=by
 intro pins s σ H Q I hq;refine wpAny_Tuple_spliced (thn (h pos pins s σ H _ I hq) fun us s1 ⟨xs,H1,I1,r,z,q⟩=>⟨by rw[<- r.length];exact z,?_⟩)
 have hf:H1 s1.heap.objs.size=none:=I1.hok.fresh (oAl _);refine⟨.ref s1.heap.objs.size,upd H1 s1.heap.objs.size (.tup xs),I1.laid (t':=s1.toks) (fun b u e=>oAd _ e) (oAl _) ?_,rfl,q _ hf⟩;exact⟨z,us,r,⟨_,oAe _ rfl,rfl,_,rfl⟩⟩
theorem Zft(h:PA X es t):PE X (.List es pos) (tLst t):=by
 intro pins s σ H Q I hq;refine wpAny_List_spliced (thn (h pos pins s σ H _ I hq) fun us s1 ⟨xs,H1,I1,r,z,q⟩=>⟨by rw[<- r.length];exact z,?_⟩)
 have hf:H1 s1.heap.objs.size=none:=I1.hok.fresh (oAl _);refine⟨.ref s1.heap.objs.size,upd H1 s1.heap.objs.size (.lst xs),I1.laid (t':=s1.toks) (fun b u e=>oAd _ e) (oAl _) ?_,rfl,q _ hf⟩;exact⟨z,us,0,r,oAe _ rfl⟩
end
abbrev Sp:=List V->Hp->VK->XK->Prop
abbrev CXT:=List Env->Hp->Shared->XK->Value->Shared->Prop
structure Env0(P:Program)(w:World)(K:Frag)(mg:Str->Option Value)(base:Heap)(A:Around)(outer:List Env)(s:Shared)(H:Hp):Prop where
 frames:A.frames=some outer
 mod:Mod K mg base
 bs:∀ b o,base.get? b=some o->s.heap.get? b=some o/\H b=none
 bsz:base.objs.size<=s.heap.objs.size
 funs:s.heap.FunFrames base outer
 frf:∀ b∈frs outer,H b=none
 hok:HOk P w H s.heap
 bare:AllBare s.gens
inductive CE(outer:List Env)(P:Program)(w:World)(H:Hp)(s:Shared)(Q:VK)(u:Value)(s':Shared):Prop
 |mk (v:V) (H':Hp) (os:s'.os=s.os) (ba:AllBare s'.gens) (un:Un (frs outer) [] H H' s.heap s'.heap) (hk:HOk P w H' s'.heap) (r:RelV v u) (q:Q v H')
def CR(CX:CXT)(outer:List Env)(P:Program)(w:World)(H:Hp)(s:Shared)(Q:VK)(E:XK)(r:Result)(s':Shared):Prop:=
 match r with
 |.ok (.ret u)=>CE outer P w H s Q u s'
 |.ok _=>False
 |.error e=>CX outer H s E e s'
structure FnOk(P:Program)(w:World)(K:Frag)(mg:Str->Option Value)(base:Heap)(CX:CXT)(k:Nat)(f:Addr)(fd:FuncData)(ps:List Str)(sp:Sp):Prop where
 len:∀ vs H Q E,sp vs H Q E->vs.length=ps.length
 run:∀ (A:Around) (outer:List Env) (s:Shared) (H:Hp) (args:Args) (us:List Value) (vs:List V) (Q:VK) (E:XK),Room k A->Env0 P w K mg base A outer s H->BindsTo s fd args (ps.zip us)->Vals vs us->sp vs H Q E ->
  codeAny (model P w) A (.call (.ref f) args) (CR CX outer P w H s Q E) s
theorem Env0.make{P:Program}{w:World}{K:Frag}{mg:Str->Option Value}{base:Heap}{A:Around}{outer:List Env}{s:Shared}{H:Hp}(e:Env0 P w K mg base A outer s H)(C:Addr)(us:List Value)(kw:List (Str×Value)) :
  Env0 P w K mg base (A.under (.builtin "type.__call__" ⟨.ref C::us,kw⟩)) outer s H:=⟨by first | exact e.frames | (simpa [Around.under,Code.envs,Code.isFrame,pushEnvs] using e.frames),e.mod,e.bs,e.bsz,e.funs,e.frf,e.hok,e.bare⟩
section
variable {X:Cx}{pins:zPn}{σ:St}{H:Hp}{s s':Shared}
theorem Inv.env0(I:Inv X pins σ H s):Env0 X.prog X.w X.K X.mg X.base X.A X.stack s H:=
 ⟨I.ok.frames,I.ok.mod,I.bs,oAq I.ok.bsz I.sz,I.stack,I.stkFree,I.hok,I.bare⟩
theorem Inv.after(I:Inv X pins σ H s)(h:CE X.stack X.prog X.w H s Q u s'):EP X pins σ Q u s':=by
 obtain⟨v,H',os,bare,un,hok,r,q⟩:=h;obtain⟨hh,g,d,t,os'⟩:=s';obtain rfl:os'=s.os:=os;exact⟨v,H',I.call (h':=hh) (g':=g) (d':=d) (t':=t) (ch:=[]) un hok bare (fun b z=>absurd z (by simp)),r,q⟩
end
noncomputable def Zc4(sp:Sp)(dvs:List V)(E:XK)(t:TA):TE:=fun σ H Q=>t σ H fun vs H1=>sp (vs++dvs) H1 Q E
noncomputable def Zc5(C:Addr)(m:Str)(sp:Sp)(dvs:List V)(E:XK)(ta:TE)(t:TA):TE:=fun σ H Q=>ta σ H fun x H1=>∃ a dx fs,x=.ref a/\H1 a=some (.ins C dx fs)/\fs.lookup m=none /\
 t σ H1 fun vs H2=>sp (x::(vs++dvs)) H2 Q E
noncomputable def Zc6(C:Addr)(sp:Sp)(dvs:List V)(E:XK)(t:TA):TE:=fun σ H Q=>t σ H fun vs H1=>∀ x dx,H1 x=none->H1 dx=none->dx≠x ->
 sp (.ref x::(vs++dvs)) (upd (upd H1 dx (.own x)) x (.ins C dx [])) (fun v H2=>v=.non/\Q (.ref x) H2) E
def Binds(K:Frag)(fd:FuncData)(ps:List Str)(ds:List Value):Prop:=
 ∀ (s:Shared) (us:List Value),K.In s.heap->(us++ds).length=ps.length->BindsTo s fd ⟨us,[]⟩ (ps.zip (us++ds))
theorem Binds.all{K:Frag}{fd:FuncData}{ps:List Str}(h:∀ us:List Value,us.length=ps.length->bindArgs fd ⟨us,[]⟩=pure (ps.zip us)):Binds K fd ps []:=fun s us _ hl=>by
 rw[append_nil] at hl ⊢;exact .of_eq (h us hl)
def Passes(CX:CXT)(X:Cx)(E:XK):Prop:=∀ (pins:zPn) (σ:St) (H:Hp) (s:Shared) (e:Value) (s':Shared),Inv X pins σ H s->CX X.stack H s E e s'->X.xe e s'
section
variable {X:Cx}{CX:CXT}{k:Nat}{f C:Addr}{fd:FuncData}{ps:List Str}{sp:Sp}{dvs:List V}{ds:List Value}{E:XK}{x m:Str}{p pos apos:Pos}{e o:Expr}{es:List Expr}{ta:TE}{t:TA}
theorem VU(F:FnOk X.prog X.w X.K X.mg X.base CX k f fd ps sp)(hr:Room k X.A)(hb:Binds X.K fd ps ds)(hd:Vals dvs ds)(hx:Passes CX X E)
  (I:Inv X pins σ H s)(r:Vals vs us)(h:sp (vs++dvs) H Q E):wpAny (model X.prog X.w) X.A (call (.ref f) us) (EP X pins σ Q) X.xe s:=by
 have r2:Vals (vs++dvs) (us++ds):=r.append hd;have hl:(us++ds).length=ps.length:=by rw[<- r2.length];exact F.len _ _ _ _ h
 refine wpAny_call (codeAny_mono (F.run X.A X.stack s H ⟨us,[]⟩ (us++ds) (vs++dvs) Q E hr I.env0 (hb s us I.kIn hl) r2 h) fun r s' hq=>?_);cases r with
 |error e=>exact hx pins σ H s e s' I hq
 | ok fl=>
  cases fl with
  |ret u=>exact I.after hq
  |next=>exact False.elim hq
  |brk=>exact False.elim hq
  |cont=>exact False.elim hq
theorem ZdJ(F:FnOk X.prog X.w X.K X.mg X.base CX k f fd ps sp)(hr:Room k X.A)(hg:Gl X x)(hm:X.mg x=some (.ref f))(hk:PySem.W.keepIn X.K (.ref f)=true)(hb:Binds X.K fd ps ds)(hd:Vals dvs ds)(hx:Passes CX X E)
  (ha:PA X (e::es) t)(hdb:(x==("__debug__":Str))=false:=by decide)(he:starEach (e::es) X.env=(false,eval e X.env)::starEach es X.env:=by rfl)(hpl:(backTo pos (starEach es X.env)).any (·.1)=false:=by rfl) :
  PE X (.Call (.Name x p) (e::es) [] pos) (Zc4 sp dvs E t):=by
 intro pins s σ H Q I h;refine wpAny_Call_Name_kw (YF I hg hm ?_ hdb);refine PySem.W.callWith_K (h₀:=X.base) I.ok.mod.kin hk (thn (ha pos pins s σ H _ I h) fun us s1 ⟨vs,H1,I1,r,q⟩=>⟨I1.kIn,?_⟩) he hpl;exact VU F hr hb hd hx I1 r q
theorem Zcl(F:FnOk X.prog X.w X.K X.mg X.base CX k f fd ps sp)(hr:Room k X.A)(hg:Gl X x)(hm:X.mg x=some (.ref f))(hk:PySem.W.keepIn X.K (.ref f)=true)(hb:Binds X.K fd ps ds)(hd:Vals dvs ds)(hx:Passes CX X E)
  (hdb:(x==("__debug__":Str))=false:=by decide):PE X (.Call (.Name x p) [] [] pos) (Zc4 sp dvs E tNil):=by
 intro pins s σ H Q I h;refine wpAny_Call_Name_kw (YF I hg hm ?_ hdb);exact PySem.W.callWith_K0 I.kIn hk (VU (us:=[]) F hr hb hd hx I .nil h)
theorem ZdK(he:PE X o ta)(c:Cls X.K C)(hm:Meth X.K C m f)(F:FnOk X.prog X.w X.K X.mg X.base CX k f fd ps sp)(hr:Room k X.A)(hb:Binds X.K fd ps ds)(hd:Vals dvs ds)(hx:Passes CX X E)(ha:PA X (e::es) t)
  (hst:starEach (e::es) X.env=(false,eval e X.env)::starEach es X.env:=by rfl)(hpl:(backTo pos (starEach es X.env)).any (·.1)=false:=by rfl)
  (ht:eval (.Call (.Attribute o m apos) (e::es) [] pos) X.env=(do
   let ov<-eval o X.env
   standAt apos.atName
   let (f,first)<-holding [ov] (getMethod ov m pl)
   callWith pos f first (backTo pos (starEach (e::es) X.env)) (backToKw pos (keywordEach [] X.env))):=by rfl) :
  PE X (.Call (.Attribute o m apos) (e::es) [] pos) (Zc5 C m sp dvs E ta t):=by
 intro pins s σ H Q I h;refine PySem.W.methodCall_KW (pl:=pl) (thn (he pins s σ H _ I h) fun u s1 ⟨x,H1,I1,rx,a,dx,fs,ex,ea,l,q⟩=>?_) ht;subst ex;obtain rfl:u=Value.ref a:=rx;refine VT I1 ea c hm l ?_;refine PySem.W.callWith_K (first:=[.ref a]) (h₀:=X.base) I.ok.mod.kin hm.kp (thn (ha pos pins s1 σ H1 _ I1 q) fun us s2 ⟨vs,H2,I2,r,q2⟩=>⟨I2.kIn,?_⟩) hst hpl;exact VU (us:=.ref a::us) (vs:=.ref a::vs) F hr hb hd hx I2 (.cons rfl r) q2
theorem Zcm(he:PE X o ta)(c:Cls X.K C)(hm:Meth X.K C m f)(F:FnOk X.prog X.w X.K X.mg X.base CX k f fd ps sp)(hr:Room k X.A)(hb:Binds X.K fd ps ds)(hd:Vals dvs ds)(hx:Passes CX X E)
  (ht:eval (.Call (.Attribute o m apos) [] [] pos) X.env=(do
   let ov<-eval o X.env
   standAt apos.atName
   let (f,first)<-holding [ov] (getMethod ov m pl)
   callWith pos f first (backTo pos (starEach [] X.env)) (backToKw pos (keywordEach [] X.env))):=by rfl) :
  PE X (.Call (.Attribute o m apos) [] [] pos) (Zc5 C m sp dvs E ta tNil):=by
 intro pins s σ H Q I h;refine PySem.W.methodCall_KW (pl:=pl) (thn (he pins s σ H _ I h) fun u s1 ⟨x,H1,I1,rx,a,dx,fs,ex,ea,l,q⟩=>?_) ht;subst ex;obtain rfl:u=Value.ref a:=rx;refine VT I1 ea c hm l ?_;exact PySem.W.callWith_K0 (first:=[.ref a]) I1.kIn hm.kp (VU (us:=[.ref a]) (vs:=[.ref a]) F hr hb hd hx I1 (.cons rfl .nil) q)
structure Mk(K:Frag)(C f:Addr):Prop where
 makes:PySem.W.makesIn K C=true
 init:PySem.W.findIn K (.ref C) "__init__"=some (some (.ref f))
 fn:PySem.W.isFn K (.ref f)=true
 kp:PySem.W.keepIn K (.ref C)=true
theorem qm(M:Mk X.K C f)(F:FnOk X.prog X.w X.K X.mg X.base CX k f fd ps sp)(hr:Room (k+1) X.A)(hb:Binds X.K fd ps ds)(hd:Vals dvs ds)
  (hx:Passes CX X E)(I:Inv X pins σ H s)(r:Vals vs us)
  (h:∀ x dx,H x=none->H dx=none->dx≠x->sp (.ref x::(vs++dvs)) (upd (upd H dx (.own x)) x (.ins C dx [])) (fun v H2=>v=.non/\Q (.ref x) H2) E) :
  wpAny (model X.prog X.w) X.A (call (.ref C) us) (EP X pins σ Q) X.xe s:=by
 have hq:=h (s.heap.objs.size+1) s.heap.objs.size (I.hok.fresh (le_succ _)) (I.hok.fresh (oAl _)) (oAp (oAs _));have I2:=Inv.made (C:=C) I;have r2:Vals (V.ref (s.heap.objs.size+1)::(vs++dvs)) (Value.ref (s.heap.objs.size+1)::(us++ds)):=.cons rfl (r.append hd);have hl:(Value.ref (s.heap.objs.size+1)::us++ds).length=ps.length:=by
  have e:=r2.length;rw[F.len _ _ _ _ hq] at e;exact e.symm
 refine wpAny_call (Zck (f:=f) I.kIn M.makes M.init (beq_iff_eq.1 M.fn) (codeAny_mono (F.run _ X.stack _ _ ⟨Value.ref (s.heap.objs.size+1)::us,[]⟩ (Value.ref (s.heap.objs.size+1)::(us++ds)) _ _ E (hr.make C us [])
  (I2.env0.make C us []) (hb _ (Value.ref (s.heap.objs.size+1)::us) I2.kIn hl) r2 hq) fun r s' hq'=>?_))
 cases r with
 |error e=>exact hx pins σ _ _ e s' I2 hq'
 | ok fl=>
  cases fl with
  | ret u=>
   obtain⟨v,H',I3,rv,ev,q3⟩:=I2.after hq';subst ev;exact⟨rv,⟨V.ref (s.heap.objs.size+1),H',I3,rfl,q3⟩⟩
  |next=>exact False.elim hq'
  |brk=>exact False.elim hq'
  |cont=>exact False.elim hq'
theorem ZdL(M:Mk X.K C f)(F:FnOk X.prog X.w X.K X.mg X.base CX k f fd ps sp)(hr:Room (k+1) X.A)(hg:Gl X x)(hm:X.mg x=some (.ref C))(hb:Binds X.K fd ps ds)(hd:Vals dvs ds)(hx:Passes CX X E)
  (ha:PA X (e::es) t)(hdb:(x==("__debug__":Str))=false:=by decide)(he:starEach (e::es) X.env=(false,eval e X.env)::starEach es X.env:=by rfl)(hpl:(backTo pos (starEach es X.env)).any (·.1)=false:=by rfl) :
  PE X (.Call (.Name x p) (e::es) [] pos) (Zc6 C sp dvs E t):=by
 intro pins s σ H Q I h;refine wpAny_Call_Name_kw (YF I hg hm ?_ hdb);refine PySem.W.callWith_K (h₀:=X.base) I.ok.mod.kin M.kp (thn (ha pos pins s σ H _ I h) fun us s1 ⟨vs,H1,I1,r,q⟩=>⟨I1.kIn,?_⟩) he hpl;exact qm M F hr hb hd hx I1 r q
theorem Zcn(M:Mk X.K C f)(F:FnOk X.prog X.w X.K X.mg X.base CX k f fd ps sp)(hr:Room (k+1) X.A)(hg:Gl X x)(hm:X.mg x=some (.ref C))(hb:Binds X.K fd ps ds)(hd:Vals dvs ds)(hx:Passes CX X E)
  (hdb:(x==("__debug__":Str))=false:=by decide):PE X (.Call (.Name x p) [] [] pos) (Zc6 C sp dvs E tNil):=by
 intro pins s σ H Q I h;refine wpAny_Call_Name_kw (YF I hg hm ?_ hdb);exact PySem.W.callWith_K0 I.kIn M.kp (qm (us:=[]) M F hr hb hd hx I .nil h)
end
structure Yl(N P:List Str)(sc:Scope):Prop where
 kind:sc.kind=.function
 co:sc.isCoroutine=false
 gen:sc.isGenerator=false
 nd:N.Nodup
 pre:N.take P.length=P
 par:∀ x∈P,sc.names.lookup x=some .local\/sc.names.lookup x=some .cell
 nofree:∀ y∈sc.names,y.2≠.free
theorem Wy{kindOf:Str->Option NameKind}{x:Str}:∀ {binds:List (Str×Value)}{m:Str->Option Value},(∀ v,(x,v)∉binds)->bindL kindOf binds m x=m x
 |[],_,_=>rfl
 | (n,v)::r,m,h=>by
  unfold bindL;rw[Wy fun w hw=>h w (oAm _ hw)];split
  ·have:x≠n:=by rintro rfl;exact h v oAn
   simp[this]
  ·rfl
theorem Wz{kindOf:Str->Option NameKind}{x:Str}:∀ {binds:List (Str×Value)}{m:Str->Option Value},(∀ v,(x,v)∉binds)->bindC kindOf binds m x=m x
 |[],_,_=>rfl
 | (n,v)::r,m,h=>by
  unfold bindC;rw[Wz fun w hw=>h w (oAm _ hw)];split
  ·rfl
  ·have:x≠n:=by rintro rfl;exact h v oAn
   simp[this]
theorem WA{kindOf:Str->Option NameKind}{x:Str}{v:Value}:∀ {P:List Str}{vs:List Value}{i:Nat}{m:Str->Option Value},P.Nodup->P[i]?=some x->vs[i]?=some v->kindOf x=some .local ->
  bindL kindOf (P.zip vs) m x=some v
 |[],_,_,_,_,h,_,_=>by simp at h
 |_::_,[],_,_,_,_,h,_=>by simp at h
 | p::P,w::vs,0,m,nd,h1,h2,hk=>by
  simp at h1 h2;subst h1;subst h2
  show bindL kindOf ((p,w)::P.zip vs) m p=_;unfold bindL;rw[Wy fun v hv=>(List.nodup_cons.1 nd).1 (List.of_mem_zip hv).1,if_pos hk];simp
 | p::P,w::vs,i+1,m,nd,h1,h2,hk=>by
  show bindL kindOf ((p,w)::P.zip vs) m x=_;unfold bindL;exact WA (i:=i) (List.nodup_cons.1 nd).2 (by simpa using h1) (by simpa using h2) hk
theorem WB{kindOf:Str->Option NameKind}{x:Str}{v:Value}:∀ {P:List Str}{vs:List Value}{i:Nat}{m:Str->Option Value},P.Nodup->P[i]?=some x->vs[i]?=some v->kindOf x≠some .local ->
  bindC kindOf (P.zip vs) m x=some v
 |[],_,_,_,_,h,_,_=>by simp at h
 |_::_,[],_,_,_,_,h,_=>by simp at h
 | p::P,w::vs,0,m,nd,h1,h2,hk=>by
  simp at h1 h2;subst h1;subst h2
  show bindC kindOf ((p,w)::P.zip vs) m p=_;unfold bindC;rw[Wz fun v hv=>(List.nodup_cons.1 nd).1 (List.of_mem_zip hv).1,if_neg hk];simp
 | p::P,w::vs,i+1,m,nd,h1,h2,hk=>by
  show bindC kindOf ((p,w)::P.zip vs) m x=_;unfold bindC;exact WB (i:=i) (List.nodup_cons.1 nd).2 (by simpa using h1) (by simpa using h2) hk
noncomputable def start(N:List Str)(vs:List V):St:=vs.map some++List.replicate (N.length - vs.length) none
noncomputable def cxOf(CX:CXT)(P:Program)(w:World)(K:Frag)(mg:Str->Option Value)(base:Heap)(N:List Str)(qual:Str)(scope:Scope)(f:Addr)(cd:Value)(A:Around)(outer:List Env)(s:Shared)(H:Hp)(E:XK):Cx where
 prog:=P
 w:=w
 K:=K
 mg:=mg
 base:=base
 A:=A.deeper (envOfC qual scope s.heap.objs.size f cd)
 N:=N
 s₀:=s
 H₀:=H
 env:=envOfC qual scope s.heap.objs.size f cd
 outer:=outer
 stack:=envOfC qual scope s.heap.objs.size f cd::outer
 ex:=[]
 calm:=true
 fn:=fun _=>true
 pn:=[]
 xe:=fun e s'=>wpAny (model P w) (A.deeper (envOfC qual scope s.heap.objs.size f cd)) (leaving (envOfC qual scope s.heap.objs.size f cd) e) (fun _ s''=>CX outer H s E e s'') (fun e' s''=>CX outer H s E e' s'') s'
theorem qo{sc:Scope}{n:Nat}{x:Str}(h:sc.names.lookup x=some .cell):∃ c,(cellsFrom n sc.names []).lookup x=some c:=by
 have q:=PySem.W.cellsFrom_some sc.names n [] (.inl h);exact Option.isSome_iff_exists.1 q
theorem Zbj{CX:CXT}{P:Program}{w:World}{K:Frag}{mg:Str->Option Value}{base:Heap}{N ps:List Str}{qual:Str}{scope:Scope}{f:Addr}{cd:Value}{A:Around}{outer:List Env}{s s1:Shared}{H:Hp}{E:XK}{us:List Value}{vs:List V}
  (S:Yl N ps scope)(hd:A.handled=none)(e0:Env0 P w K mg base A outer s H)(hl:vs.length=ps.length)(r:Vals vs us)
  (x:InCallC s s.heap.objs.size (bindL (envOfC qual scope s.heap.objs.size f cd).kindOf (ps.zip us) fun _=>none) (cellsFrom (s.heap.objs.size+1) scope.names []) (bindC (envOfC qual scope s.heap.objs.size f cd).kindOf (ps.zip us) fun _=>none) s1) :
  Inv (cxOf CX P w K mg base N qual scope f cd A outer s H E) [] (start N vs) H s1:=by
 have hpl:ps.length<=N.length:=by have:=congrArg List.length S.pre;rw[length_take] at this;lia
 obtain⟨h1,tk,rfl,hk⟩:=x.done;have noA:∀ b:Addr,b∉(cxOf CX P w K mg base N qual scope f cd A outer s H E).ex:=fun b z=>absurd (show b∈([]:List Addr) from z) (by simp);refine⟨⟨e0.mod,S.kind,rfl,rfl,oAl _,fun y z c h1 h2=>?_,fun y hy=>?_,fun y c _ h=>?_,fun _=>hd,Around.frames_deeper e0.frames,.inr ⟨rfl,rfl⟩,fun b z=>absurd z (noA b),e0.bs,e0.bsz,fun b _ _=>noA b,fun b z=>absurd z (noA b),e0.funs,e0.frf⟩,
  rfl,e0.bare,Un.kept hk,⟨_,x.toInCall.ns,fun i y v h1 h2 h3=>?_⟩,fun y c h=>⟨_,x.cell y c h⟩,e0.hok.fresh (oAl _),fun y c h=>?_,fun p hp=>absurd (show p∈([]:zPn) from hp) (by simp),e0.hok.kept hk,?_⟩
 ·exact name_of_addr x.apart (PySem.mem_of_lookup h1) (PySem.mem_of_lookup h2)
 ·have hy:scope.names.lookup y=some .cell\/scope.names.lookup y=some .free:=hy
  rcases hy with hy | hy
  ·exact qo hy
  ·exact absurd rfl (S.nofree _ (PySem.mem_of_lookup hy))
 ·exact le_of_lt (x.above y c (PySem.mem_of_lookup h))
 ·have hi:i<vs.length:=by
   unfold start at h2;by_cases hi:i<vs.length
   ·exact hi
   ·rw[getElem?_append_right (by simpa using hi)] at h2;rw[List.getElem?_replicate] at h2;split at h2<;>cases h2
  have ha:vs[i]?=some v:=by
   unfold start at h2;rw[getElem?_append_left (by simpa using hi),getElem?_map] at h2;cases e:vs[i]? with
   |none=>rw[e] at h2;cases h2
   |some a=>rw[e] at h2;cases h2;rfl
  obtain⟨u,hu,rv⟩:=r.get ha;have hp:ps[i]?=some y:=by
   rw[<- S.pre,List.getElem?_take_of_lt (by lia)];exact h1
  have ndP:ps.Nodup:=by rw[<- S.pre];exact S.nd.sublist (List.take_sublist _ _)
  refine⟨u,rv,?_⟩
  rcases S.par y (mem_of_getElem? hp) with k | k
  ·exact .inl ⟨k,WA ndP hp hu k⟩
  ·obtain⟨c,e⟩:=qo (n:=s.heap.objs.size+1) k;refine .inr ⟨.inl k,c,e,?_⟩;have q:=x.cell y c e;rw[WB ndP hp hu (by show scope.names.lookup y≠_;rw[k];decide)] at q
   exact q
 ·exact e0.hok.fresh (le_of_lt (x.above y c (PySem.mem_of_lookup h)))
 ·unfold start;show _=N.length;rw[length_append,length_map,length_replicate];lia
theorem ZhX{CX:CXT}{P:Program}{w:World}{K:Frag}{mg:Str->Option Value}{base:Heap}{k:Nat}{f:Addr}{name qual:Str}{params:Arguments}{body:List Stmt}{scope:Scope}{dV kV doc pm cdv ct oc:Value}{an od:Option Addr}
  {osl:Array (Option Value)}{N ps:List Str}{sp:Sp}(lk:K.lookup f=some ⟨oc,od,.func (PySem.W.fnOf name qual params body scope dV kV doc pm an cdv ct),osl⟩)(hcd:PySem.W.codeIn K cdv qual=true)(S:Yl N ps scope)
  (len:∀ vs H Q E,sp vs H Q E->vs.length=ps.length)
  (hbody:∀ (A:Around) (outer:List Env) (s:Shared) (H:Hp) (vs:List V) (Q:VK) (E:XK),Room k (A.deeper (envOfC qual scope s.heap.objs.size f cdv))->sp vs H Q E ->
   ∃ t,PSs (cxOf CX P w K mg base N qual scope f cdv A outer s H E) body t/\t { nx:=fun _ H'=>Q .non H',rt:=Q } (start N vs) H) :
  FnOk P w K mg base CX (k+1) f (PySem.W.fnOf name qual params body scope dV kV doc pm an cdv ct) ps sp:=by
 refine⟨len,fun A outer s H args us vs Q E hr e0 hb r hsp=>?_⟩;have hl:=len _ _ _ _ hsp;have KX:K.In s.heap:=e0.mod.kin.keeps fun b o e=>(e0.bs b o e).1;have lim:s.heap.NoLimit:=e0.mod.nolimit.keeps fun b o e=>(e0.bs b o e).1;have hkind:∀ y∈ps.zip us,scope.names.lookup y.1=some .local\/(scope.names.lookup y.1=some .cell/\((cellsFrom (s.heap.objs.size+1) scope.names []).lookup y.1).isSome=true):=fun ⟨n,v⟩ hy=>by
  rcases S.par n (List.of_mem_zip hy).1 with q | q
  ·exact .inl q
  ·exact .inr ⟨q,PySem.W.cellsFrom_some _ _ _ (.inl q)⟩
 refine codeAny_call_function hr.depth (KX _ _ lk) rfl S.co S.gen rfl (PySem.W.codeRec_of KX hcd) (hb _ _ _ _ ?_);refine wpAny_newFunctionEnv_cells S.kind hkind fun env he s1 x=>?_;subst he;refine⟨lim.keeps x.toInCall.keep,codeAny_func ?_⟩;obtain⟨t,ht,hq⟩:=hbody A outer s H vs Q E (hr.deeper _) hsp;have I:Inv (cxOf CX P w K mg base N qual scope f cdv A outer s H E) [] (start N vs) H s1:=Zbj S hr.hd e0 hl r x;refine oAc (ht [] s1 (start N vs) H _ I hq) (fun fl s' hs=>?_) fun e s' hs=>hs;have fin:∀ {σ':St}{H':Hp}{v:V}{u:Value},Inv (cxOf CX P w K mg base N qual scope f cdv A outer s H E) [] σ' H' s'->RelV v u->Q v H'->CE outer P w H s Q u s':=
  fun {σ' H' v u} J rv q=>⟨v,H',J.os,J.bare,J.base,J.hok,rv,q⟩
 cases fl with
 | ret u=>
  obtain⟨v,σ',H',J,rv,q⟩:=hs;exact fin J rv q
 | next=>
  obtain⟨σ',H',J,q⟩:=hs;exact fin (v:=V.non) (u:=Value.none) J rfl q
 | brk=>
  obtain⟨_,_,_,q⟩:=hs;exact False.elim q
 | cont=>
  obtain⟨_,_,_,q⟩:=hs;exact False.elim q
section
variable {X:Cx}{x:Str}{p pos:Pos}{e:Expr}{es:List Expr}{t:TA}{id T:String}{r:List V->Hp->VK->Prop}
noncomputable def tCB(r:List V->Hp->VK->Prop)(t:TA):TE:=fun σ H Q=>t σ H fun vs H1=>r vs H1 Q
theorem VF(hc:YB X (.builtin id) r)(hg:Gl X x)(hm:X.mg x=none)(hv:bootBuiltins x=some (.builtin id))(ha:PA X (e::es) t)(hn:x≠"__name__":=by decide)(hdb:(x==("__debug__":Str))=false:=by decide)
  (he:starEach (e::es) X.env=(false,eval e X.env)::starEach es X.env:=by rfl)(hpl:(backTo pos (starEach es X.env)).any (·.1)=false:=by rfl):PE X (.Call (.Name x p) (e::es) [] pos) (tCB r t):=by
 intro pins s σ H Q I h;refine wpAny_Call_Name_kw (Ji I hg hm hv ?_ hn hdb);exact PyProof.Rows.callWith_builtin1 (thn (ha pos pins s σ H _ I h) fun us s1 ⟨vs,H1,I1,r1,q1⟩=>hc pins s1 σ H1 vs us Q I1 r1 q1) he hpl
theorem WC(hc:YB X (.type T) r)(hg:Gl X x)(hm:X.mg x=none)(hv:bootBuiltins x=some (.type T))(ha:PA X (e::es) t)(hn:x≠"__name__":=by decide)(hdb:(x==("__debug__":Str))=false:=by decide)
  (he:starEach (e::es) X.env=(false,eval e X.env)::starEach es X.env:=by rfl)(hpl:(backTo pos (starEach es X.env)).any (·.1)=false:=by rfl):PE X (.Call (.Name x p) (e::es) [] pos) (tCB r t):=by
 intro pins s σ H Q I h;refine wpAny_Call_Name_kw (Ji I hg hm hv ?_ hn hdb);exact PyProof.Rows.callWith_type1 (thn (ha pos pins s σ H _ I h) fun us s1 ⟨vs,H1,I1,r1,q1⟩=>hc pins s1 σ H1 vs us Q I1 r1 q1) he hpl
end
end L2
namespace HT
open PySem PyProof.Rows
section
variable {prog:Program}{w:World}{A:Around}{E:zVP}{s:Shared}
theorem ZdM{Q:zVP}(ht:IsTup s.heap t vs.toArray)(hb:IsTup s.heap b ws.toArray)(hv:vs≠[])
  (h1:ws=[]->Q (.ref t) s)(h2:ws≠[]->Q (.ref s.heap.objs.size) { s with heap:=s.heap.push { cls:=.type "tuple",data:=.seq (vs++ws).toArray } })
  (hsz:vs.length+ws.length<=sizeLine):wpAny (model prog w) A (binaryOp .Add (.ref t) (.ref b)) Q E s:=by
 obtain⟨⟨cls,dd,data,sl⟩,ho,hc,n,hd⟩:=id ht;obtain⟨⟨cls2,dd2,data2,sl2⟩,ho2,hc2,n2,hd2⟩:=id hb;simp only at hc hd hc2 hd2;subst hc hd hc2 hd2;have e:vs.toArray++ws.toArray=(vs++ws).toArray:=by simp
 by_cases hw:ws=[]
 ·exact concat_meets ⟨_,ho,rfl⟩ ⟨_,ho2,rfl⟩ noFill_tuple_add seq_tuple_add PySem.F.slot_tuple_add PySem.F.entry_tuple_add (PySem.F.args_tuple_add_2 _ _)
   (tuple_addW1 t b vs.toArray ws.toArray n n2 dd dd2 sl sl2 (by simpa using hv) (by simp[hw])) ⟨ho,ho2,h1 hw⟩
 ·refine concat_meets ⟨_,ho,rfl⟩ ⟨_,ho2,rfl⟩ noFill_tuple_add seq_tuple_add PySem.F.slot_tuple_add PySem.F.entry_tuple_add (PySem.F.args_tuple_add_2 _ _)
   (tuple_addW2 t b vs.toArray ws.toArray n n2 dd dd2 sl sl2 (by simpa using hv) (by simpa using hw) (by rw[size_toArray,size_toArray];exact hsz)) ⟨ho,ho2,?_⟩
  rw[e];exact h2 hw
noncomputable def sIx(n d:Nat):Option Int->Nat
 |none=>d
 |some v=>if v<0 then (v+(n:Int)).toNat else min v.toNat n
theorem ZdN(n d k:Nat):sIx n d (some (k:Int))=min k n:=by
 show (if (k:Int)<0 then ((k:Int)+(n:Int)).toNat else min (k:Int).toNat n)=min k n;rw[if_neg (by omega),toNat_natCast]
theorem Zfu(n d:Nat)(hd:d<=n)(o:Option Int):sIx n d o<=n:=by
 cases o with
 |none=>exact hd
 | some v=>
  show (if v<0 then (v+(n:Int)).toNat else min v.toNat n)<=n;by_cases hv:v<0
  ·rw[if_pos hv];lia
  ·rw[if_neg hv];exact Nat.min_le_right _ _
theorem zO(v:Int)(n d:Nat):(if v<0 then max (v+(n:Int)) 0 else min v (n:Int))=((sIx n d (some v):Nat):Int):=by
 show (if v<0 then max (v+(n:Int)) 0 else min v (n:Int))=(((if v<0 then (v+(n:Int)).toNat else min v.toNat n):Nat):Int);by_cases hv:v<0
 ·simp only[if_pos hv];lia
 ·simp only[if_neg hv];lia
theorem ZaC(lo hi:Option Int)(n:Nat):Builtin.Slice.sliceAdjust lo hi 1 (n:Int)=(((sIx n 0 lo:Nat):Int),((sIx n n hi:Nat):Int)):=by
 have h1:¬ ((1:Int)<0):=by lia
 unfold Builtin.Slice.sliceAdjust;simp only[h1,if_false];refine Prod.ext ?_ ?_
 ·cases lo with
  |none=>rfl
  |some v=>exact zO v n 0
 ·cases hi with
  |none=>rfl
  |some v=>exact zO v n n
theorem ZaD(i j:Nat):Builtin.Slice.slicePlaces (i:Int) (j:Int) 1=j - i:=by
 unfold Builtin.Slice.slicePlaces;have h1:(1:Int) > 0:=by lia
 simp only[h1,if_true,Int.ediv_one];split<;>lia
theorem VV{Q:Option Int->Shared->Prop}(p:IsPart v o)(h:Q o s):wpAny (model prog w) A (Builtin.Slice.slicePartIndex v) Q E s:=by
 cases p with
 |none=>exact slicePart_none h
 |int i t=>exact slicePart_int h
theorem Jj{sl:Addr}{vl vu:Value}{lo hi:Option Int}{n:Nat}{Q:Int×Int×Nat->Shared->Prop}(hs:s.heap.IsSliceOf sl vl vu .none)(pl:IsPart vl lo)(pu:IsPart vu hi)
  (h:Q (((sIx n 0 lo:Nat):Int),1,sIx n n hi - sIx n 0 lo) s):wpAny (model prog w) A (Builtin.Slice.sliceApplied (.ref sl) (pure (n:Int))) Q E s:=by
 obtain⟨os,hos,hcs,hds⟩:=id hs;unfold Builtin.Slice.sliceApplied Builtin.Slice.sliceFields;refine oAa (oAa (wpAny_field hos hds (x:=vl) rfl (oAa (wpAny_field hos hds (x:=vu) rfl (oAa (wpAny_field hos hds (x:=.none) rfl (oAb ?_)))))));refine oAa (slicePart_none ?_);show wpAny _ _ (if ((1:Int)==0)=true then _ else _) _ _ s;rw[if_neg (by decide)];refine oAa (VV pl (oAa (VV pu (oAa (oAb ?_)))));show wpAny _ _ (match Builtin.Slice.sliceAdjust lo hi 1 (n:Int) with | (lo,hi)=>pure (lo,(1:Int),Builtin.Slice.slicePlaces lo hi 1)) _ _ s;rw[ZaC lo hi n];show wpAny _ _ (pure (((sIx n 0 lo:Nat):Int),(1:Int),Builtin.Slice.slicePlaces ((sIx n 0 lo:Nat):Int) ((sIx n n hi:Nat):Int) 1)) _ _ s;rw[ZaD];exact oAb h
theorem Zco(xs:Array Value)(i k:Nat):((List.range k).filterMap fun (m:Nat)=>xs[((i:Int)+(m:Int) * 1).toNat]?).toArray=((xs.toList.drop i).take k).toArray:=by
 have e:(fun (m:Nat)=>xs[((i:Int)+(m:Int) * 1).toNat]?)=fun m=>xs[i+m]?:=by
  funext m
  have:((i:Int)+(m:Int) * 1).toNat=i+m:=by lia
  rw[this]
 rw[e];have:=pick_run xs i k;rw[List.filterMap_map] at this;have e2:((fun x=>xs[x]?) ∘ fun x=>i+x)=fun m=>xs[i+m]?:=rfl;rw[e2] at this;rw[this]
theorem Vq{t sl:Addr}{items:Array Value}{vl vu:Value}{lo hi:Option Int}{Q:zVP}(ht:IsTup s.heap t items)(hs:s.heap.IsSliceOf sl vl vu .none)(pl:IsPart vl lo)(pu:IsPart vu hi)
  (hw:¬ (sIx items.size 0 lo=0/\sIx items.size items.size hi=items.size))
  (h:Q (.ref s.heap.objs.size) { s with heap:=s.heap.push { cls:=.type "tuple",data:=.seq ((items.toList.drop (sIx items.size 0 lo)).take (sIx items.size items.size hi - sIx items.size 0 lo)).toArray } })
  (hsz:items.size<=sizeLine):wpAny (model prog w) A (getItem (.ref t) (.ref sl)) Q E s:=by
 have htake:sizeOk (.seq ((items.toList.drop (sIx items.size 0 lo)).take (sIx items.size items.size hi - sIx items.size 0 lo)).toArray):=by
  show ((items.toList.drop (sIx items.size 0 lo)).take (sIx items.size items.size hi - sIx items.size 0 lo)).toArray.size<=sizeLine;rw[size_toArray,length_take,length_drop,length_toList];omega
 have hj:sIx items.size items.size hi<=items.size:=Zfu _ _ (oAl _) hi;obtain⟨os,hos,hcs,hds⟩:=id hs;have hTs:s.TypeIs (.ref sl) "slice":=⟨os,hos,hcs⟩;unfold getItem
 try with_reducible refine wpAny_holding ?_
 first | refine oAa (oAb ?_) | skip
 refine oAa (wpAny_sequenceKey ht.typeIs (by decide) ?_);refine oAa (wpAny_callSpecial?_slot (name:=Str.ofString "__getitem__") ht.typeIs PyProof.Rows.slot_tuple_getitem
  (wpAny_call_entry PyProof.Rows.slot_tuple_getitem ht.typeIs entry_tuple_getitem ?_ (args_tuple_getitem _ _)))
 show wpAny _ _ (Builtin.Tuple.tupleItemsOf (.ref t)>>=_) _ _ s;refine oAa (tupleItemsOf_ ht ?_);refine oAa (wpAny_typeOf hTs ?_);rw[if_pos (by decide)];refine oAa (Jj hs pl pu ?_);have hno:¬ ((((sIx items.size 0 lo:Nat):Int)==0&&(1:Int)==1&&(sIx items.size items.size hi - sIx items.size 0 lo)==items.size)=true):=by
  intro q;rw[and_eq_true,and_eq_true] at q;have q1:((sIx items.size 0 lo:Nat):Int)=0:=eq_of_beq q.1.1;have q2:sIx items.size items.size hi - sIx items.size 0 lo=items.size:=eq_of_beq q.2;exact hw ⟨by omega,by omega⟩
 show wpAny _ _ (if (((sIx items.size 0 lo:Nat):Int)==0&&(1:Int)==1&&(sIx items.size items.size hi - sIx items.size 0 lo)==items.size)=true then _ else _) _ _ s;rw[if_neg hno,Zco]
 first
  |exact oAa (m:=Builtin.Tuple.tupleExact _) (wpAny_newObj_type (oAb ⟨_,rfl,oAb h⟩) htake)
  |exact oAa (m:=Builtin.Tuple.tupleExact _) (wpAny_newObj_type (oAa (oAb (oAb ⟨_,rfl,oAb h⟩))) htake)
  |exact oAa (oAa (m:=Builtin.Tuple.tupleExact _) (wpAny_newObj_type (oAb (oAb ⟨_,rfl,oAb h⟩)) htake))
  |exact oAa (oAa (m:=Builtin.Tuple.tupleExact _) (wpAny_newObj_type (oAb ⟨_,rfl,oAb h⟩) htake))
end
end HT
namespace L2
open PySem PySem.Spec PyProof.Rows
abbrev TO:=St->Hp->(Option Int->Hp->Prop)->Prop
def PO(X:Cx)(e:Option Expr)(t:TO):Prop:=
 ∀ (pins:zPn) (s:Shared) (σ:St) (H:Hp) (Q:Option Int->Hp->Prop),Inv X pins σ H s->t σ H Q ->
  wpAny (model X.prog X.w) X.A (evalPart e X.env) (fun u s'=>∃ o H',Inv X pins σ H' s'/\IsPart u o/\Q o H') X.xe s
noncomputable def ZdO:TO:=fun _ H Q=>Q none H
noncomputable def ZhY(t:TE):TO:=fun σ H Q=>t σ H fun x H1=>∃ i,x=.int i/\Q (some i) H1
section
variable {X:Cx}{e:Expr}{te:TE}{lo hi:Option Expr}{tl th:TO}{pos p2:Pos}
theorem ZdP:PO X none ZdO:=by
 intro pins s σ H Q I h;rw[evalPart_none];exact oAb ⟨none,H,I,.none,h⟩
theorem ZdQ(h:PE X e te):PO X (some e) (ZhY te):=by
 intro pins s σ H Q I hw;rw[evalPart_some];refine thn (h pins s σ H _ I hw) fun u s1 ⟨x,H1,I1,r1,q1⟩=>?_;obtain⟨i,rfl,q⟩:=q1;obtain⟨t,rfl⟩:=r1;exact⟨some i,H1,I1,.int i t,q⟩
def SlR(X:Cx)(r:V->Option Int->Option Int->Hp->VK->Prop):Prop:=
 ∀ (pins:zPn) (s:Shared) (σ:St) (H:Hp) (x:V) (v vl vu:Value) (lo hi:Option Int) (sl:Addr) (Q:VK),Inv X pins σ H s->RelV x v->s.heap.IsSliceOf sl vl vu .none->IsPart vl lo->IsPart vu hi->r x lo hi H Q ->
  ∃ T id,typeLookup (.type T) "__getitem__"=pure (some (.builtin id))/\s.TypeIs v T/\wpAny (model X.prog X.w) X.A (getItem v (.ref sl)) (EP X pins σ Q) X.xe s
noncomputable def tSl(r:V->Option Int->Option Int->Hp->VK->Prop)(te:TE)(tl th:TO):TE:=fun σ H Q=>te σ H fun x H1=>tl σ H1 fun l H2=>th σ H2 fun u H3=>r x l u H3 Q
theorem Zcp{r:V->Option Int->Option Int->Hp->VK->Prop}(hr:SlR X r)(he:PE X e te)(hl:PO X lo tl)(hu:PO X hi th):PE X (.Subscript e (.Slice lo hi none p2) pos) (tSl r te tl th):=by
 intro pins s σ H Q I h;refine Subscript_ (thn (he pins s σ H _ I h) fun v s1 ⟨x,H1,I1,r1,q1⟩=>?_);refine wpAny_Slice (thn (hl pins s1 σ H1 _ I1 q1) fun vl s2 ⟨l,H2,I2,pl,q2⟩=>thn (hu pins s2 σ H2 _ I2 q2) fun vu s3 ⟨u,H3,I3,pu,q3⟩=>?_);rw[evalPart_none];refine oAb ?_;have I4:Inv X pins σ H3 { s3 with heap:=s3.heap.push { cls:=.type "slice",data:=.fields #[vl,vu,.none] } }:=I3.kept (t':=s3.toks) fun b ob q=>oAd _ q;obtain⟨T,id,hT,ht,hg⟩:=hr pins { s3 with heap:=s3.heap.push { cls:=.type "slice",data:=.fields #[vl,vu,.none] } } σ H3 x v vl vu l u s3.heap.objs.size Q I4 r1 (Heap.IsSliceOf.new ..) pl pu q3;show wpAny (model X.prog X.w) X.A (subscriptTail e (.Slice lo hi none p2) v (.ref s3.heap.objs.size)) (EP X pins σ Q) X.xe { s3 with heap:=s3.heap.push { cls:=.type "slice",data:=.fields #[vl,vu,.none] } };exact tail_any (ops:=[.ref s3.heap.objs.size,v]) ht hT hg (by with_unfolding_all rfl)
noncomputable def cutV(xs:List V)(lo hi:Option Int):List V:=(xs.drop (HT.sIx xs.length 0 lo)).take (HT.sIx xs.length xs.length hi - HT.sIx xs.length 0 lo)
theorem Vw(xs:List V)(lo hi:Option Int):(cutV xs lo hi).length<=xs.length:=by
 unfold cutV;rw[length_take,length_drop];lia
noncomputable def rSlT(K:Frag):V->Option Int->Option Int->Hp->VK->Prop:=fun x lo hi H Q=>∃ a xs,x=.ref a/\SqT K H a xs /\
 ¬ (HT.sIx xs.length 0 lo=0/\HT.sIx xs.length xs.length hi=xs.length)/\∀ p,H p=none->Q (.ref p) (upd H p (.tup (cutV xs lo hi)))
theorem Zfv:SlR X (rSlT X.K):=by
 intro pins s σ H x v vl vu lo hi sl Q I rx hs pl pu h;obtain⟨a,xs,rfl,hx,hw,q⟩:=h;cases rx
 obtain⟨its,r,ht,hz⟩:=I.tuple hx;have hlen:its.toArray.size=xs.length:=by rw[size_toArray];exact r.length.symm
 refine⟨"tuple",_,PyProof.Rows.slot_tuple_getitem.lookup,ht.typeIs,?_⟩;refine HT.Vq ht hs pl pu (by rw[hlen];exact hw) ?_ (by rw[hlen];exact hz)
 rw[hlen];refine⟨.ref s.heap.objs.size,_,I.laid (t':=s.toks) (o:=.tup (cutV xs lo hi)) (fun b ob q=>oAd _ q) (oAl _) ?_,rfl,q _ (I.hok.fresh (oAl _))⟩;exact⟨oAq (Vw xs lo hi) hz,_,(r.drop (HT.sIx xs.length 0 lo)).take (HT.sIx xs.length xs.length hi - HT.sIx xs.length 0 lo),IsTup.new _ _⟩
noncomputable def ZhZ(K:Frag):R2:=fun x y H Q=>∃ a b xs ys,x=.ref a/\y=.ref b/\SqT K H a xs/\SqT K H b ys/\xs≠[]/\xs.length+ys.length<=sizeLine /\
 (ys=[]->Q (.ref a) H)/\(ys≠[]->∀ p,H p=none->Q (.ref p) (upd H p (.tup (xs++ys))))
theorem Vals.nil_iff(r:Vals xs us):us=[]↔xs=[]:=by
 cases r with
 |nil=>simp
 |cons _ _=>simp
theorem ZdR:OpR X (binaryOp .Add) (ZhZ X.K):=by
 intro pins s σ H x y v u Q I rx ry h;obtain⟨a,b,xs,ys,rfl,rfl,ha,hb,hx,hz,q1,q2⟩:=h;cases rx
 cases ry
 obtain⟨its,r1,p1,_⟩:=I.tuple ha;obtain⟨its2,r2,p2,_⟩:=I.tuple hb;refine HT.ZdM p1 p2 (fun z=>hx (r1.nil_iff.1 z)) (fun z=>⟨.ref a,H,I,rfl,q1 (r2.nil_iff.1 z)⟩) (fun z=>?_) (by rw[<- r1.length,<-r2.length];exact hz)
 refine⟨.ref s.heap.objs.size,_,I.laid (t':=s.toks) (o:=.tup (xs++ys)) (fun b ob q=>oAd _ q) (oAl _) ?_,rfl,q2 (fun w=>z (r2.nil_iff.2 w)) _ (I.hok.fresh (oAl _))⟩;exact⟨by rw[length_append];exact hz,_,r1.append r2,IsTup.new _ _⟩
end
noncomputable def ixN(n:Nat)(i:Int):Option Nat:=if 0<=i then (if i<n then some i.toNat else none) else if -(n:Int)<=i then some (i+n).toNat else none
noncomputable def atI{α:Type}(xs:List α)(i:Int):Option α:=(ixN xs.length i).bind fun j=>xs[j]?
theorem zP(h:ixN n i=some j):seqIndex? i n=some j/\j<n/\-(n:Int)<=i/\i<n:=by
 unfold ixN at h;by_cases h0:0<=i
 ·rw[if_pos h0] at h;by_cases h1:i<n
  ·rw[if_pos h1] at h;have e:i.toNat=j:=oAk h;exact⟨by rw[seqIndex_of h0 h1,e],by lia,by lia,h1⟩
  ·rw[if_neg h1] at h;cases h
 ·rw[if_neg h0] at h;by_cases h1:-(n:Int)<=i
  ·rw[if_pos h1] at h;have e:(i+n).toNat=j:=oAk h;exact⟨by rw[seqIndex_neg (by lia) h1,e],by lia,h1,by lia⟩
  ·rw[if_neg h1] at h;cases h
theorem Wh{α:Type}{xs:List α}{i:Int}{v:α}(h:atI xs i=some v):∃ j,seqIndex? i xs.length=some j/\xs[j]?=some v/\j<xs.length/\-(xs.length:Int)<=i/\i<xs.length:=by
 unfold atI at h;cases e:ixN xs.length i with
 |none=>rw[e] at h;cases h
 | some j=>
  rw[e] at h;obtain⟨h1,h2,h3,h4⟩:=zP e;exact⟨j,h1,h,h2,h3,h4⟩
theorem Yv{α:Type}{xs:List α}{j:Nat}{v:α}(h:xs[j]?=some v):atI xs (j:Int)=some v:=by
 have hj:j<xs.length:=(List.getElem?_eq_some_iff.1 h).1;have e:ixN xs.length (j:Int)=some j:=by
  unfold ixN;rw[if_pos (by lia),if_pos (by lia)];simp
 unfold atI;rw[e];exact h
def ZdS(b:Expr):Prop:=∀ o i,subscripted b false o i=operate [o,i] (getItem o i)
def IxR(X:Cx)(r:R2):Prop:=
 ∀ (value slice:Expr) (pins:zPn) (s:Shared) (σ:St) (H:Hp) (x y:V) (v u:Value) (Q:VK),Inv X pins σ H s->RelV x v->RelV y u->r x y H Q ->
  subscripted slice false v u=operate [v,u] (getItem v u)->wpAny (model X.prog X.w) X.A (subscriptTail value slice v u) (EP X pins σ Q) X.xe s
def MtR(X:Cx)(id:String)(r:V->List V->Hp->VK->Prop):Prop:=
 ∀ (pins:zPn) (s:Shared) (σ:St) (H:Hp) (x:V) (xs:List V) (v:Value) (us:List Value) (Q:VK),Inv X pins σ H s->RelV x v->Vals xs us->r x xs H Q ->
  wpAny (model X.prog X.w) X.A (call (.builtin id) (v::us)) (EP X pins σ Q) X.xe s
section
variable {X:Cx}{a b:Expr}{ta tb:TE}{pos:Pos}
noncomputable def rIxL(K:Frag):R2:=fun x y H Q=>∃ p xs i v,x=.ref p/\y=.int i/\SqL K H p xs/\atI xs i=some v/\Q v H
noncomputable def rIxT(K:Frag):R2:=fun x y H Q=>∃ p xs i v,x=.ref p/\y=.int i/\SqT K H p xs/\atI xs i=some v/\Q v H
noncomputable def rIxS:R2:=fun x y H Q=>∃ z i c,x=.str z/\y=.int i/\z.length<=sizeLine/\atI z.cps.toList i=some c/\Q (.str ⟨#[c]⟩) H
theorem ZdT:IxR X (rIxL X.K):=by
 intro value slice pins s σ H x y v u Q I rx ry h hs;obtain⟨p,xs,i,z,rfl,rfl,hq,he,q⟩:=h;cases rx
 obtain⟨t,rfl⟩:=ry;obtain⟨its,r,pl,hz⟩:=I.list hq;obtain⟨j,h1,h2,h3,h4,h5⟩:=Wh he;obtain⟨w,ew,rw'⟩:=r.get h2;have hl:=r.length;have hn:=line63;have fin:EP X pins σ Q w s:=⟨z,H,I,rw',q⟩;by_cases h0:0<=i
 ·have hj:i.toNat=j:=by
   rw[seqIndex_of h0 h5] at h1;exact oAk h1
  exact item_listR pl.isList h0 (by lia) (by rw[hj];simpa using ew) fin hs
 ·have hj:(i+(its.toArray.size:Int)).toNat=j:=by
   rw[seqIndex_neg (by lia) h4] at h1;rw[size_toArray,<-hl];exact oAk h1
  exact subscriptTail_builtinR (x:=w) pl.isList.typeIs slot_list_getitem.lookup
   (wpAny_getItem_list_neg (Q:=fun r s'=>r=w/\EP X pins σ Q r s') pl.isList (by lia) (by rw[size_toArray]<;>lia) (by lia) (by rw[hj];simpa using ew) ⟨rfl,fin⟩) hs
theorem Zfw:IxR X (rIxT X.K):=by
 intro value slice pins s σ H x y v u Q I rx ry h hs;obtain⟨p,xs,i,z,rfl,rfl,hq,he,q⟩:=h;cases rx
 obtain⟨t,rfl⟩:=ry;obtain⟨its,r,pl,hz⟩:=I.tuple hq;obtain⟨j,h1,h2,h3,h4,h5⟩:=Wh he;obtain⟨w,ew,rw'⟩:=r.get h2;have hl:=r.length;have hn:=line63;have fin:EP X pins σ Q w s:=⟨z,H,I,rw',q⟩;exact subscriptTail_builtinR (x:=w) pl.typeIs slot_tuple_getitem.lookup
  (getItem_tuple (j:=j) (Q:=fun r s'=>r=w/\EP X pins σ Q r s') pl (by lia) (by lia) (by rw[size_toArray,<-hl];exact h1) (by simpa using ew) ⟨rfl,fin⟩) hs
theorem Zfx:IxR X rIxS:=by
 intro value slice pins s σ H x y v u Q I rx ry h hs;obtain⟨z,i,c,rfl,rfl,hz,he,q⟩:=h;obtain⟨t,rfl⟩:=rx;obtain⟨t',rfl⟩:=ry;obtain⟨j,h1,h2,h3,h4,h5⟩:=Wh he;have hl:z.cps.toList.length=z.length:=by simp[Str.length]
 rw[hl] at h1 h4 h5;have hn:=line63;exact tail_any (typeIs_str s z t) slot_str_getitem.lookup (getItem_str (c:=c) (by
  have e1:decide (i < -(2 ^ 63:Int))=false:=oAh (by lia);have e2:decide (i ≥ 2 ^ 63)=false:=oAh (by lia);rw[e1,e2,Bool.or_false]) (by rw[h1];simpa using h2) ⟨.str ⟨#[c]⟩,H,I.tok _,⟨_,rfl⟩,q⟩) hs
theorem ZaE(its:List Value)(n j:Nat)(u:Value):Obj.mapSeq (·.setIfInBounds j u) { cls:=.type "list",data:=.seq its.toArray n }={ cls:=.type "list",data:=.seq (its.set j u).toArray n }:=by
 simp[Obj.mapSeq]
theorem Inv.lst{pins:zPn}{σ:St}{H:Hp}{s:Shared}{p:Addr}{xs:List V}(I:Inv X pins σ H s)(h:H p=some (.lst xs)) :
  ∃ (its:List Value) (n:Nat),Vals xs its/\s.heap.get? p=some { cls:=.type "list",data:=.seq its.toArray n }/\xs.length<=sizeLine:=by
 obtain⟨z,its,n,r,e⟩:=I.hok p _ h;exact⟨its,n,r,e,z⟩
theorem Inv.lstUpd{pins:zPn}{σ:St}{H:Hp}{s:Shared}{p:Addr}{xs ys:List V}{its its':List Value}{n n':Nat}{f:Obj->Obj}(I:Inv X pins σ H s)(h:H p=some (.lst xs))
  (ho:s.heap.get? p=some { cls:=.type "list",data:=.seq its.toArray n })(hf:f { cls:=.type "list",data:=.seq its.toArray n }={ cls:=.type "list",data:=.seq its'.toArray n' })(r:Vals ys its')(hz:ys.length<=sizeLine)(t:Nat) :
  Inv X pins σ (upd H p (.lst ys)) { s with heap:=s.heap.update p f,toks:=t }:=by
 have e:(s.heap.update p f).get? p=some { cls:=.type "list",data:=.seq its'.toArray n' }:=by
  rw[get?_update_self f ho (by rw[hf]<;>rfl),hf]
 refine I.write (x:=p) (e:=p) (by rw[h];trivial) (.inl rfl) (fun b u hb q=>(Heap.get?_update_other _ _ (Ne.symm hb)).trans q) ⟨_,e⟩ ?_
 exact⟨hz,its',n',r,e⟩
noncomputable def Zc7:V->V->V->Hp->(Hp->Prop)->Prop:=fun o i v H Q=>∃ p xs k j,o=.ref p/\i=.int k/\H p=some (.lst xs)/\ixN xs.length k=some j/\Q (upd H p (.lst (xs.set j v)))
theorem set_list:PSet X Zc7:=by
 intro pins s σ H o i v ov iv u Q I ro ri rv h;obtain⟨p,xs,k,j,rfl,rfl,hp,hj,q⟩:=h;cases ro
 obtain⟨t,rfl⟩:=ri;obtain⟨its,n,r,ho,hz⟩:=I.lst hp;obtain⟨h1,h2,h3,h4⟩:=zP hj;have hl:=r.length;have hn:=line63;have I':Inv X pins σ (upd H p (.lst (xs.set j v))) { s with heap:=s.heap.update p (Obj.mapSeq (·.setIfInBounds j u)) }:=
  I.lstUpd hp ho (ZaE its n j u) (r.set rv j) (by rw[length_set];exact hz) s.toks
 by_cases h0:0<=k
 ·have hk:k.toNat=j:=by
   rw[seqIndex_of h0 h4] at h1;exact oAk h1
  exact PySem.W.ki_setAt ho h0 (by lia) (by rw[size_toArray,<-hl];exact h4) (by rw[hk];exact⟨_,I',q⟩)
 ·have hk:(k+(its.toArray.size:Int)).toNat=j:=by
   rw[seqIndex_neg (by lia) h3] at h1;rw[size_toArray,<-hl];exact oAk h1
  exact PySem.W.ki_setBack ho (by lia) (by rw[size_toArray,<-hl];exact h3) (by lia) (by rw[hk];exact⟨_,I',q⟩)
theorem qp(lo hi:Option Int)(n:Nat):(sliceBounds lo hi none n).1=((HT.sIx n 0 lo:Nat):Int)/\(sliceBounds lo hi none n).2.1=((HT.sIx n n hi:Nat):Int)/\(sliceBounds lo hi none n).2.2=1:=by
 refine⟨?_,?_,rfl⟩
 ·cases lo with
  |none=>simp[sliceBounds,HT.sIx]
  | some i=>
   simp only[sliceBounds,HT.sIx,Option.getD_none,show (1:Int) > 0 by decide,if_true];by_cases h:i<0
   ·simp only[h,if_true]<;>lia
   ·simp only[h,if_false]<;>lia
 ·cases hi with
  |none=>simp[sliceBounds,HT.sIx]
  | some i=>
   simp only[sliceBounds,HT.sIx,Option.getD_none,show (1:Int) > 0 by decide,if_true];by_cases h:i<0
   ·simp only[h,if_true]<;>lia
   ·simp only[h,if_false]<;>lia
theorem W0(its:List Value)(lo hi:Option Int):slicePick its.toArray lo hi none=((its.drop (HT.sIx its.length 0 lo)).take (HT.sIx its.length its.length hi - HT.sIx its.length 0 lo)).toArray:=by
 obtain⟨h1,h2,h3⟩:=qp lo hi its.toArray.size;unfold slicePick;rw[h1,h2,h3];simp only[sliceRange_one,pick_run,size_toArray]<;>rfl
noncomputable def rSlL(K:Frag):V->Option Int->Option Int->Hp->VK->Prop:=fun x lo hi H Q=>∃ a xs,x=.ref a/\SqL K H a xs/\∀ p,H p=none->Q (.ref p) (upd H p (.lst (cutV xs lo hi)))
theorem ZdU:SlR X (rSlL X.K):=by
 intro pins s σ H x v vl vu lo hi sl Q I rx hs pl pu h;obtain⟨a,xs,rfl,hx,q⟩:=h;cases rx
 obtain⟨its,r,ht,hz⟩:=I.list hx;have hlen:=r.length;refine⟨"list",_,slot_list_getitem.lookup,ht.isList.typeIs,?_⟩;refine wpAny_getItem_list_slice ht.isList hs pl pu .none (by simp) ?_ (by rw[size_toArray]<;>lia)
 rw[W0,<-hlen];refine⟨.ref s.heap.objs.size,_,I.laid (t':=s.toks) (o:=.lst (cutV xs lo hi)) (fun b ob q=>oAd _ q) (oAl _) ?_,rfl,q _ (I.hok.fresh (oAl _))⟩;exact⟨oAq (Vw xs lo hi) hz,_,0,(r.drop (HT.sIx xs.length 0 lo)).take (HT.sIx xs.length xs.length hi - HT.sIx xs.length 0 lo),oAe _ rfl⟩
noncomputable def YH:V->Bool
 |.non=>true
 |.bl _=>true
 |.int _=>true
 |.str _=>true
 |_=>false
noncomputable def eqV:V->V->Bool
 |.non,.non=>true
 |.bl a,.bl b=>a==b
 |.bl a,.int b=>(if a then 1 else 0)==b
 |.int a,.bl b=>a==(if b then 1 else 0)
 |.int a,.int b=>a==b
 |.str a,.str b=>a==b
 |_,_=>false
theorem Zfy(ry:RelV y u)(rx:RelV x v)(fy:YH y=true)(fx:YH x=true):SeqAt.EqAt A s u v (eqV y x):=by
 cases y with
 | non=>
  cases ry
  cases x with
  |non=>cases rx;exact SeqAt.EqAt.same _
  |bl b=>cases rx;exact SeqAt.EqAt.none_bool b
  |int b=>obtain⟨t,rfl⟩:=rx;exact SeqAt.EqAt.none_int b t
  |str b=>obtain⟨t,rfl⟩:=rx;exact SeqAt.EqAt.none_str b t
  |_=>exact absurd (show false=true from fx) oAg
 | bl a=>
  cases ry
  cases x with
  |non=>cases rx;exact SeqAt.EqAt.bool_none a
  |bl b=>cases rx;exact SeqAt.EqAt.bool_bool a b
  |int b=>obtain⟨t,rfl⟩:=rx;exact SeqAt.EqAt.bool_int a b t
  |str b=>obtain⟨t,rfl⟩:=rx;exact SeqAt.EqAt.bool_str a b t
  |_=>exact absurd (show false=true from fx) oAg
 | int a=>
  obtain⟨t',rfl⟩:=ry;cases x with
  |non=>cases rx;exact SeqAt.EqAt.int_none a t'
  |bl b=>cases rx;exact SeqAt.EqAt.int_bool a t' b
  |int b=>obtain⟨t,rfl⟩:=rx;exact SeqAt.EqAt.int_int a t' b t
  |str b=>obtain⟨t,rfl⟩:=rx;exact SeqAt.EqAt.int_str a t' b t
  |_=>exact absurd (show false=true from fx) oAg
 | str a=>
  obtain⟨t',rfl⟩:=ry;cases x with
  |non=>cases rx;exact SeqAt.EqAt.str_none a t'
  |bl b=>cases rx;exact SeqAt.EqAt.str_bool a t' b
  |int b=>obtain⟨t,rfl⟩:=rx;exact SeqAt.EqAt.str_int a t' b t
  |str b=>obtain⟨t,rfl⟩:=rx;exact SeqAt.EqAt.str_str a t' b t
  |_=>exact absurd (show false=true from fx) oAg
 |_=>exact absurd (show false=true from fy) oAg
noncomputable def eqU(x:V)(u:Value):Bool:=match u with
 |.none=>eqV .non x
 |.bool b=>eqV (.bl b) x
 |.int i _=>eqV (.int i) x
 |.str z _=>eqV (.str z) x
 |_=>false
theorem Zbk(r:RelV y u)(f:YH y=true):eqU x u=eqV y x:=by
 cases y with
 |non=>cases r;rfl
 |bl b=>cases r;rfl
 |int i=>obtain⟨t,rfl⟩:=r;rfl
 |str z=>obtain⟨t,rfl⟩:=r;rfl
 |_=>exact absurd (show false=true from f) oAg
theorem JS{x:V}:∀ {xs:List V}{us:List Value},Vals xs us->xs.all YH=true->us.any (eqU x)=xs.any fun y=>eqV y x
 |_,_,.nil,_=>rfl
 | y::xs,u::us,.cons r t,f=>by
  rw[all_cons,and_eq_true] at f;rw[any_cons,any_cons,Zbk r f.1,JS t f.2]
theorem Jk{A:Around}{s:Shared}{x:V}{v:Value}(rx:RelV x v)(fx:YH x=true):∀ {xs:List V}{us:List Value},Vals xs us->xs.all YH=true->∀ u∈us,SeqAt.EqAt A s u v (eqU x u)
 |_,_,.nil,_=>fun u hu=>by cases hu
 | y::xs,u::us,.cons r t,f=>fun u' hu=>by
  rw[all_cons,and_eq_true] at f
  rcases List.mem_cons.1 hu with rfl | hu
  ·rw[Zbk r f.1];exact Zfy r rx f.1 fx
  ·exact Jk rx fx t f.2 u' hu
noncomputable def inV(x:V)(xs:List V):Bool:=xs.any fun y=>eqV y x
noncomputable def rIn(K:Frag)(neg:Bool):R2:=fun x y H Q=>∃ p xs,y=.ref p/\(SqL K H p xs\/SqT K H p xs)/\YH x=true/\xs.all YH=true/\Q (.bl (if neg then !inV x xs else inV x xs)) H
theorem Zbl:OpR X (compareOp .In) (rIn X.K false):=by
 intro pins s σ H x y v u Q I rx ry h;obtain⟨p,xs,rfl,hq,fx,fs,q⟩:=h;cases ry
 rcases hq with hq | hq
 ·obtain⟨its,r,pl,hz⟩:=I.list hq;refine SeqAt.in_listAt (eqU x) pl.isList (fun w hw=>Jk rx fx r fs w (by simpa using hw)) ⟨.bl _,H,I,rfl,?_⟩;rw[show its.toArray.any (eqU x)=its.any (eqU x) by simp,JS r fs];exact q
 ·obtain⟨its,r,pl,hz⟩:=I.tuple hq;refine SeqAt.in_tupleAt (eqU x) pl (fun w hw=>Jk rx fx r fs w (by simpa using hw)) ⟨.bl _,H,I,rfl,?_⟩;rw[show its.toArray.any (eqU x)=its.any (eqU x) by simp,JS r fs];exact q
theorem qq:OpR X (compareOp .NotIn) (rIn X.K true):=by
 intro pins s σ H x y v u Q I rx ry h;obtain⟨p,xs,rfl,hq,fx,fs,q⟩:=h;cases ry
 rcases hq with hq | hq
 ·obtain⟨its,r,pl,hz⟩:=I.list hq;refine SeqAt.notIn_listAt (eqU x) pl.isList (fun w hw=>Jk rx fx r fs w (by simpa using hw)) ⟨.bl _,H,I,rfl,?_⟩;rw[show its.toArray.any (eqU x)=its.any (eqU x) by simp,JS r fs];exact q
 ·obtain⟨its,r,pl,hz⟩:=I.tuple hq;refine SeqAt.notIn_tupleAt (eqU x) pl (fun w hw=>Jk rx fx r fs w (by simpa using hw)) ⟨.bl _,H,I,rfl,?_⟩;rw[show its.toArray.any (eqU x)=its.any (eqU x) by simp,JS r fs];exact q
theorem qr:YB X (.builtin "len") (fun xs H Q=>∃ p ys,xs=[.ref p]/\(SqL X.K H p ys\/SqT X.K H p ys)/\Q (.int ys.length) H):=by
 intro pins s σ H xs us Q I r h;obtain⟨p,ys,rfl,hq,q⟩:=h;obtain⟨u,rfl,rx⟩:=vals1 r;cases rx
 have hn:=line63
 rcases hq with hq | hq
 ·obtain⟨its,r',pl,hz⟩:=I.list hq;have hlen:=r'.length;exact Calls.call_len_list pl.isList (by simp only[size_toArray]<;>lia) ⟨.int ys.length,H,I.tok _,⟨s.toks+1,by rw[size_toArray,hlen]⟩,q⟩
 ·obtain⟨its,r',pl,hz⟩:=I.tuple hq;have hlen:=r'.length;exact len_tuple pl (by simp only[size_toArray]<;>lia) ⟨.int ys.length,H,I.tok _,⟨s.toks+1,by rw[size_toArray,hlen]⟩,q⟩
theorem qt:YB X (.builtin "len") (fun xs H Q=>∃ z,xs=[.str z]/\z.length<=sizeLine/\Q (.int z.length) H):=by
 intro pins s σ H xs us Q I r h;obtain⟨z,rfl,hz,q⟩:=h;obtain⟨u,rfl,t,rfl⟩:=vals1 r;have hn:=line63;exact len_str (by lia) ⟨.int z.length,H,I.tok _,⟨_,rfl⟩,q⟩
theorem qu:YB X (.type "list") (fun xs H Q=>∃ p ys,xs=[.ref p]/\(SqL X.K H p ys\/SqT X.K H p ys)/\∀ l,H l=none->Q (.ref l) (upd H l (.lst ys))):=by
 intro pins s σ H xs us Q I r h;obtain⟨p,ys,rfl,hq,q⟩:=h;obtain⟨u,rfl,rx⟩:=vals1 r;cases rx
 have fin:∀ (its:List Value),Vals ys its->ys.length<=sizeLine->∀ (h':Heap) (c':Nat),(∀ b o',s.heap.get? b=some o'->h'.get? b=some o') ->
   h'.get? s.heap.objs.size=some { cls:=.type "list",dict:=none,data:=.seq its.toArray c',slots:=#[] }->EP X pins σ Q (.ref s.heap.objs.size) { s with heap:=h' }:=fun its r' hz h' c' kp e=>
  ⟨.ref s.heap.objs.size,_,I.laid (t':=s.toks) kp (oAl _) (show ZC X.prog X.w _ h' _ (.lst ys) from ⟨hz,its,c',r',e⟩),rfl,q _ (I.hok.fresh (oAl _))⟩
 rcases hq with hq | hq
 ·obtain⟨its,r',pl,hz⟩:=I.list hq;have hlen:=r'.length;obtain⟨o,ho,hc,n,hd⟩:=pl.isList;exact call_list_seq p (.inl rfl) ho hc hd (fun h' c' kp e=>fin its r' hz h' c' kp e) (by simp only[size_toArray]<;>lia)
 ·obtain⟨its,r',pl,hz⟩:=I.tuple hq;have hlen:=r'.length;obtain⟨o,ho,hc,n,hd⟩:=pl;exact call_list_seq p (.inr rfl) ho hc hd (fun h' c' kp e=>fin its r' hz h' c' kp e) (by simp only[size_toArray]<;>lia)
theorem Ux:YB X (.type "tuple") (fun xs H Q=>∃ p ys,xs=[.ref p]/\((SqL X.K H p ys/\∀ l,H l=none->Q (.ref l) (upd H l (.tup ys)))\/(SqT X.K H p ys/\Q (.ref p) H))):=by
 intro pins s σ H xs us Q I r h;obtain⟨p,ys,rfl,h⟩:=h;obtain⟨u,rfl,rx⟩:=vals1 r;cases rx
 rcases h with ⟨hq,q⟩ | ⟨hq,q⟩
 ·obtain⟨its,r',pl,hz⟩:=I.list hq;have hlen:=r'.length;refine call_tuple_list pl.isList (fun h' kp=>?_) (by simp only[size_toArray]<;>lia)
  have I1:Inv X pins σ H { s with heap:=h' }:=I.kept (t':=s.toks) kp;have I2:Inv X pins σ (upd H h'.objs.size (.tup ys)) { s with heap:=h'.push { cls:=.type "tuple",data:=.seq its.toArray } }:=
   I1.laid (t':=s.toks) (fun b o e=>oAd _ e) (oAl _) (show ZC X.prog X.w _ _ _ (.tup ys) from ⟨hz,its,r',IsTup.new _ _⟩)
  exact⟨.ref h'.objs.size,_,I2,rfl,q _ (I1.hok.fresh (oAl _))⟩
 ·obtain⟨its,r',pl,hz⟩:=I.tuple hq;exact call_tuple_same pl ⟨.ref p,H,I,rfl,q⟩
def tyV(K:Frag)(T:String)(x:V)(H:Hp):Prop:=match x with
 |.str _=>T="str"
 |.int _=>T="int"
 | .ref p=>(T="list"/\∃ xs,SqL K H p xs)\/(T="tuple"/\∃ o,K.lookup p=some o/\o.cls=.type "tuple"/\o.dict=none) \/
   (T="dict"/\((∃ kvs,H p=some (.dK kvs))\/∃ kvs,H p=some (.dT kvs)))\/(T="set"/\∃ S n,H p=some (.set S n))
 |_=>False
theorem Zbm(I:Inv X pins σ H s)(r:RelV x v)(ty:tyV X.K T x H) :
  s.TypeIs v T/\∀ a,v=.ref a->∃ ob,s.heap.get? a=some ob/\ob.dict=none:=by
 cases x with
 | str z=>
  obtain⟨t,rfl⟩:=r;cases (show T="str" from ty)
  exact⟨typeIs_str s z t,fun _ e=>nomatch e⟩
 | int i=>
  obtain⟨t,rfl⟩:=r;cases (show T="int" from ty)
  exact⟨typeIs_int s i t,fun _ e=>nomatch e⟩
 | ref p=>
  cases r
  rcases ty with ⟨rfl,xs,hq⟩ | ⟨rfl,o,hk,hc,hd⟩ | ⟨rfl,hk⟩ | ⟨rfl,S,n,hk⟩
  ·obtain⟨its,_,pl,_⟩:=I.list hq;refine⟨pl.isList.typeIs,fun a e=>?_⟩;cases e
   obtain⟨o,n,e,c,hd,_⟩:=pl;exact⟨o,e,hd⟩
  ·refine⟨⟨o,I.kIn p o hk,hc⟩,fun a e=>?_⟩;cases e
   exact⟨o,I.kIn _ o hk,hd⟩
  ·have z:∃ o,s.heap.get? p=some o/\o.ExactDict:=by
    rcases hk with ⟨kvs,hk⟩ | ⟨kvs,hk⟩
    ·obtain⟨_,_,_,_,o,_,_,e,ex,_⟩:=I.hok p _ hk;exact⟨o,e,ex⟩
    ·obtain⟨_,_,_,_,o,_,_,e,ex,_⟩:=I.hok p _ hk;exact⟨o,e,ex⟩
   obtain⟨o,e,ex⟩:=z;refine⟨⟨o,e,ex.1⟩,fun a e2=>?_⟩;cases e2
   exact⟨o,e,ex.2.1⟩
  ·obtain⟨o,_,_,_,e,ex,_⟩:=I.hok p _ hk;refine⟨⟨o,e,ex.1⟩,fun a e2=>?_⟩;cases e2
   exact⟨o,e,ex.2.1⟩
 |_=>exact False.elim ty
noncomputable def tBM0(K:Frag)(T:String)(r:V->List V->Hp->VK->Prop)(to:TE):TE:=fun σ H Q=>to σ H fun x H1=>tyV K T x H1/\r x [] H1 Q
noncomputable def tBM(K:Frag)(T:String)(r:V->List V->Hp->VK->Prop)(to:TE)(t:TA):TE:=fun σ H Q=>to σ H fun x H1=>tyV K T x H1/\t σ H1 fun xs H2=>r x xs H2 Q
variable {o e:Expr}{es:List Expr}{to:TE}{t:TA}{name:Str}{apos cpos:Pos}{T id:String}{r:V->List V->Hp->VK->Prop}
theorem Zfz(pa:PlainAttrs T)(slot:Slot T name id)(hty:typeOf (.builtin id)=pure (.type "method_descriptor"))(hm:MtR X id r)(ho:PE X o to)
  (hbase:attributeBase o name X.env (eval o X.env)=eval o X.env:=by rfl)(hline:(apos.endLine==cpos.line)=true:=by rfl):PE X (.Call (.Attribute o name apos) [] [] cpos) (tBM0 X.K T r to):=by
 intro pins s σ H Q I h;refine wpAny_Call_method0_late hbase hline (thn (ho pins s σ H _ I h) fun v s1 ⟨x,H1,I1,r1,ty,q1⟩=>?_);obtain⟨h1,h2⟩:=Zbm I1 r1 ty;exact⟨T,id,pa,slot,hty,h1,h2,Calls.callWith_builtin rfl (PySem.evalArgs_none (hm pins s1 σ H1 x [] v [] Q I1 r1 .nil q1))⟩
theorem Zc8(pa:PlainAttrs T)(slot:Slot T name id)(hty:typeOf (.builtin id)=pure (.type "method_descriptor"))(hm:MtR X id r)(ho:PE X o to)(ha:PA X (e::es) t)
    (hbase:attributeBase o name X.env (eval o X.env)=eval o X.env:=by rfl)
    (hfew:((backTo cpos (starEach (e::es) X.env)).all (fun x=>!x.1)&&(backToKw cpos (keywordEach [] X.env)).all (fun x=>x.1.isSome)
     &&decide ((e::es).length+([]:List Keyword).length+(if ([]:List Keyword).isEmpty then 0 else 1)<30))=true:=by rfl)
    (hline:(apos.endLine==cpos.line)=true:=by rfl)(hs:starEach (e::es) X.env=(false,eval e X.env)::starEach es X.env:=by rfl)(hplain:(backTo cpos (starEach es X.env)).any (·.1)=false:=by rfl) :
    PE X (.Call (.Attribute o name apos) (e::es) [] cpos) (tBM X.K T r to t):=by
  intro pins s σ H Q I h;refine wpAny_Call_method_late hbase hfew hline rfl (thn (ho pins s σ H _ I h) fun v s1 ⟨x,H1,I1,r1,ty,q1⟩=>?_);obtain⟨h1,h2⟩:=Zbm I1 r1 ty;refine⟨T,id,pa,slot,hty,h1,h2,?_⟩;have hA:=ha cpos pins s1 σ H1 _ I1 q1;rw[hs] at hA ⊢;refine Calls.callWith_builtin (by show (false||(backTo cpos (starEach es X.env)).any (·.1))=false;rw[hplain]<;>rfl) (Calls.evalArgs_plain ?_)
  exact thn hA fun us s2 ⟨vs,H2,I2,r2,q2⟩=>hm pins s2 σ H2 x vs v us Q I2 r1 r2 q2
/- xs.append(e),list.index on a module's tuple .. are MtR facts of 06m -/
end
def MtM(X:Cx)(id:String)(r:V->List V->Hp->VK->Prop):Prop:=
 ∀ (pins:zPn) (s:Shared) (σ:St) (H:Hp) (x:V) (xs:List V) (v:Value) (us:List Value) (Q:VK),Inv X pins σ H s->RelV x v->Vals xs us->r x xs H Q ->
  wpAny (model X.prog X.w) X.A (call (.builtin id) (v::us)) (EP X pins σ Q) X.xe s
theorem Vals.one:∀ {x:V}{us:List Value},Vals [x] us->∃ u,us=[u]/\RelV x u
 |_,_,.cons r .nil=>⟨_,rfl,r⟩
theorem Vals.rep(h:Vals xs us):∀ k:Nat,Vals (List.replicate k xs).flatten (List.replicate k us).flatten
 |0=>.nil
 | k+1=>by
  rw[replicate_succ,replicate_succ,flatten_cons,flatten_cons];exact Vals.append h (Vals.rep h k)
section
variable {X:Cx}{pins:zPn}{σ:St}{H:Hp}{s:Shared}{l b:Addr}{xs ys zs:List V}
theorem Inv.lset{its its':List Value}{n:Nat}{f:Array Value->Array Value}{t':Nat}(I:Inv X pins σ H s)(hH:H l=some (.lst xs))
  (e:s.heap.get? l=some { cls:=.type "list",data:=.seq its.toArray n })(hf:f its.toArray=its'.toArray)(hv:Vals ys its')(hz:ys.length<=sizeLine) :
  Inv X pins σ (upd H l (.lst ys)) { s with heap:=s.heap.update l (Obj.mapSeq f),toks:=t' }:=by
 have q:=PySem.IsL.update e f;rw[hf] at q;refine I.write (x:=l) (e:=l) (by rw[hH];exact trivial) (.inl rfl) (fun b' u hb hu=>(Heap.get?_update_other s.heap (Obj.mapSeq f) (Ne.symm hb)).trans hu) ⟨_,q⟩ ?_
 exact⟨hz,its',_,hv,q⟩
theorem Inv.lnew(I:Inv X pins σ H s)(hv:Vals ys its)(hz:ys.length<=sizeLine) :
  Inv X pins σ (upd H s.heap.objs.size (.lst ys)) { s with heap:=s.heap.push { cls:=.type "list",data:=.seq its.toArray },toks:=t' }:=
 I.laid (fun _ _ q=>oAd _ q) (oAl _) ⟨hz,its,0,hv,oAe _ rfl⟩
theorem Inv.fresh(I:Inv X pins σ H s):H s.heap.objs.size=none:=I.hok.fresh (oAl _)
theorem Inv.lstM(I:Inv X pins σ H s)(hH:H l=some (.lst xs)):xs.length<=sizeLine/\∃ (its:List Value) (n:Nat),Vals xs its/\xs.length=its.length/\s.heap.get? l=some { cls:=.type "list",data:=.seq its.toArray n }:=by
 obtain⟨z,its,n,r,e⟩:=I.hok l _ hH;exact⟨z,its,n,r,r.length,e⟩
theorem notLongL(h:n<=sizeLine):Builtin.List.listTooLong n=false:=by
 unfold Builtin.List.listTooLong;exact oAh (by omega)
end
section
variable {X:Cx}
noncomputable def ZdV:V->List V->Hp->VK->Prop:=fun x vs H Q=>∃ l xs y,x=.ref l/\vs=[y]/\H l=some (.lst xs)/\xs.length<sizeLine/\Q .non (upd H l (.lst (xs++[y])))
theorem Zbn:MtM X "list.append" ZdV:=by
 intro pins s σ H x vs v us Q I rx rv h;obtain⟨l,xs,y,rfl,rfl,hH,hz,q⟩:=h;cases rx
 obtain⟨u,rfl,ru⟩:=rv.one;obtain⟨z,its,n,r,hl,e⟩:=I.lstM hH;refine call_meets F.slot_list_append ⟨_,e,rfl⟩ F.entry_list_append (F.args_list_append_2 _ _) (PySem.list_append l its.toArray n u (by rw[size_toArray];lia)) ⟨e,?_⟩
 refine⟨.non,_,I.lset (its':=its++[u]) hH e (by simp) (r.append (.cons ru .nil)) ?_,rfl,q⟩;rw[length_append,List.length_singleton];lia
theorem len_rep{α:Type}(xs:List α)(k:Nat):(List.replicate k xs).flatten.length=k * xs.length:=by
 induction k with
 |zero=>simp
 |succ k ih=>rw[replicate_succ,flatten_cons,length_append,ih,Nat.succ_mul,Nat.add_comm]
end
end L2
namespace Att
open PySem PySem.W PySem.Calls PyProof.Rows
theorem VW:∀ (ns:List Int) (vs:List Value),WellAll P h vs (ns.map WData.int)->IntsAre vs ns:=by
 intro ns
 induction ns with
 | nil=>
  intro vs w;rw[map_nil] at w;cases w
  exact .nil
 | cons n ns ih=>
  intro vs w;rw[map_cons] at w;cases w with
  | cons a b=>
   cases a
   exact .cons _ _ (ih _ b)
theorem Zbo{l:OpenLaw}{n:Nat}(hn:l.most=some n){P:Params}{h:Heap}{args:List WData}{vals:List Value}
  (hpre:l.row.toRowW.claim.pre args=true)(hwl:WellAll P h vals args) :
  ∃ a vs ns,vals=[Value.ref a]/\args=[WData.list (ns.map WData.int)]/\h.get? a=some { cls:=.type "list",data:=.seq vs.toArray }/\IntsAre vs ns/\ns.length<=n:=by
 have hsh:WShape.hasAll [] args [.list .int]=true:=(pre_splitW hpre).1;have hc:l.pre.holds [] { args:=args }=true:=(pre_splitW hpre).2;obtain⟨d,r,rfl,h1,h2⟩:=hasAllW_cons hsh;obtain rfl:=hasAllW_nil h2;obtain⟨xs,rfl,h3⟩:=hasW_list h1;obtain⟨ns,rfl⟩:=items_int h3;have hlen:ns.length<=n:=by
  unfold OpenLaw.pre at hc;have h4:(WTm.not (.lt (.lit (.int (n:Int))) (.len (.arg 0)))).holds [] { args:=[.list (ns.map .int)] }=true:=by
   have h4:=(holds_andW hc).1;rw[hn] at h4;exact h4
  have h5:=condW_of h4 (w_not (w_lt w_lit (w_len_list (w_arg rfl))));rw[length_map] at h5;refine Nat.le_of_not_lt fun q=>?_;have q':(n:Int)<((ns.length:Nat):Int):=by omega
  first
   |(rw[oAi q'] at h5;exact absurd h5 (by decide))
   |(simp at h5;omega)
 cases hwl with
 | cons w1 w2=>
  cases w2
  cases w1 with
  |list ho hall=>exact⟨_,_,ns,rfl,rfl,ho,VW ns _ hall,hlen⟩
theorem Zbp(l:OpenLaw)(args:List WData):l.row.toRowW.claim.post args (.bool true) args=true:=
 postW_of (r:=l.row.toRowW) (X:=(true==true))
  (show WShape.has [] (.bool true) .bool=true by first | rfl | decide | simp[WShape.has,WShape.arms,WShape.armsAll])
  (show (WTm.eq .res (.lit (.bool true))).value [] { args:=args,res:=some (.bool true),after:=args }=some (.bool (true==true)) from w_eq_bool (w_res rfl) w_lit) rfl
theorem zw{l:OpenLaw}{n:Nat}{q:Program}{loose:List Str}{XP:(Str->Option Value)->Heap->Prop}{YP:World->Heap->Prop}{d:DefRec}
  (hn:l.most=some n)(hdf:d.params.defaults=[])
  (call:∀ (w:World) (s₀ s₁:Shared) (mg mb:Str->Option Value) (fa:Addr) (o:Obj) (pm cd doc:Value) (a:Addr) (vs:List Value) (ns:List Int),
   Ground q loose [] XP w s₀ mg mb s₁.heap->YP w s₁.heap ->
   s₁.heap.get? fa=some o->o.data=.func (docDef d.name d.params d.body d.scope pm cd doc)->s₁.heap.CodeRec cd d.name->mg d.name=some (.ref fa) ->
   s₁.heap.get? a=some { cls:=.type "list",data:=.seq vs.toArray }->IntsAre vs ns->ns.length<=n->s₁.gens=#[] ->
   codeAny (model l.prog w) callerA (.call (.ref fa) ⟨[.ref a],[]⟩) (fun r s'=>r=.ok (.ret (.bool true))/\OldK s₁.heap s'.heap/\s'.os=s₁.os/\AllBare s'.gens) s₁) :
  WalkO q loose XP YP l.row.toRowW d [] (fun f vs=>PySem.call f vs):=by
 intro w s₀ s₁ mg mb G Y fa o pm cd doc dV kV ho hd hcd hD hmg hg args vals as hpre hlay hrd hwl hlo;obtain rfl:dV=.none:=Dflts.none hD hdf;obtain rfl:kV=.none:=Dflts.noKw hD;obtain⟨a,vs,ns,rfl,rfl,hobj,hints,hlen⟩:=Zbo hn hpre hwl;refine enter_call (codeAny_mono (call w s₀ s₁ mg mb fa o pm cd doc a vs ns G Y ho (fd_plain hd) hcd hmg hobj hints hlen hg) fun r s' hq=>?_);obtain⟨rfl,h2,h3,h4⟩:=hq;exact⟨.inl ⟨.bool true,.bool true,[],rfl,fun _=>rfl,.bool true,Zbp l _,fun _=>⟨List.Pairwise.nil,fun _ hm=>(nomatch hm)⟩⟩,h2,h3,h4⟩
end Att
namespace L2
open PySem PySem.Spec PyProof.Rows
theorem WD:∀ {vs:List Value}{ns:List Int},IntsAre vs ns->Vals (ns.map V.int) vs
 |_,_,.nil=>.nil
 |_,_,.cons n t h=>.cons ⟨t,rfl⟩ (WD h)
def Only(H:Hp):Prop:=∀ b,H b=none\/∃ o xs,H b=some (.frz o (.lst xs))
theorem Zcq{P:Program}{w:World}{K:Frag}{mg mb:Str->Option Value}{CX:CXT}{k:Nat}{fa a:Addr}{fd:FuncData}{x:Str}{sp:Sp}{s₁:Shared}{vs:List Value}{ns:List Int}
  (KX:K.In s₁.heap)(hns:s₁.heap.Ns mainGlobals mg)(hb:s₁.heap.Ns builtinsNs mb)(hbb:∀ x:Str,x≠"__name__"->mb x=bootBuiltins x)(hlim:s₁.heap.NoLimit)(hg:s₁.gens=#[])
  (ha:s₁.heap.get? a=some { cls:=.type "list",data:=.seq vs.toArray })(hi:IntsAre vs ns)(hl:ns.length<=sizeLine)(hr:Room k callerA)
  (F:∀ base:Heap,K.In base->base.Ns mainGlobals mg->FnOk P w K mg base CX k fa fd [x] sp)(hbind:∀ (s:Shared) (u:Value),BindsTo s fd ⟨[u],[]⟩ [(x,u)])
  (hsp:∀ H:Hp,Only H->SqL K H a (ns.map V.int)->sp [.ref a] H (fun v _=>v=.bl true) fun _ _ _=>False)
  (hCX:∀ H e s',CX [] H s₁ (fun _ _ _=>False) e s'->False) :
  codeAny (model P w) callerA (.call (.ref fa) ⟨[.ref a],[]⟩) (fun r s'=>r=.ok (.ret (.bool true))/\OldK s₁.heap s'.heap/\s'.os=s₁.os/\AllBare s'.gens) s₁:=by
 have rv:=WD hi;have lenV:=hi.length;have core:∀ H:Hp,Only H->SqL K H a (ns.map V.int)->HOk P w H s₁.heap->(∀ b,H b≠none->b=a)->(H a≠none->K.lookup a=none) ->
   codeAny (model P w) callerA (.call (.ref fa) ⟨[.ref a],[]⟩) (fun r s'=>r=.ok (.ret (.bool true))/\OldK s₁.heap s'.heap/\s'.os=s₁.os/\AllBare s'.gens) s₁:=by
  intro H hO hS hok hA hK;have base_of:∀ {b:Addr}{o:Obj},s₁.heap.get? b=some o->H b=none->(hidT s₁.heap H).get? b=some o:=fun e n=>Zce e n;have noA:∀ {b:Addr}{o:Obj}{es:Array DictEntry}{ep:Nat},s₁.heap.get? b=some o->o.data=.dict es ep->H b=none:=fun {b o es ep} e d=>by
   cases q:H b with
   |none=>rfl
   | some u=>
    have e':b=a:=hA b (by rw[q];simp)
    subst e';rw[ha] at e;cases e
    have d':Data.seq vs.toArray _=Data.dict es ep:=d;cases d'
  have nsK:∀ {b:Addr}{m:Str->Option Value},s₁.heap.Ns b m->(hidT s₁.heap H).Ns b m:=fun {b m} ⟨o,es,ep,e,d,r⟩=>⟨o,es,ep,base_of e (noA e d),d,r⟩;have hKb:K.In (hidT s₁.heap H):=fun b o e=>base_of (KX b o e) (by
   cases q:H b with
   |none=>rfl
   | some u=>
    have e':b=a:=hA b (by rw[q];simp)
    subst e';rw[hK (by rw[q];simp)] at e;cases e)
  have hM:Mod K mg (hidT s₁.heap H):=⟨hKb,nsK hns,⟨mb,nsK hb,hbb⟩,let ⟨mc,h1,h2⟩:=hlim;⟨mc,nsK h1,h2⟩⟩
  have e0:Env0 P w K mg (hidT s₁.heap H) callerA [] s₁ H:=⟨rfl,hM,fun b o e=>ZdA e,le_of_eq (Za9 _ _),trivial,fun b hb=>absurd (show b∈([]:List Addr) from hb) (by simp),hok,.of_eq hg⟩;refine codeAny_mono ((F _ hKb (nsK hns)).run callerA [] s₁ H ⟨[.ref a],[]⟩ [.ref a] [.ref a] _ _ hr e0 (hbind s₁ (.ref a)) (.cons rfl .nil) (hsp H hO hS)) fun r s' h=>?_;cases r with
  |error e=>exact(hCX H e s' h).elim
  | ok fl=>
   cases fl with
   |next=>exact False.elim h
   |brk=>exact False.elim h
   |cont=>exact False.elim h
   | ret u=>
    obtain⟨v,H',os,bare,un,hok',r',q⟩:=h;have q':v=.bl true:=q;subst q';obtain rfl:u=Value.bool true:=r';refine⟨rfl,OldK.of_keep fun b o e=>?_,os,bare⟩;cases q:H b with
    |none=>exact un.keep b o e q (by intro z;exact absurd (show b∈([]:List Addr) from z) (by simp)) (by simp)
    | some u=>
     rcases hO b with z | ⟨ob,xs,z⟩
     ·rw[q] at z;cases z
     ·have z2:=un.frzs b ob _ z;obtain⟨e1,_⟩:=hok b _ z;obtain⟨e2,_⟩:=hok' b _ z2;rw[e] at e1;cases e1
      exact e2
 cases hk:K.lookup a with
 | some o=>
  have e:=KX a o hk;rw[ha] at e;cases e
  refine core (fun _=>none) (fun _=>.inl rfl) (.inr ⟨_,vs.toArray,_,hk,rfl,rfl,rfl,by rw[size_toArray,lenV];exact hl,by simpa using rv⟩) (fun b u z=>by have z':(none:Option HO)=some u:=z;cases z') (fun b z=>absurd rfl z) fun z=>absurd rfl z
 | none=>
  refine core (fun b=>if b=a then some (.frz { cls:=.type "list",data:=.seq vs.toArray } (.lst (ns.map V.int))) else none) (fun b=>?_) (.inl (.inr ⟨{ cls:=.type "list",data:=.seq vs.toArray },if_pos rfl⟩)) (fun b u z=>?_) (fun b z=>?_) fun _=>hk
  ·by_cases hb:b=a
   ·exact .inr ⟨_,_,if_pos hb⟩
   ·exact .inl (if_neg hb)
  ·by_cases hb:b=a
   ·have z':=(if_pos hb).symm.trans z;cases z'
    subst hb;exact⟨ha,by rw[length_map];exact hl,vs,_,rv,ha⟩
   ·have z':=(if_neg hb).symm.trans z;cases z'
  ·by_cases hb:b=a
   ·exact hb
   ·exact absurd (if_neg hb) z
noncomputable abbrev KOf{K:Frag}{h:Heap}(_:K.In h):Frag:=K
theorem zQ{l:PySem.W.OpenLaw}{n k:Nat}{q:Program}{loose:List Str}{XP:(Str->Option Value)->Heap->Prop}{YP:World->Heap->Prop}{d:DefRec}{K:Params->Frag}{CX:World->CXT}{sp:World->Sp}{x:Str}
  (hn:l.most=some n)(hn2:n<=sizeLine)(hdf:d.params.defaults=[])(hr:Room k callerA)
  (hY:∀ (w:World) (h:Heap),YP w h->(K w.params).In h)
  (F:∀ (w:World) (mg:Str->Option Value) (fa:Addr) (h:Heap),(K w.params).In h->h.Ns mainGlobals mg->mg d.name=some (.ref fa) ->
   ∃ fd:FuncData,(∀ (s:Shared) (u:Value),BindsTo s fd ⟨[u],[]⟩ [(x,u)]) /\
    ∀ base:Heap,(K w.params).In base->base.Ns mainGlobals mg->FnOk l.prog w (K w.params) mg base (CX w) k fa fd [x] (sp w))
  (hsp:∀ (w:World) (H:Hp) (a:Addr) (ns:List Int),ns.length<=n->Only H->SqL (K w.params) H a (ns.map V.int)->sp w [.ref a] H (fun v _=>v=.bl true) fun _ _ _=>False)
  (hCX:∀ (w:World) (H:Hp) (s:Shared) (e:Value) (s':Shared),CX w [] H s (fun _ _ _=>False) e s'->False) :
  PySem.W.WalkO q loose XP YP l.row.toRowW d [] (fun f vs=>PySem.call f vs):=by
 refine Att.zw hn hdf fun w s₀ s₁ mg mb fa o pm cd doc a vs ns G Y ho hd hcd hmg hobj hints hlen hg=>?_;have KX:=hY w _ Y;obtain⟨fd,hb,hF⟩:=F w mg fa _ KX G.T.g hmg;exact Zcq KX G.T.g G.T.b G.T.builtins G.T.nolimit hg hobj hints (oAq hlen hn2) hr hF hb (fun H hO hS=>hsp w H a ns hlen hO hS) fun H e s'=>hCX w H s₁ e s'
theorem Zcr{l:PySem.W.OpenLaw}{n k:Nat}{q:Program}{loose:List Str}{XP:(Str->Option Value)->Heap->Prop}{YP:World->Heap->Prop}{d:DefRec}{K:Params->Frag}{CX:CXT}{sp:Frag->Sp}{x:Str}
  (hn:l.most=some n)(hn2:n<=sizeLine)(hdf:d.params.defaults=[])(hr:Room k callerA)
  (hY:∀ (w:World) (h:Heap),YP w h->(K w.params).In h)
  (F:∀ (w:World) (mg:Str->Option Value) (fa:Addr) (h:Heap),(K w.params).In h->h.Ns mainGlobals mg->mg d.name=some (.ref fa) ->
   ∃ fd:FuncData,(∀ (s:Shared) (u:Value),BindsTo s fd ⟨[u],[]⟩ [(x,u)]) /\
    ∀ base:Heap,(K w.params).In base->base.Ns mainGlobals mg->FnOk l.prog w (K w.params) mg base CX k fa fd [x] (sp (K w.params)))
  (hsp:∀ (K:Frag) (H:Hp) (a:Addr) (ns:List Int),ns.length<=n->Only H->SqL K H a (ns.map V.int)->sp K [.ref a] H (fun v _=>v=.bl true) fun _ _ _=>False)
  (hCX:∀ (H:Hp) (s:Shared) (e:Value) (s':Shared),CX [] H s (fun _ _ _=>False) e s'->False) :
  PySem.W.WalkO q loose XP YP l.row.toRowW d [] (fun f vs=>PySem.call f vs):=
 zQ (K:=K) (CX:=fun _=>CX) (sp:=fun w=>sp (K w.params)) hn hn2 hdf hr hY F (fun w H a ns h1 h2 h3=>hsp (K w.params) H a ns h1 h2 h3) fun _ H s e s'=>hCX H s e s'
end L2
/- THE LAST THEOREM (shape;LID,My.* are yours):
   My.Adr: a structure of the addresses that your layer names (classes,functions);My.Txt K t: a structure (Prop) of the equations over K;
   My.txt_mk:{K}{implicit addresses ..} (e1:nsIn K mainGlobals "law"=some (some (.ref f))) (e2:K.lookup f=some ⟨oc,od,.func (fnOf "law" "law" params body scope dV kV doc pm an cdv ct),sl⟩) (e3:codeIn K cdv "law"=true) ..:∃ t,My.Txt K t
set_option maxRecDepth 100000 in
set_option maxHeartbeats 0 in
theorem PySem.Challenge.cw_LID_holds : PySem.Challenge.rw_LID.Holds := by
 w_on;o_law;k_head;(case hw=>w_witness2)
 k_fill
 refine L2.zQ (l:=PySem.Challenge.rw_LID) (n:=63) (k:=40) (x:="script") (CX:=fun w=>..) (sp:=fun _=>My.sp_law) rfl (by decide) rfl ⟨rfl,by decide,by decide⟩ (fun w h Y=>PySem.W.kIn_of Y) ?F ?S ?C
 case F=>
  intro w mg fa h KX G hmg;have T:∃ t,My.Txt (L2.KOf KX) t:=by
   dsimp only[L2.KOf]                          -- K must stand as «<heap const> w.params» for k_is;refine' My.txt_mk ?e1 ?e2 ?e3 ..
   (case e1=>PySem.W.k_is)                    -- in the order: a name -> its address -> its object -> its parts
   (case e2=>PySem.W.k_is)
   ..
  obtain⟨t,T⟩:=T;have e0:=hmg.symm.trans (PySem.W.mg_of KX G T.law);cases e0                                       -- fa is the law's own address
  exact⟨_,fun s u=>.of_eq rfl,fun base kb nb=>My.law_fn T kb nb⟩     -- if «.of_eq rfl» comes too early: refine'⟨_,?b,fun base kb nb=>My.law_fn T kb nb⟩;exact fun s u=>.of_eq rfl
 case S=>exact fun w H a ns hl hO hS=>..
 case C=>exact ..
(the tactic k_is has no namespace: write k_is) -/
namespace L2
open PySem PySem.Spec PyProof.Rows
noncomputable def Z7(s:Stmt):Arguments:=match s with
 |.FunctionDef _ a _ _ _ _ _ _ _ _=>a
 |_=>{ posonlyargs:=[],args:=[],vararg:=none,kwonlyargs:=[],kw_defaults:=[],kwarg:=none,defaults:=[] }
noncomputable def ZJ(s:Stmt):List Stmt:=match s with
 |.FunctionDef _ _ b _ _ _ _ _ _ _=>b
 |_=>[]
noncomputable def Zo(s:Stmt):Scope:=match s with
 |.FunctionDef _ _ _ _ _ _ sc _ _ _=>sc
 |_=>{ kind:=.function,names:=[],isGenerator:=false,isCoroutine:=false }
noncomputable abbrev CX0:CXT:=fun _ _ _ _ _ _=>False
noncomputable abbrev E0:XK:=fun _ _ _=>False
theorem pass0:Passes CX0 X E0:=fun _ _ _ _ _ _ _ h=>h.elim
structure Fun(K:Frag)(x qual:Str)(st:Stmt)(f:Addr)(fd:FuncData):Prop where
 ex:∃ (oc:Value) (od:Option Addr) (kV doc pm:Value) (an:Option Addr) (cdv ct:Value) (osl:Array (Option Value)),
  fd=PySem.W.fnOf x qual (Z7 st) (ZJ st) (Zo st) .none kV doc pm an cdv ct/\K.lookup f=some ⟨oc,od,.func fd,osl⟩/\PySem.W.codeIn K cdv qual=true
 kp:PySem.W.keepIn K (.ref f)=true
section
variable {P:Program}{w:World}{K:Frag}{mg:Str->Option Value}{base:Heap}
theorem Fun.ok{x qual:Str}{st:Stmt}{f:Addr}{fd:FuncData}{N ps:List Str}{k:Nat}{sp:Sp}(F:Fun K x qual st f fd)(S:Yl N ps (Zo st))(len:∀ vs H Q E,sp vs H Q E->vs.length=ps.length)
  (hbody:∀ (cdv:Value) (A:Around) (outer:List Env) (s:Shared) (H:Hp) (vs:List V) (Q:VK) (E:XK),Room k (A.deeper (envOfC qual (Zo st) s.heap.objs.size f cdv))->sp vs H Q E ->
   ∃ t,PSs (cxOf CX0 P w K mg base N qual (Zo st) f cdv A outer s H E).nox (ZJ st) t/\t { nx:=fun _ H'=>Q .non H',rt:=Q } (start N vs) H):FnOk P w K mg base CX0 (k+1) f fd ps sp:=by
 obtain⟨oc,od,kV,doc,pm,an,cdv,ct,osl,rfl,lk,hcd⟩:=F.ex;refine ZhX lk hcd S len fun A outer s H vs Q E hr hsp=>?_;obtain⟨t,h,q⟩:=hbody cdv A outer s H vs Q E hr hsp;exact⟨t,h.nox,q⟩
theorem Fun.binds{x qual:Str}{st:Stmt}{f:Addr}{fd:FuncData}{ps:List Str}(F:Fun K x qual st f fd)
  (h:∀ (kV doc pm:Value) (an:Option Addr) (cdv ct:Value) (us:List Value),us.length=ps.length->bindArgs (PySem.W.fnOf x qual (Z7 st) (ZJ st) (Zo st) .none kV doc pm an cdv ct) ⟨us,[]⟩=pure (ps.zip us)):Binds K fd ps []:=by
 obtain⟨oc,od,kV,doc,pm,an,cdv,ct,osl,rfl,lk,hcd⟩:=F.ex;exact .all (h kV doc pm an cdv ct)
theorem Zbq{x qual:Str}{st:Stmt}{f:Addr}{oc:Value}{od an:Option Addr}{osl:Array (Option Value)}{kV doc pm cdv ct:Value}(l:K.lookup f=some ⟨oc,od,.func (PySem.W.fnOf x qual (Z7 st) (ZJ st) (Zo st) .none kV doc pm an cdv ct),osl⟩)
  (c:PySem.W.codeIn K cdv qual=true)(k:PySem.W.keepIn K (.ref f)=true):Fun K x qual st f (PySem.W.fnOf x qual (Z7 st) (ZJ st) (Zo st) .none kV doc pm an cdv ct):=⟨⟨oc,od,kV,doc,pm,an,cdv,ct,osl,rfl,l,c⟩,k⟩
end
section
variable {κ:Type} [DecidableEq κ]
noncomputable def valV(kvs:List (κ×V))(k:κ):Option V:=(kvs.find? fun kv=>decide (kv.1=k)).map (·.2)
noncomputable def putK(kvs:List (κ×V))(k:κ)(v:V):List (κ×V):=
 if (kvs.any fun kv=>decide (kv.1=k))=true then kvs.map (fun kv=>if kv.1=k then (kv.1,v) else kv) else kvs++[(k,v)]
theorem Jl{p:κ×V}{r:List (κ×V)}{k:κ}(e:p.1=k):valV (p::r) k=some p.2:=by simp[valV,find?_cons,e]
theorem Jm{p:κ×V}{r:List (κ×V)}{k:κ}(e:¬ p.1=k):valV (p::r) k=valV r k:=by simp[valV,find?_cons,e]
theorem qv(k:κ):∀ kvs:List (κ×V),(kvs.any fun kv=>decide (kv.1=k))=(valV kvs k).isSome
 |[]=>rfl
 | p::r=>by
  rw[any_cons];by_cases e:p.1=k
  ·simp only[Jl e,decide_eq_true e,Bool.true_or,Option.isSome_some]
  ·rw[Jm e,oAh e,Bool.false_or];exact qv k r
theorem JP(kvs:List (κ×V))(k:κ)(v:V):(putK kvs k v).length<=kvs.length+1:=by
 unfold putK;split
 ·rw[length_map];lia
 ·rw[length_append,length_cons,length_nil];lia
theorem RelO.isSome_eq(r:RelO o u):o.isSome=u.isSome:=by
 cases o with
 | none=>cases u with
  |none=>rfl
  |some _=>exact(show False from r).elim
 | some _=>cases u with
  |none=>exact(show False from r).elim
  |some _=>rfl
theorem RelO.getD(r:RelO o u)(rd:RelV d d'):RelV (o.getD d) (u.getD d'):=by
 cases o with
 | none=>cases u with
  |none=>exact rd
  |some _=>exact(show False from r).elim
 | some _=>cases u with
  |none=>exact(show False from r).elim
  |some _=>exact r
theorem KV.val{kvs:List (κ×V)}{vs:List (κ×Value)}(r:KV kvs vs)(k:κ):RelO (valV kvs k) (valueAt vs k):=by
 unfold KV at r
 induction r with
 |nil=>exact True.intro
 | @cons p q ps qs h t ih=>
  obtain⟨h1,h2⟩:=h;by_cases e:p.1=k
  ·have e':q.1=k:=h1.symm.trans e;have b:valueAt (q::qs) k=some q.2:=by simp[valueAt,find?_cons,e']
   rw[Jl e,b];exact h2
  ·have e':¬ q.1=k:=fun z=>e (h1.trans z);have b:valueAt (q::qs) k=valueAt qs k:=by simp[valueAt,find?_cons,e']
   rw[Jm e,b];exact ih
theorem KV.any(r:KV kvs vs)(k:κ):(kvs.any fun kv=>decide (kv.1=k))=vs.any fun kv=>decide (kv.1=k):=by
 unfold KV at r
 induction r with
 |nil=>rfl
 |cons h t ih=>rw[any_cons,any_cons,ih,h.1]
theorem KV.repl(r:KV kvs vs)(k:κ)(ry:RelV y u) :
  KV (kvs.map fun kv=>if kv.1=k then (kv.1,y) else kv) (vs.map fun kv=>if kv.1=k then (kv.1,u) else kv):=by
 unfold KV at r ⊢
 induction r with
 |nil=>exact .nil
 | @cons p q ps qs h t ih=>
  rw[map_cons,map_cons];refine .cons ?_ ih;obtain⟨h1,h2⟩:=h;by_cases e:p.1=k
  ·rw[if_pos e,if_pos (h1.symm.trans e)];exact⟨h1,ry⟩
  ·rw[if_neg e,if_neg (fun z=>e (h1.trans z))];exact⟨h1,h2⟩
theorem KV.put(r:KV kvs vs)(k:κ)(ry:RelV y u):KV (putK kvs k y) (stored vs k u):=by
 unfold putK stored;rw[r.any k];by_cases e:(vs.any fun kv=>decide (kv.1=k))=true
 ·rw[if_pos e,if_pos e];exact r.repl k ry
 ·rw[if_neg e,if_neg e];exact Paired.snoc r ⟨rfl,ry⟩
theorem KV.length(r:KV kvs vs):kvs.length=vs.length:=Paired.length r
end
theorem W7(r:RelV (kV k) u):(ZH P w).is k u=true:=by
 cases k with
 |inl i=>obtain⟨t,e⟩:=(show ∃ t,u=Value.int i t from r);subst e;exact zr P w i t
 |inr x=>obtain⟨t,e⟩:=(show ∃ t,u=Value.str x t from r);subst e;exact zu P w x t
 |non=>have e:u=Value.none:=r;subst e;exact zv P w
theorem WE{P:Program}{w:World}:∀ {ks:List Key}{us:List Value},Vals (ks.map kV) us->ItemsAre (ZH P w) ks us
 |[],_,r=>by rw[map_nil] at r;cases r;exact .nil
 | k::ks,_,r=>by
  rw[map_cons] at r;cases r with
  |cons h t=>exact .cons (W7 h) (WE t)
abbrev KT(H:Hp):List (List Key×V)->List (List Key×Addr×Value)->Prop:=Paired fun p q=>p.1=q.1/\H q.2.1=some (.tup (p.1.map kV))/\RelV p.2 q.2.2
theorem KT.val{H:Hp}{kvs:List (List Key×V)}{xs:List (List Key×Addr×Value)}(r:KT H kvs xs)(k:List Key):RelO (valV kvs k) ((atKey xs k).map (·.2)):=by
 induction r with
 |nil=>exact True.intro
 | @cons p q ps qs h t ih=>
  obtain⟨h1,_,h2⟩:=h;by_cases e:p.1=k
  ·have e':q.1=k:=h1.symm.trans e;have b:atKey (q::qs) k=some q.2:=by simp[atKey,find?_cons,e']
   rw[Jl e,b];exact h2
  ·have e':¬ q.1=k:=fun z=>e (h1.trans z);have b:atKey (q::qs) k=atKey qs k:=by simp[atKey,find?_cons,e']
   rw[Jm e,b];exact ih
theorem KT.repl(r:KT H kvs xs)(k:List Key)(ry:RelV y u) :
  KT H (kvs.map fun kv=>if kv.1=k then (kv.1,y) else kv) (xs.map (putAt k u)):=by
 induction r with
 |nil=>exact .nil
 | @cons p q ps qs h t ih=>
  rw[map_cons,map_cons];refine .cons ?_ ih;obtain⟨h1,h2,h3⟩:=h;unfold putAt;by_cases e:p.1=k
  ·rw[if_pos e,if_pos (h1.symm.trans e)];exact⟨h1,h2,ry⟩
  ·rw[if_neg e,if_neg (fun z=>e (h1.trans z))];exact⟨h1,h2,h3⟩
theorem KT.put(r:KT H kvs xs)(k:List Key)(hb:H b=some (.tup (k.map kV)))(ry:RelV y u) :
  KT H (putK kvs k y) (storedH xs k b u):=by
 have e:(kvs.any fun kv=>decide (kv.1=k))=(atKey xs k).isSome:=by
  rw[qv,(r.val k).isSome_eq,Option.isSome_map]
 unfold putK storedH;rw[e];by_cases q:(atKey xs k).isSome=true
 ·rw[if_pos q,if_pos q];exact r.repl k ry
 ·rw[if_neg q,if_neg q];exact Paired.snoc r ⟨rfl,hb,ry⟩
theorem KT.keeps(r:KT H kvs xs)(ht:∀ b ys,H b=some (.tup ys)->H' b=some (.tup ys)):KT H' kvs xs:=
 Paired.mapP r fun _ _ z=>⟨z.1,ht _ _ z.2.1,z.2.2⟩
section
variable {P:Program}{w:World}{H:Hp}{h:Heap}{a:Addr}
theorem Zc9(ok:HOk P w H h)(e:Rd H a u):ZC P w H h a u:=e.ok ok
theorem VX(ok:HOk P w H h)(e:Rd H a (.dK kvs)):kvs.length<=sizeLine/\(a==sysModules)=false/\∃ vs,KV kvs vs/\h.DictOf (ZH P w) a vs:=
 show ZC P w H h a (.dK kvs) from Zc9 ok e
theorem Zh0(ok:HOk P w H h)(e:H a=some (.dK kvs)):kvs.length<=sizeLine/\(a==sysModules)=false/\∃ vs,KV kvs vs/\h.DictOf (ZH P w) a vs:=VX ok (.inl e)
theorem Jn{ks:List Key}(ok:HOk P w H h)(e:H a=some (.tup (ks.map kV))):(tupleKind (ZH P w)).is h ks a:=by
 obtain⟨_,its,r,o,h1,h2,n,h3⟩:=(show ZC P w H h a (.tup (ks.map kV)) from ok a _ e);exact⟨o,its.toArray,n,h1,h2,h3,by simpa using WE r⟩
theorem VY(ok:HOk P w H h)(e:Rd H a (.dT kvs)):kvs.length<=sizeLine/\(a==sysModules)=false /\
  ∃ xs,KT H kvs xs/\h.DictOfH (tupleKind (ZH P w)) a xs:=by
 obtain⟨z,y,xs,r,o,es,ep,h1,h2,h3,h4,h5⟩:=(show ZC P w H h a (.dT kvs) from Zc9 ok e);refine⟨z,y,xs,r,o,es,ep,h1,h2,h3,h4,fun x hx=>?_,h5⟩;have all:∀ {l:List (List Key×V)}{m:List (List Key×Addr×Value)},KT H l m->∀ x∈m,(tupleKind (ZH P w)).is h x.1 x.2.1:=by
  intro l m q
  induction q with
  |nil=>intro x hx;exact nomatch hx
  | @cons p q ps qs hq t ih=>
   intro x hx
   rcases List.mem_cons.1 hx with e | hx
   ·subst e;exact Jn ok (by rw[<- hq.1];exact hq.2.1)
   ·exact ih x hx
 exact all r x hx
theorem Zda(ok:HOk P w H h)(e:H a=some (.dT kvs)):kvs.length<=sizeLine/\(a==sysModules)=false /\
  ∃ xs,KT H kvs xs/\h.DictOfH (tupleKind (ZH P w)) a xs:=VY ok (.inl e)
end
def DGet(H:Hp)(a:Addr)(y:V)(r:Option V):Prop:=
 (∃ kvs k,Rd H a (.dK kvs)/\y=kV k/\r=valV kvs k)\/∃ kvs k b,Rd H a (.dT kvs)/\y=.ref b/\H b=some (.tup (k.map kV))/\r=valV kvs k
def DPut(H:Hp)(a:Addr)(y v:V)(H':Hp):Prop:=
 (∃ kvs k,H a=some (.dK kvs)/\y=kV k/\kvs.length<sizeLine/\H'=upd H a (.dK (putK kvs k v))) \/
 ∃ kvs k b,H a=some (.dT kvs)/\y=.ref b/\H b=some (.tup (k.map kV))/\kvs.length<sizeLine/\H'=upd H a (.dT (putK kvs k v))
theorem DGet.t{H:Hp}{a b:Addr}{kvs:List (List Key×V)}{k:List Key}(e:H a=some (.dT kvs))(eb:H b=some (.tup (k.map kV))):DGet H a (.ref b) (valV kvs k):=.inr ⟨kvs,k,b,.inl e,rfl,eb,rfl⟩
theorem DPut.t{H:Hp}{a b:Addr}{kvs:List (List Key×V)}{k:List Key}{v:V}(e:H a=some (.dT kvs))(eb:H b=some (.tup (k.map kV)))(hl:kvs.length<sizeLine) :
  DPut H a (.ref b) v (upd H a (.dT (putK kvs k v))):=.inr ⟨kvs,k,b,e,rfl,eb,hl,rfl⟩
section
variable {X:Cx}{pins:zPn}{σ:St}{H:Hp}{s:Shared}{a:Addr}{y v:V}{u r:Value}{o:Option V}{A:Around}{E:zVP}
theorem Inv.big(I:Inv X pins σ H s):sysModules<s.heap.objs.size:=by
 have h:mainGlobals<s.heap.objs.size:=(I.mod.glob.keeps I.bk).lt;exact Nat.lt_trans (by decide) h
theorem Zbr{Q:zVP}(hu:A.units+1<cLine)(I:Inv X pins σ H s)(g:DGet H a y (some v))(ry:RelV y u)(h:∀ w' s',Inv X pins σ H s'->RelV v w'->Q w' s') :
  wpAny (model X.prog X.w) A (getItem (.ref a) u) Q E s:=by
 rcases g with ⟨kvs,k,e,ey,l⟩ | ⟨kvs,k,b,e,ey,eb,l⟩
 ·subst ey;obtain⟨z,hd,vs,rel,dd⟩:=VX I.hok e;obtain⟨w',hw,rw'⟩:=RelO.some_of (v:=v) (o:=valueAt vs k) (by rw[l];exact rel.val k)
  exact wpAny_getItem_of (W7 ry) dd.mapOf hw (h w' _ (I.tok _) rw')
 ·subst ey;cases (show u=Value.ref b from ry)
  obtain⟨z,hd,xs,rel,dd⟩:=VY I.hok e;obtain⟨w',hw,rw'⟩:=RelO.some_of (v:=v) (o:=(atKey xs k).map (·.2)) (by rw[l];exact rel.val k)
  obtain⟨p,hp,hp2⟩:=zoM hw;refine wpAny_getItem_heap (tupleKind_room_in1 hu) (Jn I.hok eb) dd hp ?_;rw[hp2];exact h w' _ (I.tok _) rw'
theorem Wj(I:Inv X pins σ H s)(mu:Mut (H a))(hs:SameBut a s.heap h')(he:∃ q,h'.get? a=some q)(new:ZC X.prog X.w (upd H a ob) h' a ob) :
  Inv X pins σ (upd H a ob) { s with heap:=h',toks:=t' }:=
 I.write (x:=a) (e:=a) mu (.inl rfl) (fun b q hb z=>(hs.2 b hb).trans z) he new
theorem ZfA(z:kvs.length<=sizeLine)(hd:(a==sysModules)=false)(rel:KV kvs vs)(dd:h'.DictOf (ZH P w) a vs) :
  ZC P w H' h' a (.dK kvs):=⟨z,hd,vs,rel,dd⟩
theorem Zbs{Q:Unit->Shared->Prop}(hu:A.units+1<cLine)(I:Inv X pins σ H s)(g:DPut H a y v H')(ry:RelV y u)(rv:RelV v r)(h:∀ s',Inv X pins σ H' s'->Q () s') :
  wpAny (model X.prog X.w) A (setItem (.ref a) u r) Q E s:=by
 rcases g with ⟨kvs,k,e,ey,l,eH⟩ | ⟨kvs,k,b,e,ey,eb,l,eH⟩
 ·subst ey eH;obtain⟨z,hd,vs,rel,dd⟩:=Zh0 I.hok e;have hz:vs.length<=sizeLine:=by rw[<- rel.length];exact z
  have hl:(putK kvs k v).length<=sizeLine:=by have:=JP kvs k v;lia
  refine wpAny_setItem_pairs (hsz:=hz) (W7 ry) dd fun h' dd' hs=>h _ ?_;have he:∃ q,h'.get? a=some q:=let ⟨q,_,_,hq,_⟩:=dd';⟨q,hq⟩
  exact Wj I (by rw[e];exact True.intro) hs he (ZfA hl hd (rel.put k rv) dd')
 ·subst ey eH;cases (show u=Value.ref b from ry)
  obtain⟨z,hd,xs,rel,dd⟩:=Zda I.hok e;have hz:xs.length<=sizeLine:=by rw[<- Paired.length rel];exact z
  have hl:(putK kvs k v).length<=sizeLine:=by have:=JP kvs k v;lia
  refine wpAny_setItem_heap (hsz:=hz) (tupleKind_room_in1 hu) (Jn I.hok eb) dd fun h' dd' hs=>h _ ?_;obtain⟨q,es,ep,hq,h2,h3,h4,_,h5⟩:=dd';refine Wj I (by rw[e];exact True.intro) hs ⟨q,hq⟩ ⟨hl,hd,_,(rel.put k eb rv).keeps fun c ys ec=>?_,q,es,ep,hq,h2,h3,h4,h5⟩
  rw[Zi (JE ec e (fun z=>nomatch z))];exact ec
end
def NoSl(i:Expr):Prop:=∀ ov iv,subscripted i false ov iv=operate [ov,iv] (getItem ov iv)
theorem ZdW{prog:Program}{w:World}{A:Around}{E:zVP}{s:Shared}{env:Env}{value slice:Expr}{pos:Pos}{T id:String}{Q:zVP}
  (hl:typeLookup (.type T) "__getitem__"=pure (some (.builtin id)))(hs:NoSl slice)
  (h:wpAny (model prog w) A (eval value env) (fun o s₁=>wpAny (model prog w) A (eval slice env) (fun i s₂=>s₂.TypeIs o T/\wpAny (model prog w) A (getItem o i) Q E s₂) E s₁) E s) :
  wpAny (model prog w) A (eval (.Subscript value slice pos) env) Q E s:=by
 refine Subscript_ (oAc h (fun o s₁ h₁=>oAc h₁ (fun i s₂ h₂=>?_) fun _ _ x=>x) fun _ _ x=>x);obtain⟨hT,h₂⟩:=h₂;unfold subscriptTail;refine oAa ?_;rw[getitemInPython_of_ne hT.not_modules];refine oAa (wpAny_specialOf hT hl ?_);have fin:wpAny (model prog w) A (subscripted slice false o i) (fun r s₃=>wpAny (model prog w) A (letTemporaryGo value o r>>=fun _=>pure r) Q E s₃) E s₂:=by
  rw[hs o i];exact wpAny_operating (oAc h₂ (fun r s₃ h₃=>oAa (wpAny_letTemporaryGo (oAb h₃))) fun _ _ x=>x)
 first
  |exact oAb (oAa fin)
  |exact oAa (oAb (oAa fin))
  |exact oAa fin
theorem zx(I:Inv X pins σ H s)(g:DGet H a y o):s.TypeIs (.ref a) "dict":=by
 rcases g with ⟨kvs,k,e,_,_⟩ | ⟨kvs,k,b,e,_,_,_⟩
 ·obtain⟨_,_,vs,_,dd⟩:=VX I.hok e;exact dd.typeIs
 ·obtain⟨_,_,xs,_,dd⟩:=VY I.hok e;exact dd.typeIs
noncomputable def Zh1(td ty:TE):TE:=fun σ H Q=>td σ H fun x H1=>ty σ H1 fun y H2=>∃ a v,x=.ref a/\DGet H2 a y (some v)/\Q v H2
section
variable {X:Cx}{o i e value:Expr}{pos pos' tpos:Pos}{td ty tv:TE}
theorem ZdX(hu:X.A.units+1<cLine)(ho:PE X o td)(hi:PE X i ty)(hs:NoSl i):PE X (.Subscript o i pos) (Zh1 td ty):=by
 intro pins s σ H Q I h;refine ZdW PySem.F.slot_dict_getitem.lookup hs (thn (ho pins s σ H _ I h) fun u s1 ⟨x,H1,I1,rx,q1⟩=>thn (hi pins s1 σ H1 _ I1 q1) fun iv s2 ⟨y,H2,I2,ry,a,v,ex,g,q2⟩=>?_);subst ex;obtain rfl:u=Value.ref a:=rx;exact⟨zx I2 g,Zbr hu I2 g ry fun w' s3 I3 rw'=>⟨v,H2,I3,rw',q2⟩⟩
end
theorem qw(h:Heap)(hb:sysModules<h.objs.size):ZC P w H (h.push { cls:=.type "dict",data:=.dict #[] }) h.objs.size (.dT []):=
 ⟨zero_le _,beq_eq_false_iff_ne.2 (Ne.symm (oAp hb)),[],.nil,_,#[],0,oAe _ rfl,⟨rfl,rfl,rfl⟩,rfl,rfl,nodup_nil⟩
noncomputable def ZfB:TE:=fun _ H Q=>∀ p,H p=none->Q (.ref p) (upd H p (.dT []))
section
variable {X:Cx}{pos:Pos}
theorem Zcs:PE X (.Dict [] [] pos) ZfB:=fun pins s σ H Q I h=>
 wpAny_Dict_empty ⟨.ref s.heap.objs.size,_,I.laid (a:=s.heap.objs.size) (o:=.dT []) (t':=s.toks) (fun _ _ q=>oAd _ q) (oAl _) (qw s.heap I.big),rfl,h _ (I.hok.fresh (oAl _))⟩
end
structure M2(X:Cx)(o:Expr)(m:Str)(apos:Pos)(e f:Expr)(cpos:Pos):Prop where
  base:attributeBase o m X.env (eval o X.env)=eval o X.env
  few:((backTo cpos (starEach [e,f] X.env)).all (fun x=>!x.1)&&(backToKw cpos (keywordEach [] X.env)).all (fun x=>x.1.isSome)
   &&decide (([e,f]:List Expr).length+([]:List Keyword).length+(if ([]:List Keyword).isEmpty then 0 else 1)<30))=true
  line:(apos.endLine==cpos.line)=true
  trees:backTo cpos (starEach [e,f] X.env)=[(false,eval e X.env),(false,eval f X.env)]
def IsD(H:Hp)(a:Addr):Prop:=(∃ kvs,Rd H a (.dK kvs))\/∃ kvs,Rd H a (.dT kvs)
theorem ZfC(I:Inv X pins σ H s)(d:IsD H a) :
  s.TypeIs (.ref a) "dict"/\(∀ b,Value.ref a=.ref b->∃ ob,s.heap.get? b=some ob/\ob.dict=none)/\(a==sysModules)=false:=by
 rcases d with ⟨kvs,e⟩ | ⟨kvs,e⟩
 ·obtain⟨_,hd,vs,_,dd⟩:=VX I.hok e;refine⟨dd.typeIs,fun b q=>?_,hd⟩;cases q
  obtain⟨ob,_,_,h1,h2,_⟩:=dd;exact⟨ob,h1,h2.2.1⟩
 ·obtain⟨_,hd,xs,_,dd⟩:=VY I.hok e;refine⟨dd.typeIs,fun b q=>?_,hd⟩;cases q
  obtain⟨ob,_,_,h1,h2,_⟩:=dd;exact⟨ob,h1,h2.2.1⟩
section
variable {X:Cx}{pins:zPn}{σ:St}{H:Hp}{s:Shared}{a:Addr}{y d:V}{u r:Value}{o:Option V}{A:Around}{E:zVP}
theorem ZfD{Q:zVP}(hu:A.units+1<cLine)(I:Inv X pins σ H s)(g:DGet H a y o)(ry:RelV y u)(rd:RelV d r)(h:∀ w' s',Inv X pins σ H s'->RelV (o.getD d) w'->Q w' s') :
  wpAny (model X.prog X.w) A (call (.builtin "dict.get") [.ref a,u,r]) Q E s:=by
 rcases g with ⟨kvs,k,e,ey,l⟩ | ⟨kvs,k,b,e,ey,eb,l⟩
 ·subst ey;obtain⟨z,hd,vs,rel,dd⟩:=VX I.hok e;refine call_meetsIn PySem.F.slot_dict_get dd.typeIs PySem.F.entry_dict_get (PySem.F.args_dict_get_3 _ _ _) (meets_dict_get_default (ZH X.prog X.w) a (W7 ry) hd r) ⟨_,dd.mapOf,h _ _ (I.tok _) ?_⟩;rw[l];exact(rel.val k).getD rd
 ·subst ey;cases (show u=Value.ref b from ry)
  obtain⟨z,hd,xs,rel,dd⟩:=VY I.hok e;refine call_meetsIn PySem.F.slot_dict_get dd.typeIs PySem.F.entry_dict_get (PySem.F.args_dict_get_3 _ _ _) (meetsH_dict_get_default (tupleKind (ZH X.prog X.w)) a b hd r) ⟨tupleKind_room_in1 hu,k,xs,Jn I.hok eb,dd,h _ _ (I.tok _) ?_⟩;rw[l];exact(rel.val k).getD rd
end
noncomputable def ZfE(td ty tx:TE):TE:=fun σ H Q=>td σ H fun x H1=>∃ a,x=.ref a/\IsD H1 a/\ty σ H1 fun y H2=>tx σ H2 fun z H3=>∃ o,DGet H3 a y o/\Q (o.getD z) H3
section
variable {X:Cx}{o e f:Expr}{apos cpos:Pos}{td ty tx:TE}
theorem Zct(hu:X.A.units+1<cLine)(ho:PE X o td)(he:PE X e ty)(hf:PE X f tx)(m:M2 X o "get" apos e f cpos):PE X (.Call (.Attribute o "get" apos) [e,f] [] cpos) (ZfE td ty tx):=by
 intro pins s σ H Q I h;refine wpAny_Call_method m.base m.few m.line PySem.F.plainAttrs_dict PySem.F.slot_dict_get PySem.F.type_dict_get (thn (ho pins s σ H _ I h) fun u s1 ⟨x,H1,I1,rx,a,ex,d,q1⟩=>?_);subst ex;obtain rfl:u=Value.ref a:=rx;obtain⟨t1,t2,_⟩:=ZfC I1 d;refine⟨t1,t2,?_⟩;rw[m.trees];refine Calls.callWith_builtin rfl (Calls.evalArgs_plain (Calls.spliced_cons (thn (he pins s1 σ H1 _ I1 q1) fun iv s2 ⟨y,H2,I2,ry,q2⟩=>
  Calls.spliced_cons (thn (hf pins s2 σ H2 _ I2 q2) fun fv s3 ⟨z,H3,I3,rz,ov,g,q3⟩=>Calls.spliced_nil ?_))))
 exact ZfD hu I3 g ry rz fun w' s4 I4 rw'=>⟨_,H3,I4,rw',q3⟩
end
end L2
set_option maxHeartbeats 40000000
set_option autoImplicit true
namespace PF
open PySem PySem.Spec PyProof.Rows L2
end PF
namespace TS
open PySem PyProof.Rows
structure Cmp(prog:Program)(w:World)(A:Around)(E:zVP)(s:Shared)(κ:SortKind)(dom:Keyed->Prop)(r:Keyed->Nat):Prop where
 lt:∀ {x y:Keyed}{Q:Option Bool->SortSt->Prop}{st:SortSt},dom x->dom y->kindOf st=κ->Q (some (decide (r x<r y))) st->wpS (model prog w) A E s (lt' x y) Q st
variable {prog:Program}{w:World}{A:Around}{E:zVP}{s:Shared}{κ:SortKind}{dom:Keyed->Prop}{r:Keyed->Nat}
noncomputable def rk(r:Keyed->Nat)(a:Array Keyed)(i:Nat):Nat:=match a[i]? with
 |some x=>r x
 |none=>0
theorem Zh2(h:a[i]?=some x):rk r a i=r x:=by unfold rk;rw[h]
theorem zR{arr:Array Keyed}{i:Nat}{Q:Keyed->SortSt->Prop}{st:SortSt}{x:Keyed}(h:arr[i]?=some x)(k:Q x st):wpS (model prog w) A E s (elem' arr i) Q st:=by
 rw[elem'_eq,h];exact oAw k
end TS
namespace TS
open PySem PyProof.Rows
variable {r:Keyed->Nat}
def Le(r:Keyed->Nat)(x y:Keyed):Prop:=r x<=r y
def Srt(r:Keyed->Nat)(l:List Keyed):Prop:=l.Pairwise (Le r)
end TS
namespace TS
open PySem PyProof.Rows
variable {r:Keyed->Nat}{a b out:Array Keyed}{ia ib k:Nat}
theorem VZ(h:i<l.size):rk r l i=r l[i]:=Zh2 (getElem?_eq_getElem h)
end TS
namespace TS
open PySem PyProof.Rows
variable {prog:Program}{w:World}{A:Around}{E:zVP}{s:Shared}{κ:SortKind}{dom:Keyed->Prop}{r:Keyed->Nat}
section
variable {α:Type}{t e:StateT SortSt Sem α}{Q:α->SortSt->Prop}{st:SortSt}
theorem ifB{x y:Nat}(h1:x=y->wpS (model prog w) A E s t Q st)(h2:x≠y->wpS (model prog w) A E s e Q st):wpS (model prog w) A E s (if (x==y)=true then t else e) Q st:=by
 by_cases h:x=y
 ·rw[if_pos (by rw[h];exact beq_self_eq_true _)];exact h1 h
 ·rw[if_neg (by rw[beq_iff_eq];exact h)];exact h2 h
theorem ifP{p:Prop}[Decidable p](h1:p->wpS (model prog w) A E s t Q st)(h2:¬ p->wpS (model prog w) A E s e Q st):wpS (model prog w) A E s (if p then t else e) Q st:=by
 by_cases h:p
 ·rw[if_pos h];exact h1 h
 ·rw[if_neg h];exact h2 h
end
end TS
namespace TS
open PySem PyProof.Rows
variable {prog:Program}{w:World}{A:Around}{E:zVP}{s:Shared}{κ:SortKind}{dom:Keyed->Prop}{r:Keyed->Nat}
end TS
namespace TS
open PySem PyProof.Rows
variable {prog:Program}{w:World}{A:Around}{E:zVP}{s:Shared}{κ:SortKind}{dom:Keyed->Prop}{r:Keyed->Nat}
end TS
namespace TS
open PySem PyProof.Rows
section
variable {r:Keyed->Nat}
def Up(r:Keyed->Nat)(a:Array Keyed)(lo n:Nat):Prop:=∀ i j,i<=j->j<n->rk r a (lo+i)<=rk r a (lo+j)
def Down(r:Keyed->Nat)(a:Array Keyed)(lo n:Nat):Prop:=∀ i j,i<=j->j<n->rk r a (lo+j)<=rk r a (lo+i)
theorem V0(h:a[i]?=b[j]?):rk r a i=rk r b j:=by unfold rk;rw[h]
theorem JF(hj:j<=a.size)(k:Nat):rk r (mirror a i j ((j - i) / 2)) k=if i<=k/\k<j then rk r a (i+j - 1 - k) else rk r a k:=by
 have e:=getElem?_mirror_all (i:=i) hj k;by_cases h:i<=k/\k<j
 ·rw[if_pos h] at e ⊢;exact V0 e
 ·rw[if_neg h] at e ⊢;exact V0 e
theorem ZfF(hs:src<a.size)(hd:d<=src)(k:Nat):rk r (bubble a src d) k=if k=src - d then rk r a src else if src - d<k/\k<=src then rk r a (k - 1) else rk r a k:=by
 have e:=getElem?_bubble hs d hd k;by_cases h1:k=src - d
 ·rw[if_pos h1] at e ⊢;exact V0 e
 ·rw[if_neg h1] at e ⊢;by_cases h2:src - d<k/\k<=src
  ·rw[if_pos h2] at e ⊢;exact V0 e
  ·rw[if_neg h2] at e ⊢;exact V0 e
theorem Up.succ{a:Array Keyed}{lo n:Nat}(h:Up r a lo n)(h1:1<=n)(hn:rk r a (lo+n - 1)<=rk r a (lo+n)):Up r a lo (n+1):=by
 intro i j hij hj;by_cases e:j=n
 ·subst e;by_cases e2:i=j
  ·subst e2;exact oAl _
  ·have:=h i (j - 1) (by lia) (by lia);rw[show lo+(j - 1)=lo+j - 1 by lia] at this;lia
 ·exact h i j hij (by lia)
theorem Down.succ{a:Array Keyed}{lo n:Nat}(h:Down r a lo n)(h1:1<=n)(hn:rk r a (lo+n)<=rk r a (lo+n - 1)):Down r a lo (n+1):=by
 intro i j hij hj;by_cases e:j=n
 ·subst e;by_cases e2:i=j
  ·subst e2;exact oAl _
  ·have:=h i (j - 1) (by lia) (by lia);rw[show lo+(j - 1)=lo+j - 1 by lia] at this;lia
 ·exact h i j hij (by lia)
end
structure Sg(st0:SortSt)(lo n:Nat)(st:SortSt):Prop where
 kind:kindOf st=kindOf st0
 fail:failedOf st=failedOf st0
 pend:pendingOf st=pendingOf st0
 perm:(arrOf st).Perm (arrOf st0)
 out:∀ i,(i<lo\/lo+n<=i)->(arrOf st)[i]?=(arrOf st0)[i]?
theorem Sg.refl{st:SortSt}{lo n:Nat}:Sg st lo n st:=⟨rfl,rfl,rfl,.refl _,fun _ _=>rfl⟩
theorem Sg.trans{a b c:SortSt}{lo n:Nat}(h:Sg a lo n b)(g:Sg b lo n c):Sg a lo n c:=⟨g.kind.trans h.kind,g.fail.trans h.fail,g.pend.trans h.pend,g.perm.trans h.perm,fun i hi=>(g.out i hi).trans (h.out i hi)⟩
theorem Sg.size{a b:SortSt}{lo n:Nat}(h:Sg a lo n b):(arrOf b).size=(arrOf a).size:=h.perm.size_eq
theorem Sg.wide{a b:SortSt}{lo n m:Nat}(h:Sg a lo n b)(hm:n<=m):Sg a lo m b:=⟨h.kind,h.fail,h.pend,h.perm,fun i hi=>h.out i (by lia)⟩
theorem Sg.rev{st:SortSt}{lo n i j:Nat}(hi:lo<=i)(hj:j<=lo+n)(hz:lo+n<=(arrOf st).size):Sg st lo n (setArr st (mirror (arrOf st) i j ((j - i) / 2))):=
 ⟨rfl,rfl,rfl,mirror_perm _ _ _ _,fun k hk=>by
  have e:=getElem?_mirror_all (xs:=arrOf st) (i:=i) (j:=j) (by lia) k;rw[if_neg (by lia)] at e;exact e⟩
theorem Sg.dom{a b:SortSt}{lo n:Nat}{dom:Keyed->Prop}(h:Sg a lo n b)(hd:∀ x∈arrOf a,dom x):∀ x∈arrOf b,dom x:=fun x hx=>hd x (by
 have:=(Array.perm_iff_toList_perm.1 h.perm).mem_iff (a:=x);rw[mem_toList_iff,mem_toList_iff] at this;exact this.1 hx)
variable {prog:Program}{w:World}{A:Around}{E:zVP}{s:Shared}{κ:SortKind}{dom:Keyed->Prop}{r:Keyed->Nat}
theorem Z8(C:Cmp prog w A E s κ dom r){i j:Nat}{Q:Option Bool->SortSt->Prop}{st:SortSt}(hκ:kindOf st=κ)(hd:∀ x∈arrOf st,dom x)(hi:i<(arrOf st).size)(hj:j<(arrOf st).size)(k:Q (some (decide (rk r (arrOf st) i<rk r (arrOf st) j))) st) :
  wpS (model prog w) A E s (ltAt' i j) Q st:=by
 rw[ltAt'_eq];refine oAv (wpS_get ?_);refine oAv (zR (getElem?_eq_getElem hi) ?_);refine oAv (zR (getElem?_eq_getElem hj) ?_);rw[VZ hi,VZ hj] at k;exact C.lt (hd _ (Array.getElem_mem hi)) (hd _ (Array.getElem_mem hj)) hκ k
theorem YI{i j:Nat}{Q:Unit->SortSt->Prop}{st:SortSt}(k:Q () (setArr st (mirror (arrOf st) i j ((j - i) / 2)))):wpS (model prog w) A E s (reverseSlice' i j) Q st:=by
 rw[reverseSlice'_eq];exact wpS_modify k
theorem Zbt(C:Cmp prog w A E s κ dom r){lo n ok:Nat}{Q:Bool->SortSt->Prop}{st:SortSt}(hκ:kindOf st=κ)(hd:∀ x∈arrOf st,dom x)(hz:lo+n<=(arrOf st).size)(hok:ok<=n)(hs:Up r (arrOf st) lo ok)
  (k:∀ st',Sg st lo n st'->Up r (arrOf st') lo n->Q true st'):wpS (model prog w) A E s (binarySort' lo n ok) Q st:=by
 rw[binarySort'_eq];dsimp only;refine oAv (wpS_mono (wpS_forRange (I:=fun x c st1=>c=(none,())/\Sg st lo n st1/\Up r (arrOf st1) lo (min x n)) (Q:=fun c st1=>c=(none,())/\Sg st lo n st1/\Up r (arrOf st1) lo n) ?step ?fin ?init) ?post)
 case post=>
  rintro c st1 ⟨rfl,h1,h2⟩;exact oAw (k st1 h1 h2)
 case fin=>
  rintro c st1 ⟨rfl,h1,h2⟩;refine⟨rfl,h1,fun i j hij hj=>h2 i j hij (by lia)⟩
 case init=>
  refine⟨rfl,.refl,fun i j hij hj=>?_⟩;by_cases e:i=j
  ·subst e;exact oAl _
  ·exact hs i j hij (by lia)
 case step=>
  rintro x c st1 hx1 hx2 ⟨rfl,g,u⟩;rw[Nat.min_eq_left (by lia)] at u;have gz:=g.size;have gd:=g.dom hd;have gk:=g.kind.trans hκ
  try dsimp only
  refine oAv (wpS_mono (wpS_forRange (I:=fun y c st2=>st2=st1/\∃ l h,c=(none,l,h)/\l<=h/\h<=x/\h - l+y<=x/\(∀ i,i<l->rk r (arrOf st1) (lo+i)<=rk r (arrOf st1) (lo+x))/\∀ i,h<=i->i<x->rk r (arrOf st1) (lo+x)<=rk r (arrOf st1) (lo+i))
   (Q:=fun c st2=>st2=st1/\∃ l h,c=(none,l,h)/\l<=x/\(∀ i,i<l->rk r (arrOf st1) (lo+i)<=rk r (arrOf st1) (lo+x))/\∀ i,l<=i->i<x->rk r (arrOf st1) (lo+x)<=rk r (arrOf st1) (lo+i)) ?s1 ?f1 ⟨rfl,0,x,rfl,by lia,by lia,by lia,fun i hi=>by lia,fun i h1 h2=>by lia⟩) ?p1)
  case f1=>
   rintro c st2 ⟨rfl,l,h,rfl,b1,b2,b3,b4,b5⟩;exact⟨rfl,l,h,rfl,by lia,b4,fun i c1 c2=>b5 i (by lia) c2⟩
  case s1=>
   rintro y c st2 _ hy ⟨rfl,l,h,rfl,b1,b2,b3,b4,b5⟩;dsimp only;refine ifP (fun q=>oAw ⟨rfl,l,h,rfl,by lia,b4,fun i c1 c2=>b5 i (by lia) c2⟩) (fun q=>?_);refine oAv (Z8 C gk gd (by lia) (by lia) ?_);dsimp only;refine ifP (fun q2=>?_) (fun q2=>?_)
   ·have q2:=oAj q2;refine oAw ⟨rfl,_,_,rfl,by lia,by lia,by lia,b4,fun i c1 c2=>?_⟩;have:=u ((l+h) / 2) i c1 (by lia);lia
   ·rw[decide_eq_true_eq] at q2;refine oAw ⟨rfl,_,_,rfl,by lia,by lia,by lia,fun i c1=>?_,b5⟩;have:=u i ((l+h) / 2) (by lia) (by lia);lia
  case p1=>
   rintro c st2 ⟨rfl,l,h,rfl,b1,b4,b5⟩;dsimp only;rw[moveDown'_eq];refine oAv (wpS_modify (oAw ⟨rfl,g.trans ⟨rfl,rfl,rfl,bubble_perm _ _ _,fun i hi=>?_⟩,?_⟩))
   ·have e:=getElem?_bubble (xs:=arrOf st2) (src:=lo+x) (by lia) (lo+x - (lo+l)) (by lia) i;rw[if_neg (by lia),if_neg (by lia)] at e;exact e
   ·rw[Nat.min_eq_left (by lia)];have rb:=fun t=>ZfF (r:=r) (a:=arrOf st2) (src:=lo+x) (d:=lo+x - (lo+l)) (by lia) (by lia) t;show Up r (bubble (arrOf st2) (lo+x) (lo+x - (lo+l))) lo (x+1);have es:lo+x - (lo+x - (lo+l))=lo+l:=by lia
    simp only[es] at rb;intro i j hij hj;rw[rb,rb];by_cases c1:lo+i=lo+l
    ·rw[if_pos c1];by_cases c2:lo+j=lo+l
     ·rw[if_pos c2];exact oAl _
     ·rw[if_neg c2,if_pos (by lia),show lo+j - 1=lo+(j - 1) by lia];exact b5 (j - 1) (by lia) (by lia)
    ·rw[if_neg c1];by_cases c3:lo+l<lo+i/\lo+i<=lo+x
     ·rw[if_pos c3,if_neg (by lia),if_pos (by lia),show lo+i - 1=lo+(i - 1) by lia,show lo+j - 1=lo+(j - 1) by lia];exact u (i - 1) (j - 1) (by lia) (by lia)
     ·rw[if_neg c3];by_cases c2:lo+j=lo+l
      ·rw[if_pos c2];exact b4 i (by lia)
      ·rw[if_neg c2];by_cases c4:lo+l<lo+j/\lo+j<=lo+x
       ·rw[if_pos c4,show lo+j - 1=lo+(j - 1) by lia];exact u i (j - 1) (by lia) (by lia)
       ·rw[if_neg c4];exact u i j hij (by lia)
end TS
namespace TS
open PySem PyProof.Rows
variable {prog:Program}{w:World}{A:Around}{E:zVP}{s:Shared}{κ:SortKind}{dom:Keyed->Prop}{r:Keyed->Nat}
theorem Jo{lo nrem a:Nat}{st:SortSt}{f:Nat->AscSt->StateT SortSt Sem (ForInStep AscSt)}(h1:1<=a)(ha:a<=nrem)(hu:Up r (arrOf st) lo a)
  (hf:∀ x m (Q:ForInStep AscSt->SortSt->Prop),1<=m->m<nrem->(rk r (arrOf st) (lo+m)<rk r (arrOf st) (lo+m - 1)->Q (.done (none,m)) st)->(rk r (arrOf st) (lo+m - 1)<=rk r (arrOf st) (lo+m)->Q (.yield (none,m+1)) st)->wpS (model prog w) A E s (f x (none,m)) Q st) :
  wpS (model prog w) A E s (forIn [a:nrem] (none,a) f) (fun c st'=>st'=st/\∃ m,c=(none,m)/\a<=m/\m<=nrem/\Up r (arrOf st) lo m/\(m<nrem->rk r (arrOf st) (lo+m)<rk r (arrOf st) (lo+m - 1))) st:=by
 refine wpS_forRange (I:=fun x c st'=>st'=st/\c=(none,x)/\a<=x/\Up r (arrOf st) lo x) ?_ ?_ ⟨rfl,rfl,oAl _,hu⟩
 ·rintro x c st' hx1 hx2 ⟨rfl,rfl,b1,b2⟩;refine hf x x _ (by lia) hx2 (fun q=>⟨rfl,x,rfl,b1,by lia,b2,fun _=>q⟩) (fun q=>⟨rfl,rfl,by lia,b2.succ (by lia) q⟩)
 ·rintro c st' ⟨rfl,rfl,b1,b2⟩;rw[Nat.max_eq_right ha] at *;exact⟨rfl,nrem,rfl,ha,oAl _,b2,fun z=>by lia⟩
theorem WF{lo nrem a:Nat}{st0:SortSt}{f:Nat->DescSt->StateT SortSt Sem (ForInStep DescSt)}(h1:1<=a)(ha:a<=nrem)(hz:lo+nrem<=(arrOf st0).size){st:SortSt}(hg:Sg st0 lo nrem st)(hu:Down r (arrOf st) lo a)
    (hf:∀ x m q st (Q:ForInStep DescSt->SortSt->Prop),Sg st0 lo nrem st->1<=m->m<nrem->(rk r (arrOf st) (lo+m)<rk r (arrOf st) (lo+m - 1)->(0<q->Q (.yield (none,m+1,0)) (setArr st (mirror (arrOf st) (lo+m - (q+1)) (lo+m) ((lo+m - (lo+m - (q+1))) / 2))))/\(q=0->Q (.yield (none,m+1,0)) st))
     ->(rk r (arrOf st) (lo+m - 1)<rk r (arrOf st) (lo+m)->Q (.done (none,m,q)) st)->(rk r (arrOf st) (lo+m - 1)=rk r (arrOf st) (lo+m)->Q (.yield (none,m+1,q+1)) st)->wpS (model prog w) A E s (f x (none,m,q)) Q st) :
    wpS (model prog w) A E s (forIn [a:nrem] (none,a,0) f) (fun c st'=>Sg st0 lo nrem st'/\∃ m q,c=(none,m,q)/\a<=m/\m<=nrem/\Down r (arrOf st') lo m/\q+1<=m/\∀ i,m - (q+1)<=i->i<m->rk r (arrOf st') (lo+i)=rk r (arrOf st') (lo+m - 1)) st:=by
  refine wpS_forRange (I:=fun x c st'=>Sg st0 lo nrem st'/\∃ q,c=(none,x,q)/\a<=x/\Down r (arrOf st') lo x/\q+1<=x/\∀ i,x - (q+1)<=i->i<x->rk r (arrOf st') (lo+i)=rk r (arrOf st') (lo+x - 1)) ?_ ?_ ⟨hg,0,rfl,oAl _,hu,h1,fun i i1 i2=>by rw[show lo+i=lo+a - 1 by lia]⟩
  · rintro x c st' hx1 hx2 ⟨g,q,rfl,b1,b2,b3,b4⟩;have gz:=g.size;refine hf x x q st' _ g (by lia) hx2 (fun c1=>⟨fun c2=>?_,fun c2=>?_⟩) (fun c1=>?_) (fun c1=>?_)
    · have rm:=fun t=>JF (r:=r) (a:=arrOf st') (i:=lo+x - (q+1)) (j:=lo+x) (by lia) t;have rm2:∀ t,rk r (mirror (arrOf st') (lo+x - (q+1)) (lo+x) ((lo+x - (lo+x - (q+1))) / 2)) t=rk r (arrOf st') t:=fun t=>by
        rw[rm t];split
        · rename_i ht;have e1:=b4 (t - lo) (by lia) (by lia);have e2:=b4 (lo+x - (q+1)+(lo+x) - 1 - t - lo) (by lia) (by lia);rw[show lo+(t - lo)=t by lia] at e1;rw[show lo+(lo+x - (q+1)+(lo+x) - 1 - t - lo)=lo+x - (q+1)+(lo+x) - 1 - t by lia] at e2;rw[e1,e2]
        · rfl
      refine⟨g.trans (Sg.rev (by lia) (by lia) (by lia)),0,rfl,by lia,?_,by lia,fun i i1 i2=>by rw[show lo+i=lo+(x+1) - 1 by lia]⟩;refine Down.succ (fun i j hij hj=>?_) (by lia) ?_
      · show rk r (mirror _ _ _ _) _<=rk r (mirror _ _ _ _) _;rw[rm2,rm2];exact b2 i j hij hj
      · show rk r (mirror _ _ _ _) _<=rk r (mirror _ _ _ _) _;rw[rm2,rm2];lia
    · exact⟨g,0,rfl,by lia,b2.succ (by lia) (by lia),by lia,fun i i1 i2=>by rw[show lo+i=lo+(x+1) - 1 by lia]⟩
    · exact⟨g,x,q,rfl,b1,by lia,b2,b3,b4⟩
    · refine⟨g,q+1,rfl,by lia,b2.succ (by lia) (by lia),by lia,fun i i1 i2=>?_⟩;by_cases e:i=x
      · rw[e,show lo+(x+1) - 1=lo+x by lia]
      · rw[show lo+(x+1) - 1=lo+x by lia,<-c1];exact b4 i (by lia) (by lia)
  · rintro c st' ⟨g,q,rfl,b1,b2,b3,b4⟩;rw[Nat.max_eq_right ha] at *;exact⟨g,nrem,q,rfl,ha,oAl _,b2,b3,b4⟩
theorem Uk{a:Array Keyed}{lo m:Nat}(hz:lo+m<=a.size)(d:Down r a lo m):Up r (mirror a lo (lo+m) ((lo+m - lo) / 2)) lo m:=fun i j hij hj=>by
 rw[JF hz,JF hz,if_pos (by lia),if_pos (by lia)];have:=d (m - 1 - j) (m - 1 - i) (by lia) (by lia);rw[show lo+(lo+m) - 1 - (lo+i)=lo+(m - 1 - i) by lia,show lo+(lo+m) - 1 - (lo+j)=lo+(m - 1 - j) by lia];exact this
theorem UH{a:Array Keyed}{lo i m:Nat}(hz:lo+m<=a.size)(hi:i<=m)(h:∀ j,i<=j->j<m->rk r a (lo+j)=rk r a (lo+m - 1))(t:Nat):rk r (mirror a (lo+i) (lo+m) ((lo+m - (lo+i)) / 2)) t=rk r a t:=by
 rw[JF hz];split
 ·have e1:=h (t - lo) (by omega) (by omega);have e2:=h (lo+i+(lo+m) - 1 - t - lo) (by omega) (by omega);rw[show lo+(t - lo)=t by lia] at e1;rw[show lo+(lo+i+(lo+m) - 1 - t - lo)=lo+i+(lo+m) - 1 - t by lia] at e2;rw[e1,e2]
 ·rfl
theorem Zcu(C:Cmp prog w A E s κ dom r){lo nrem:Nat}{Q:Option Nat->SortSt->Prop}{st:SortSt}(hκ:kindOf st=κ)(hd:∀ x∈arrOf st,dom x)(hz:lo+nrem<=(arrOf st).size)(h1:1<=nrem)
  (k:∀ m st',Sg st lo nrem st'->1<=m->m<=nrem->Up r (arrOf st') lo m->Q (some m) st'):wpS (model prog w) A E s (countRun' lo nrem) Q st:=by
 unfold countRun';k_delta "countRun"
 dsimp only;refine oAv (wpS_mono (Jo (st:=st) (lo:=lo) (r:=r) (oAl 1) h1 (fun i j hij hj=>by rw[show i=j by lia];exact oAl _) ?_) ?_)
 ·intro x m Q m1 m2 k1 k2;dsimp only;refine oAv (Z8 C (by first | exact hκ5 | exact hκ) (by first | exact hd5 | exact hd) (by lia) (by lia) ?_);dsimp only;refine ifP (fun q=>oAw (k1 (oAj q))) (fun q=>oAw (k2 ?_));rw[decide_eq_true_eq] at q;lia
 rintro c st' ⟨rfl,n,rfl,n1,n2,n3,n4⟩;dsimp only;refine ifB (fun e=>oAw (k _ _ .refl n1 n2 n3)) (fun ne=>?_);have n4:=n4 (by lia);refine ifP (fun hn=>?_) (fun hn=>?_)
 ·refine oAv (Z8 C hκ hd (by lia) (by lia) ?_);dsimp only;refine ifP (fun q=>oAw (k _ _ .refl n1 n2 n3)) (fun q=>?_);rw[decide_eq_true_eq] at q;have all:∀ j,0<=j->j<n->rk r (arrOf st') (lo+j)=rk r (arrOf st') (lo+n - 1):=fun j _ hj=>by
   have a1:=n3 0 j (by lia) hj;have a2:=n3 j (n - 1) (by lia) (by lia);rw[show lo+(n - 1)=lo+n - 1 by lia] at a2;rw[Nat.add_zero] at a1;lia
  refine oAv (YI ?_);have g3:=Sg.rev (st:=st') (lo:=lo) (n:=nrem) (i:=lo) (j:=lo+n) (by lia) (by lia) (by lia);have er:=fun t=>UH (r:=r) (a:=arrOf st') (lo:=lo) (i:=0) (m:=n) (by lia) (by lia) all t;simp only[Nat.add_zero] at er;have d3:Down r (arrOf (setArr st' (mirror (arrOf st') lo (lo+n) ((lo+n - lo) / 2)))) lo (n+1):=by
   refine Down.succ (fun i j hij hj=>?_) n1 ?_
   ·show rk r (mirror _ _ _ _) _<=rk r (mirror _ _ _ _) _;rw[er,er,all i (by lia) (by lia),all j (by lia) (by lia)];exact oAl _
   ·show rk r (mirror _ _ _ _) _<=rk r (mirror _ _ _ _) _;rw[er,er];lia
  generalize setArr st' (mirror (arrOf st') lo (lo+n) ((lo+n - lo) / 2))=st3 at *;refine oAv (wpS_lift (wpAny_rule ⟨rfl,?_⟩));refine oAv (wpS_mono (WF (lo:=lo) (r:=r) (by lia) (by lia) hz g3 d3 ?_) ?_)
  ·intro x m q st6 Q g6 m1 m2 k1 k2 k3;have z6:=g6.size;dsimp only;refine oAv (Z8 C (g6.kind.trans hκ) (g6.dom hd) (by lia) (by lia) ?_);dsimp only;refine ifP (fun c=>?_) (fun c=>?_)
   ·have c:=oAj c;exact ifP (fun c2=>oAv (YI (oAw ((k1 c).1 c2)))) (fun c2=>oAw ((k1 c).2 (by lia)))
   ·rw[decide_eq_true_eq] at c;refine oAv (Z8 C (g6.kind.trans hκ) (g6.dom hd) (by lia) (by lia) ?_);dsimp only;refine ifP (fun c2=>oAw (k2 (oAj c2))) (fun c2=>oAw (k3 ?_));rw[decide_eq_true_eq] at c2;lia
  ·rintro c st4 ⟨g4,m4,q4,rfl,m41,m42,d4,q41,e4⟩;have z4:=g4.size;dsimp only;refine ifP (fun q0=>?_) (fun q0=>?_)
   ·refine oAv (YI ?_);have ei:lo+m4 - (q4+1)=lo+(m4 - (q4+1)):=by lia
    rw[ei];have g7:=g4.trans (Sg.rev (st:=st4) (lo:=lo) (n:=nrem) (i:=lo+(m4 - (q4+1))) (j:=lo+m4) (by lia) (by lia) (by lia));have d7:Down r (arrOf (setArr st4 (mirror (arrOf st4) (lo+(m4 - (q4+1))) (lo+m4) ((lo+m4 - (lo+(m4 - (q4+1)))) / 2)))) lo m4:=fun i j hij hj=>by
     show rk r (mirror _ _ _ _) _<=rk r (mirror _ _ _ _) _;rw[UH (by lia) (by lia) e4,UH (by lia) (by lia) e4];exact d4 i j hij hj
    generalize setArr st4 (mirror (arrOf st4) (lo+(m4 - (q4+1))) (lo+m4) ((lo+m4 - (lo+(m4 - (q4+1)))) / 2))=st7 at *;refine oAv (YI ?_);have z4':=(g7).size;have g5:=(g7).trans (Sg.rev (st:=st7) (lo:=lo) (n:=nrem) (i:=lo) (j:=lo+m4) (by lia) (by lia) (by lia));have u5:Up r (arrOf (setArr st7 (mirror (arrOf st7) lo (lo+m4) ((lo+m4 - lo) / 2)))) lo m4:=Uk (by lia) d7;have hκ5:=(g5).kind.trans hκ;have hd5:=g5.dom hd;have hz5:=g5.size;generalize setArr st7 (mirror (arrOf st7) lo (lo+m4) ((lo+m4 - lo) / 2))=st5 at *;refine oAv (wpS_mono (Jo (st:=st5) (lo:=lo) (r:=r) (by lia) (by lia) u5 ?_) ?_)
    ·intro x m Q m1 m2 k1 k2;dsimp only;refine oAv (Z8 C (by first | exact hκ5 | exact hκ) (by first | exact hd5 | exact hd) (by lia) (by lia) ?_);dsimp only;refine ifP (fun q=>oAw (k1 (oAj q))) (fun q=>oAw (k2 ?_));rw[decide_eq_true_eq] at q;lia
    ·rintro c st' ⟨rfl,m5,rfl,v1,v2,v3,v4⟩;exact oAw (k _ _ g5 (by lia) v2 v3)
   ·refine oAv (YI ?_);have z4':=(g4).size;have g5:=(g4).trans (Sg.rev (st:=st4) (lo:=lo) (n:=nrem) (i:=lo) (j:=lo+m4) (by lia) (by lia) (by lia));have u5:Up r (arrOf (setArr st4 (mirror (arrOf st4) lo (lo+m4) ((lo+m4 - lo) / 2)))) lo m4:=Uk (by lia) d4;have hκ5:=(g5).kind.trans hκ;have hd5:=g5.dom hd;have hz5:=g5.size;generalize setArr st4 (mirror (arrOf st4) lo (lo+m4) ((lo+m4 - lo) / 2))=st5 at *;refine oAv (wpS_mono (Jo (st:=st5) (lo:=lo) (r:=r) (by lia) (by lia) u5 ?_) ?_)
    ·intro x m Q m1 m2 k1 k2;dsimp only;refine oAv (Z8 C (by first | exact hκ5 | exact hκ) (by first | exact hd5 | exact hd) (by lia) (by lia) ?_);dsimp only;refine ifP (fun q=>oAw (k1 (oAj q))) (fun q=>oAw (k2 ?_));rw[decide_eq_true_eq] at q;lia
    ·rintro c st' ⟨rfl,m5,rfl,v1,v2,v3,v4⟩;exact oAw (k _ _ g5 (by lia) v2 v3)
 ·have d3:Down r (arrOf st') lo (n+1):=Down.succ (fun i j hij hj=>by rw[show i=j by lia];exact oAl _) n1 (by lia)
  have g3:Sg st' lo nrem st':=.refl;refine oAv (wpS_lift (wpAny_rule ⟨rfl,?_⟩));refine oAv (wpS_mono (WF (lo:=lo) (r:=r) (by lia) (by lia) hz g3 d3 ?_) ?_)
  ·intro x m q st6 Q g6 m1 m2 k1 k2 k3;have z6:=g6.size;dsimp only;refine oAv (Z8 C (g6.kind.trans hκ) (g6.dom hd) (by lia) (by lia) ?_);dsimp only;refine ifP (fun c=>?_) (fun c=>?_)
   ·have c:=oAj c;exact ifP (fun c2=>oAv (YI (oAw ((k1 c).1 c2)))) (fun c2=>oAw ((k1 c).2 (by lia)))
   ·rw[decide_eq_true_eq] at c;refine oAv (Z8 C (g6.kind.trans hκ) (g6.dom hd) (by lia) (by lia) ?_);dsimp only;refine ifP (fun c2=>oAw (k2 (oAj c2))) (fun c2=>oAw (k3 ?_));rw[decide_eq_true_eq] at c2;lia
  ·rintro c st4 ⟨g4,m4,q4,rfl,m41,m42,d4,q41,e4⟩;have z4:=g4.size;dsimp only;refine ifP (fun q0=>?_) (fun q0=>?_)
   ·refine oAv (YI ?_);have ei:lo+m4 - (q4+1)=lo+(m4 - (q4+1)):=by lia
    rw[ei];have g7:=g4.trans (Sg.rev (st:=st4) (lo:=lo) (n:=nrem) (i:=lo+(m4 - (q4+1))) (j:=lo+m4) (by lia) (by lia) (by lia));have d7:Down r (arrOf (setArr st4 (mirror (arrOf st4) (lo+(m4 - (q4+1))) (lo+m4) ((lo+m4 - (lo+(m4 - (q4+1)))) / 2)))) lo m4:=fun i j hij hj=>by
     show rk r (mirror _ _ _ _) _<=rk r (mirror _ _ _ _) _;rw[UH (by lia) (by lia) e4,UH (by lia) (by lia) e4];exact d4 i j hij hj
    generalize setArr st4 (mirror (arrOf st4) (lo+(m4 - (q4+1))) (lo+m4) ((lo+m4 - (lo+(m4 - (q4+1)))) / 2))=st7 at *;refine oAv (YI ?_);have z4':=(g7).size;have g5:=(g7).trans (Sg.rev (st:=st7) (lo:=lo) (n:=nrem) (i:=lo) (j:=lo+m4) (by lia) (by lia) (by lia));have u5:Up r (arrOf (setArr st7 (mirror (arrOf st7) lo (lo+m4) ((lo+m4 - lo) / 2)))) lo m4:=Uk (by lia) d7;have hκ5:=(g5).kind.trans hκ;have hd5:=g5.dom hd;have hz5:=g5.size;generalize setArr st7 (mirror (arrOf st7) lo (lo+m4) ((lo+m4 - lo) / 2))=st5 at *;refine oAv (wpS_mono (Jo (st:=st5) (lo:=lo) (r:=r) (by lia) (by lia) u5 ?_) ?_)
    ·intro x m Q m1 m2 k1 k2;dsimp only;refine oAv (Z8 C (by first | exact hκ5 | exact hκ) (by first | exact hd5 | exact hd) (by lia) (by lia) ?_);dsimp only;refine ifP (fun q=>oAw (k1 (oAj q))) (fun q=>oAw (k2 ?_));rw[decide_eq_true_eq] at q;lia
    ·rintro c st' ⟨rfl,m5,rfl,v1,v2,v3,v4⟩;exact oAw (k _ _ g5 (by lia) v2 v3)
   ·refine oAv (YI ?_);have z4':=(g4).size;have g5:=(g4).trans (Sg.rev (st:=st4) (lo:=lo) (n:=nrem) (i:=lo) (j:=lo+m4) (by lia) (by lia) (by lia));have u5:Up r (arrOf (setArr st4 (mirror (arrOf st4) lo (lo+m4) ((lo+m4 - lo) / 2)))) lo m4:=Uk (by lia) d4;have hκ5:=(g5).kind.trans hκ;have hd5:=g5.dom hd;have hz5:=g5.size;generalize setArr st4 (mirror (arrOf st4) lo (lo+m4) ((lo+m4 - lo) / 2))=st5 at *;refine oAv (wpS_mono (Jo (st:=st5) (lo:=lo) (r:=r) (by lia) (by lia) u5 ?_) ?_)
    ·intro x m Q m1 m2 k1 k2;dsimp only;refine oAv (Z8 C (by first | exact hκ5 | exact hκ) (by first | exact hd5 | exact hd) (by lia) (by lia) ?_);dsimp only;refine ifP (fun q=>oAw (k1 (oAj q))) (fun q=>oAw (k2 ?_));rw[decide_eq_true_eq] at q;lia
    ·rintro c st' ⟨rfl,m5,rfl,v1,v2,v3,v4⟩;exact oAw (k _ _ g5 (by lia) v2 v3)
end TS
namespace TS
open PySem PyProof.Rows
variable {prog:Program}{w:World}{A:Around}{E:zVP}{s:Shared}{κ:SortKind}{dom:Keyed->Prop}{r:Keyed->Nat}
theorem ZdY{n:Nat}(h2:2<=n)(hn:n<64):minRun' n n 0=n:=by
 obtain⟨f,hf⟩:∃ f,n=f+1+1:=⟨n - 2,by lia⟩;have e:minRun' n n 0=if n<64 then n+0 else minRun' (n - 1) (n / 2) (max 0 (n % 2)):=by
  rw[hf,minRun'_succ];rfl
 rw[e,if_pos hn,Nat.add_zero]
def Runs(r:Keyed->Nat)(n lo:Nat)(st:SortSt):Prop:=pendingOf st=#[(0,lo,0)]/\Up r (arrOf st) 0 lo
theorem Zcv{a:Array Keyed}{m:Nat}(hm:m<=a.size)(h:Up r a 0 m):Srt r (a.toList.take m):=by
 refine List.pairwise_iff_getElem.2 fun i j hi hj hij=>?_;rw[length_take] at hi hj;have:=h i j (by lia) (by lia);rw[zero_add,zero_add,VZ (by lia),VZ (by lia)] at this;simpa [Le] using this
structure Bs(κ:SortKind)(st0 st:SortSt):Prop where
 kind:kindOf st=κ
 fail:failedOf st=none
 perm:(arrOf st).Perm (arrOf st0)
theorem Bs.size{st0 st:SortSt}(h:Bs κ st0 st):(arrOf st).size=(arrOf st0).size:=h.perm.size_eq
theorem Bs.doms{st0 st:SortSt}(h:Bs κ st0 st)(hd:∀ x∈arrOf st0,dom x):∀ x∈arrOf st,dom x:=fun x hx=>hd x (by
 have:=(Array.perm_iff_toList_perm.1 h.perm).mem_iff (a:=x);rw[mem_toList_iff,mem_toList_iff] at this;exact this.1 hx)
theorem Bs.sg{st0 st1 st:SortSt}{lo n:Nat}(h:Bs κ st0 st1)(g:Sg st1 lo n st):Bs κ st0 st:=⟨g.kind.trans h.kind,g.fail.trans h.fail,g.perm.trans h.perm⟩
theorem ZdZ(C:Cmp prog w A E s κ dom r){Q:Unit->SortSt->Prop}{st:SortSt}(hκ:kindOf st=κ)(hf:failedOf st=none)(hp:pendingOf st=#[])(hd:∀ x∈arrOf st,dom x)(h2:2<=(arrOf st).size)(hn:(arrOf st).size<64)
  (k:∀ st',failedOf st'=none->(arrOf st').toList.Perm (arrOf st).toList->Srt r (arrOf st').toList->Q () st'):wpS (model prog w) A E s sortRuns' Q st:=by
 rw[sortRuns'_eq];refine oAv (wpS_get ?_);dsimp only;have r1:=ZdY h2 hn;generalize minRun' (arrOf st).size (arrOf st).size 0=mr at *;generalize hN:(arrOf st).size=n at *;refine oAv (wpS_mono (wpS_forRange
  (I:=fun x c st1=>∃ lo,c=(none,lo)/\Bs κ st st1/\((x=0/\lo=0/\pendingOf st1=#[])\/(x=1/\mr<=lo/\lo<=n/\pendingOf st1=#[(0,lo,0)]/\Up r (arrOf st1) 0 lo)\/(2<=x/\lo=n/\Runs r n n st1)))
  (Q:=fun c st1=>c=(none,n)/\Bs κ st st1/\Runs r n n st1) ?step ?fin ⟨0,rfl,⟨hκ,hf,.refl _⟩,.inl ⟨rfl,rfl,hp⟩⟩) ?post)
 case fin=>
  rintro c st1 ⟨lo,rfl,b,⟨h,_⟩ | ⟨h,_⟩ | ⟨_,rfl,h⟩⟩
  ·lia
  ·lia
  ·exact⟨rfl,b,h⟩
 case step=>
  rintro x c st1 _ hx ⟨lo,rfl,b,cs⟩
  try dsimp only
  have bz:=b.size;refine ifP (fun hlo=>oAw ?_) (fun hlo=>?_)
  ·rcases cs with ⟨rfl,rfl,hp1⟩ | ⟨rfl,l1,l2,hp1,up1⟩ | ⟨x2,rfl,h⟩
   ·lia
   ·have:lo=n:=by lia
    subst this;exact⟨rfl,b,⟨hp1,up1⟩⟩
   ·exact⟨rfl,b,h⟩
  refine oAv (Zcu C b.kind (b.doms hd) (by lia) (by lia) (fun m st2 g2 m1 m2 u2=>?_));dsimp only;refine ifP (fun hm=>?_) (fun hm=>?_)
  ·refine oAv (wpS_lift (wpAny_rule ⟨rfl,?_⟩));have gz:=g2.size;refine oAv (Zbt C (g2.kind.trans b.kind) (g2.dom (b.doms hd)) (by lia) (by lia) u2 (fun st3 g3' u3=>?_));rw[if_neg (by decide)];have g3:=g2.trans (g3'.wide (m:=n - lo) (by lia));have:lo=0\/mr<=lo:=by rcases cs with ⟨_,h,_⟩ | ⟨_,h,_⟩ | ⟨_,h,_⟩<;>lia
   have b3:=b.sg g3;have p3:=(g3).pend;refine oAv (wpS_get ?_)
   rcases cs with ⟨rfl,rfl,hp1⟩ | ⟨rfl,l1,l2,hp1,up1⟩ | ⟨x2,rfl,_⟩
   ·rw[hp1] at p3;have eb:(pendingOf st3).back?=none:=by rw[p3];rfl
    rw[eb];dsimp only;refine oAv (wpS_modify (oAw ?_));refine⟨_,rfl,⟨b3.kind,b3.fail,b3.perm⟩,.inr (.inl ⟨rfl,by lia,by lia,?_,?_⟩)⟩
    ·show (pendingOf st3).push _=_;rw[p3,zero_add];rfl
    ·rw[zero_add];exact u3
   ·lia
   ·lia
  ·have b3:=b.sg g2;have p3:=(g2).pend;refine oAv (wpS_get ?_)
   rcases cs with ⟨rfl,rfl,hp1⟩ | ⟨rfl,l1,l2,hp1,up1⟩ | ⟨x2,rfl,_⟩
   ·rw[hp1] at p3;have eb:(pendingOf st2).back?=none:=by rw[p3];rfl
    rw[eb];dsimp only;refine oAv (wpS_modify (oAw ?_));refine⟨_,rfl,⟨b3.kind,b3.fail,b3.perm⟩,.inr (.inl ⟨rfl,by lia,by lia,?_,?_⟩)⟩
    ·show (pendingOf st2).push _=_;rw[p3,zero_add];rfl
    ·rw[zero_add];exact u2
   ·lia
   ·lia
 case post=>
  rintro c st1 ⟨rfl,b,h⟩;have bz:=b.size;dsimp only;refine oAv (wpS_mono (wpS_forRange (I:=fun x c st2=>c=(none,())/\((x=0/\st2=st1)\/(1<=x/\failedOf st2=none/\(arrOf st2).toList.Perm (arrOf st).toList/\Srt r (arrOf st2).toList/\(pendingOf st2).size<=1)))
   (Q:=fun c st2=>c=(none,())/\failedOf st2=none/\(arrOf st2).toList.Perm (arrOf st).toList/\Srt r (arrOf st2).toList) ?s2 ?f2 ⟨rfl,.inl ⟨rfl,rfl⟩⟩) ?p2)
  case p2=>
   rintro c st2 ⟨rfl,q1,q2,q3⟩;exact oAw (k st2 q1 q2 q3)
  case f2=>
   rintro c st2 ⟨rfl,⟨h,_⟩ | ⟨_,q1,q2,q3,_⟩⟩
   ·lia
   ·exact⟨rfl,q1,q2,q3⟩
  case s2=>
   have pl:=Array.perm_iff_toList_perm.1 b.perm;rintro x c st2 _ hx ⟨rfl,⟨rfl,rfl⟩ | ⟨_,q1,q2,q3,q4⟩⟩
   ·refine oAv (wpS_get ?_)
    try dsimp only
    obtain⟨hp1,u1⟩:=h;rw[if_pos (by rw[hp1];show 1<=1;lia)]
    refine oAw ⟨rfl,b.fail,pl,?_⟩;have:=Zcv (by lia) u1
    rwa [take_of_length_le (by rw[length_toList];lia)] at this
   ·refine oAv (wpS_get ?_)
    try dsimp only
    rw[if_pos q4];exact oAw ⟨rfl,q1,q2,q3⟩
end TS
namespace TS
open PySem PyProof.Rows
variable {prog:Program}{w:World}{A:Around}{E:zVP}{s:Shared}{κ:SortKind}{dom:Keyed->Prop}{r:Keyed->Nat}
theorem UI(vs:List Value):(pairsOf vs).toList=vs.map fun v=>(v,v):=by
 rw[pairsOf_toList]
 induction vs with
 |nil=>rfl
 |cons v vs ih=>rw[List.zip_cons_cons,map_cons,ih]
def Old(s:Shared)(a:Addr)(s':Shared):Prop:=∀ b o,b≠a->s.heap.get? b=some o->s'.heap.get? b=some o
def zS(prog:Program)(w:World)(E:zVP)(s:Shared)(a:Addr)(vs:List Value)(κ:SortKind)(dom:Keyed->Prop)(r:Keyed->Nat):Prop:=
 ∀ (A':Around) (s':Shared),Old s a s'->(∀ Q:SortKind->Shared->Prop,2<=vs.length->Q κ s'->wpAny (model prog w) A' (keyKind' vs.toArray) Q E s')/\Cmp prog w A' E s' κ dom r
theorem Zd0{a:Addr}{vs:List Value}{n:Nat}{P:PySem.Fin->Shared->Prop}(hoA:s.heap.get? a=some (seqObj "list" vs.toArray n))(hv:vs.length<64)(hdm:∀ v∈vs,dom (v,v))(hB:zS prog w E s a vs κ dom r)
  (hk:∀ out:List Keyed,out.Perm (vs.map fun v=>(v,v))->Srt r out->P (.done (.ret .none)) { s with heap:=sortedHeap s.heap a vs (out.map (·.2)).toArray }) :
  wpAny (model prog w) A (Builtin.«list.sort» ⟨[.ref a],[]⟩) P E s:=by
 have hlt:a<s.heap.objs.size:=oAf hoA;obtain⟨ep,hoE⟩:∃ ep,(s.heap.update a (Obj.mapSeq fun _=>#[])).get? a=some (seqObj "list" #[] ep):=⟨_,get?_update_seq hoA fun _=>#[]⟩;have keep:Old s a { s with heap:=((s.heap.update a (Obj.mapSeq fun _=>#[])).push (seqObj "tuple" vs.toArray 0)).push (seqObj "list" #[] 0) }:=fun b o hb ho=>by
  refine oAd _ (oAd _ ?_);rw[Heap.get?_update_ne _ _ _ _ hb];exact ho
 have hoL:(((s.heap.update a (Obj.mapSeq fun _=>#[])).push (seqObj "tuple" vs.toArray 0)).push (seqObj "list" #[] 0)).get? a=some (seqObj "list" #[] ep):=oAd _ (oAd _ hoE);rw[list_sort_plain];refine oAa (listItems_at (xs:=vs.toArray) hoA rfl ?_);refine oAa (listUpdate_at (xs:=vs.toArray) hoA rfl ?_ (by rw[size_toArray,sizeLine_eq];lia) (zero_le _))
 refine oAa (seqEpoch_at (n:=ep) hoE rfl ?_);refine oAa (wpAny_newTuple ?_ (by show vs.length<=_;rw[sizeLine_eq];lia))
 refine oAa (wpAny_newList ?_ (zero_le _));refine wpAny_holding ?_;show wpAny (model prog w) A _ P E { s with heap:=((s.heap.update a (Obj.mapSeq fun _=>#[])).push (seqObj "tuple" vs.toArray 0)).push (seqObj "list" #[] 0) };dsimp only;have fin:∀ (st':SortSt),failedOf st'=none->(arrOf st').toList.Perm (pairsOf vs).toList->Srt r (arrOf st').toList->P (.done (.ret .none)) { s with heap:=sortedHeap s.heap a vs ((arrOf st').map (·.2)) }:=fun st' _ h1 h2=>by
  have:=hk (arrOf st').toList (by rw[<- UI];exact h1) h2
  rwa [show (List.map (·.2) (arrOf st').toList).toArray=(arrOf st').map (·.2) by rw[<- Array.toList_map]] at this
 obtain⟨kd,C⟩:=hB A _ keep;by_cases h2:vs.toArray.size<2
 ·rw[if_pos h2,if_pos h2];refine oAa (oAb ?_);rw[StateT.run_pure];refine oAa (oAb ?_);dsimp only;refine oAa (seqEpoch_at (n:=ep) hoL rfl ?_);refine oAa (listUpdate_at (xs:=#[]) hoL rfl ?_ (zero_le _) (by rw[Array.size_map];show (pairsOf vs).size<=_;rw[pairsOf_size,sizeLine_eq];lia))
  simp only[bne_self_eq_false,false_eq_true,if_false];refine oAb (fin (SortSt.mk' general' (pairsOf vs) #[] 7 none) rfl (List.Perm.refl _) ?_);show Srt r (pairsOf vs).toList;rw[UI]
  match vs,h2 with
  |[],_=>exact List.Pairwise.nil
  |[v],_=>exact List.pairwise_singleton _ _
  |v::u::t,h2=>simp at h2;lia
 ·rw[if_neg h2,if_neg h2];rw[size_toArray] at h2;refine oAa (kd _ (by lia) ?_);have run:=ZdZ (st:=SortSt.mk' κ (pairsOf vs) #[] 7 none) (Q:=fun _ st'=>failedOf st'=none/\(arrOf st').toList.Perm (pairsOf vs).toList/\Srt r (arrOf st').toList) C rfl rfl rfl (fun x hx=>?_) (by show 2<=(pairsOf vs).size;rw[pairsOf_size];lia) (by show (pairsOf vs).size<64;rw[pairsOf_size];exact hv) (fun st' a1 a2 a3=>⟨a1,a2,a3⟩)
  ·refine oAa (oAc run ?_ fun _ _ e=>e);rintro⟨⟨⟩,st'⟩ s' ⟨rfl,hf,hp,hs⟩;have hsz:((arrOf st').map (·.2)).size=vs.length:=by
    rw[Array.size_map,<-length_toList,hp.length_eq,length_toList,pairsOf_size]
   dsimp only;refine oAa (seqEpoch_at (n:=ep) hoL rfl ?_);refine oAa (listUpdate_at (xs:=#[]) hoL rfl ?_ (zero_le _) (oAq (le_of_eq hsz) (by rw[sizeLine_eq];lia)))
   rw[hf];simp only[bne_self_eq_false,false_eq_true,if_false];exact oAb (fin st' hf hp hs)
  ·have hx':x∈(pairsOf vs).toList:=Array.mem_toList_iff.2 hx;rw[UI] at hx';obtain⟨v,hv1,rfl⟩:=List.mem_map.1 hx';exact hdm v hv1
theorem Zbu{l:Addr}{vs:List Value}{Q:zVP}(hl:s.heap.IsList l vs.toArray)(hv:vs.length<64)(hdm:∀ v∈vs,dom (v,v))
  (hB:∀ s',(∀ b o,s.heap.get? b=some o->s'.heap.get? b=some o)->zS prog w E s' (s.heap.objs.size+1) vs κ dom r)
  (hk:∀ out:List Keyed,out.Perm (vs.map fun v=>(v,v))->Srt r out->Q (.ref (s.heap.objs.size+1)) { s with heap:=sortedAll s.heap vs (out.map (·.2)).toArray }) :
  wpAny (model prog w) A (call (.builtin "sorted") [.ref l]) Q E s:=by
 have hsz:((s.heap.push (seqObj "list" #[] 0)).update s.heap.objs.size (Obj.mapSeq (·++vs.toArray))).objs.size=s.heap.objs.size+1:=by
  rw[Heap.size_update,size_push']
 have hoN:(((s.heap.push (seqObj "list" #[] 0)).update s.heap.objs.size (Obj.mapSeq (·++vs.toArray))).push (seqObj "list" vs.toArray 0)).get? (s.heap.objs.size+1)=some (seqObj "list" vs.toArray 0):=by
  rw[<- hsz];exact oAe _ rfl
 refine Calls.call_function_entry kind_sorted plain_sorted entry_sorted (args_sorted1 _) ?_;unfold Builtin.«sorted»;refine oAa (m:=checkCount "sorted" 1 1 _) (oAb ?_);refine oAa (collect_list hl ?_ (by rw[sizeLine_eq];lia))
 refine oAa (wpAny_newList ?_ (by rw[sizeLine_eq];lia))
 show wpAny _ _ _ _ _ { s with heap:=((s.heap.push (seqObj "list" #[] 0)).update s.heap.objs.size (Obj.mapSeq (·++vs.toArray))).push (seqObj "list" vs.toArray 0) };rw[hsz];refine oAa (wpAny_holding (wpAny_call_entry slot_list_sort ⟨_,hoN,rfl⟩ entry_list_sort (Zd0 (κ:=κ) (dom:=dom) (r:=r) hoN hv hdm (hB _ fun b o q=>?_) fun out a1 a2=>⟨_,rfl,?_⟩) (args_list_sort _)))
 ·have hb:b<s.heap.objs.size:=oAf q;rw[Heap.get?_push_ne _ _ _ (by rw[hsz];exact oAp (lt_succ_of_lt hb)),Heap.get?_update_ne _ _ _ _ (oAp hb),Heap.get?_push_ne _ _ _ (oAp hb)]
  exact q
 ·exact oAb ⟨_,rfl,hk out a1 a2⟩
end TS
namespace TS
open PySem PySem.W PyProof.Rows
noncomputable def sLt(x y:Str):Bool:=decide (x.cps.toList<y.cps.toList)
noncomputable def lexB:List Str->List Str->Bool
 |[],[]=>false
 |[],_::_=>true
 |_::_,[]=>false
 |x::xs,y::ys=>if x=y then lexB xs ys else sLt x y
theorem zT(x:Str):sLt x x=false:=oAh (List.lt_irrefl _)
theorem V1{x y z:Str}(h:sLt x y=true)(g:sLt y z=true):sLt x z=true:=oAi (List.lt_trans (oAj h) (oAj g))
theorem JT{x y:Str}(h:sLt x y=false)(g:sLt y x=false):x=y:=by
 have h:=of_decide_eq_false h;have g:=of_decide_eq_false g;have e:x.cps.toList=y.cps.toList:=List.le_antisymm (List.not_lt.1 g) (List.not_lt.1 h);cases x;cases y
 congr 1
 exact Array.toList_inj.1 e
theorem U6:∀ l,lexB l l=false
 |[]=>rfl
 |x::l=>by rw[lexB,if_pos rfl,U6 l]
theorem JU:∀ {a b c:List Str},lexB a b=true->lexB b c=true->lexB a c=true
 |[],[],_,h,_=>nomatch h
 |[],_::_,[],_,g=>nomatch g
 |[],_::_,_::_,_,_=>rfl
 |_::_,[],_,h,_=>nomatch h
 |_::_,_::_,[],_,g=>nomatch g
 | x::xs,y::ys,z::zs,h,g=>by
  rw[lexB] at h g ⊢;by_cases e1:x=y
  ·subst e1;rw[if_pos rfl] at h;by_cases e2:x=z
   ·subst e2;rw[if_pos rfl] at g ⊢;exact JU h g
   ·rw[if_neg e2] at g ⊢;exact g
  ·rw[if_neg e1] at h;by_cases e2:y=z
   ·subst e2;rw[if_neg e1];exact h
   ·rw[if_neg e2] at g;have:=V1 h g;by_cases e3:x=z
    ·subst e3;rw[zT] at this;cases this
    ·rw[if_neg e3];exact this
theorem U7:∀ {a b:List Str},lexB a b=false->lexB b a=false->a=b
 |[],[],_,_=>rfl
 |[],_::_,h,_=>nomatch h
 |_::_,[],_,g=>nomatch g
 | x::xs,y::ys,h,g=>by
  rw[lexB] at h g;by_cases e:x=y
  ·subst e;rw[if_pos rfl] at h g;rw[U7 h g]
  ·rw[if_neg e] at h;rw[if_neg (fun z=>e z.symm)] at g;exact absurd (JT h g) e
noncomputable def JG(all:List (List Str))(l:List Str):Nat:=all.countP fun m=>lexB m l
theorem qx{α:Type}{p q:α->Bool}:∀ {l:List α},(∀ x∈l,p x=true->q x=true)->(∃ x∈l,p x=false/\q x=true)->l.countP p<l.countP q
 |[],_,⟨x,hx,_⟩=>nomatch hx
 | a::l,h,⟨x,hx,h1,h2⟩=>by
  have hle:l.countP p<=l.countP q:=List.countP_mono_left fun y hy=>h y (oAm _ hy);rw[List.countP_cons,List.countP_cons]
  rcases List.mem_cons.1 hx with rfl | hx
  ·rw[h1,h2];simp;omega
  ·have:=qx (fun y hy=>h y (oAm _ hy)) ⟨x,hx,h1,h2⟩;have ha:=h a (oAn ..);cases hp:p a with
   |false=>simp;omega
   |true=>rw[ha hp];simp;omega
theorem VG{all:List (List Str)}{l m:List Str}(hl:l∈all)(hm:m∈all):JG all l<JG all m↔lexB l m=true:=by
 constructor
 ·intro h;cases q:lexB l m with
  |true=>rfl
  | false=>
   have:JG all m<=JG all l:=by
    refine List.countP_mono_left fun x hx h1=>?_;cases q2:lexB m l with
    |true=>exact JU h1 q2
    |false=>rw[U7 q q2];exact h1
   lia
 ·intro h;exact qx (fun x _ h1=>JU h1 h) ⟨l,hl,U6 l,h⟩
inductive Txs:List Value->List Str->Prop
 |nil:Txs [] []
 |cons {x:Str}{t:Tok}{vs:List Value}{l:List Str}:Txs vs l->Txs (.str x t::vs) (x::l)
def Tx(h:Heap)(v:Value)(l:List Str):Prop:=∃ p o vs n,v=.ref p/\h.get? p=some o/\o.cls=.type "tuple"/\o.data=.seq vs n/\Txs vs.toList l
theorem Txs.one{vs:List Value}{l m:List Str}(h:Txs vs l)(g:Txs vs m):l=m:=by
 induction h generalizing m with
 |nil=>cases g;rfl
 | cons _ ih=>
  cases g with
  |cons g=>rw[ih g]
theorem Txs.len{vs:List Value}{l:List Str}(h:Txs vs l):vs.length=l.length:=by
 induction h with
 |nil=>rfl
 |cons _ ih=>rw[length_cons,length_cons,ih]
theorem Tx.one{h:Heap}{v:Value}{l m:List Str}(a:Tx h v l)(b:Tx h v m):l=m:=by
 obtain⟨p,o,vs,n,rfl,h1,h2,h3,h4⟩:=a;obtain⟨p',o',vs',n',e,g1,g2,g3,g4⟩:=b;cases e
 rw[h1] at g1;cases g1
 rw[h3] at g3;cases g3
 exact h4.one g4
open Classical in
noncomputable def rkT(h:Heap)(all:List (List Str))(k:Keyed):Nat:=if q:∃ l,Tx h k.1 l then JG all q.choose else 0
theorem V2{h:Heap}{all:List (List Str)}{k:Keyed}{l:List Str}(t:Tx h k.1 l):rkT h all k=JG all l:=by
 have q:∃ l,Tx h k.1 l:=⟨l,t⟩;unfold rkT;rw[dif_pos q,q.choose_spec.one t]
variable {prog:Program}{w:World}{A:Around}{E:zVP}{s:Shared}
theorem zU{Q:Bool->Shared->Prop}{fin:Bool}:∀ {xs ys:List Value}{l m:List Str} (i:Nat),Txs xs l->Txs ys m->fin=decide (l.length<m.length)->Q (lexB l m) s->KatLex prog w A true fin Q (xs.zip ys) i s
 | [],[],_,_,i,.nil,.nil,hf,hq=>by
  refine kat_nil ?_;rw[hf];exact hq
 | [],_::_,_,_,i,.nil,.cons b,hf,hq=>by
  refine kat_nil ?_;rw[hf];rw[lexB] at hq;rw[oAi (by simp)];exact hq
 | _::_,[],_,_,i,.cons a,.nil,hf,hq=>by
  refine kat_nil ?_;rw[hf];rw[lexB] at hq;rw[oAh (by simp)];exact hq
 | _::_,_::_,_,_,i,@Txs.cons x t xs l a,@Txs.cons y u ys m b,hf,hq=>by
  rw[lexB] at hq;refine kat_cons (wpAny_eqBool_str ?_);by_cases e:x=y
  ·rw[oAi e];rw[if_pos e] at hq;refine kat_yes (zU (i+1) a b ?_ hq);rw[hf,length_cons,length_cons];exact decide_eq_decide.2 (by lia)
  ·rw[oAh e];rw[if_neg e] at hq;refine kat_no ?_;cases i with
   |zero=>exact oneLt_str hq
   | succ i=>
    exact kat_one _ _ (PySem.P.lt_str hq)
theorem ZfG{all:List (List Str)}{h:Heap}(hd:∀ v l,Tx h v l->Tx s.heap v l):Cmp prog w A E s (tuples' true) (fun k=>∃ l∈all,Tx h k.1 l) (rkT h all) where
 lt:=by
  rintro x y Q st ⟨l,hl,tx⟩ ⟨m,hm,ty⟩ hk hq;rw[V2 tx,V2 ty] at hq;have e:decide (JG all l<JG all m)=lexB l m:=by
   cases q:lexB l m with
   |true=>exact oAi ((VG hl hm).mpr q)
   |false=>exact oAh fun z=>by rw[(VG hl hm).mp z] at q;cases q
  rw[e] at hq;obtain⟨p,o,vs,n,e1,h1,h2,h3,h4⟩:=hd _ _ tx;obtain⟨p',o',vs',n',e2,g1,g2,g3,g4⟩:=hd _ _ ty;rw[lt'_eq];refine oAv (wpS_get ?_);rw[hk,e1,e2];refine oAv (wpS_lift (wpAny_attempt (kat_lt h1 h3 g1 g3 (zU 0 h4 g4 ?_ ⟨rfl,?_⟩))))
  ·rw[<- length_toList,<-length_toList,h4.len,g4.len]
  ·exact oAw hq
inductive TxsL(h:Heap):List Value->List (List Str)->Prop
 |nil:TxsL h [] []
 |cons {v:Value}{l:List Str}{vs:List Value}{ls:List (List Str)}:Tx h v l->l≠[]->TxsL h vs ls->TxsL h (v::vs) (l::ls)
theorem TxsL.mono{h h':Heap}{vs:List Value}{ls:List (List Str)}(t:TxsL h vs ls)(k:∀ v l,Tx h v l->Tx h' v l):TxsL h' vs ls:=by
 induction t with
 |nil=>exact .nil
 |cons a b _ ih=>exact .cons (k _ _ a) b ih
theorem TxsL.mem{h:Heap}{vs:List Value}{ls:List (List Str)}(t:TxsL h vs ls):∀ v∈vs,∃ l∈ls,Tx h v l:=by
 induction t with
 |nil=>intro v hv;cases hv
 | cons a b _ ih=>
  intro v hv
  rcases List.mem_cons.1 hv with rfl | hv
  ·exact⟨_,oAn ..,a⟩
  ·obtain⟨l,h1,h2⟩:=ih v hv;exact⟨l,oAm _ h1,h2⟩
theorem TxsL.tups{h:Heap}{vs:List Value}{ls:List (List Str)}(t:TxsL h vs ls):∃ fs,KatTups h vs fs/\fs.length=vs.length/\∀ f∈fs,∃ x u,f=Value.str x u:=by
 induction t with
 |nil=>exact⟨[],KatTups.nil,rfl,fun f hf=>nomatch hf⟩
 | cons a b _ ih=>
  obtain⟨fs,h1,h2,h3⟩:=ih;obtain⟨p,o,xs,n,rfl,g1,g2,g3,g4⟩:=a;generalize he:xs.toList=us at g4;cases g4 with
  |nil=>exact absurd rfl b
  | @cons x u us' l' _=>
   refine⟨.str x u::fs,KatTups.cons g1 g2 g3 ?_ h1,by rw[length_cons,length_cons,h2],fun f hf=>?_⟩
   ·rw[<- Array.getElem?_toList,he];rfl
   ·rcases List.mem_cons.1 hf with rfl | hf
    ·exact⟨x,u,rfl⟩
    ·exact h3 f hf
theorem Tx.keep{h h':Heap}{v:Value}{l:List Str}(t:Tx h v l)(k:∀ p o,h.get? p=some o->o.cls=.type "tuple"->h'.get? p=some o):Tx h' v l:=by
 obtain⟨p,o,vs,n,rfl,h1,h2,h3,h4⟩:=t;exact⟨p,o,vs,n,rfl,k p o h1 h2,h2,h3,h4⟩
theorem TxsL.perm{h:Heap}{vs us:List Value}(p:us.Perm vs):∀ {ls:List (List Str)},TxsL h vs ls->∃ ms,TxsL h us ms/\ms.Perm ls:=by
 induction p with
 |nil=>intro ls t;exact⟨ls,t,.refl _⟩
 | cons x _ ih=>
  intro ls t;cases t with
  | cons a b t=>
   obtain⟨ms,h1,h2⟩:=ih t;exact⟨_,.cons a b h1,h2.cons _⟩
 | swap x y l=>
  intro ls t;cases t with
  | cons a b t=>
   cases t with
   |cons c d t=>exact⟨_,.cons c d (.cons a b t),List.Perm.swap ..⟩
 | trans _ _ ih1 ih2=>
  intro ls t;obtain⟨ms,h1,h2⟩:=ih2 t;obtain⟨ks,g1,g2⟩:=ih1 h1;exact⟨ks,g1,g2.trans h2⟩
theorem TxsL.has{h:Heap}:∀ {out:List Keyed}{ls:List (List Str)},TxsL h (out.map (·.1)) ls->∀ m∈ls,∃ k∈out,Tx h k.1 m
 |[],_,.nil,m,hm=>nomatch hm
 | k::out,_,.cons a b t,m,hm=>by
  rcases List.mem_cons.1 hm with rfl | hm
  ·exact⟨k,oAn ..,a⟩
  ·obtain⟨k3,h3,h4⟩:=t.has m hm;exact⟨k3,oAm _ h3,h4⟩
theorem TxsL.srt{h:Heap}{all:List (List Str)}:∀ {out:List Keyed}{ls:List (List Str)},TxsL h (out.map (·.1)) ls->(∀ l∈ls,l∈all)->Srt (rkT h all) out->ls.Pairwise fun a b=>lexB b a=false
 |[],_,.nil,_,_=>List.Pairwise.nil
 | k::out,_,.cons (l:=l) (ls:=ls) a b t,hm,hs=>by
  have hs:=List.pairwise_cons.1 hs;refine List.pairwise_cons.2 ⟨fun m hml=>?_,t.srt (fun x hx=>hm x (oAm _ hx)) hs.2⟩;have:=t.has m hml;obtain⟨k',hk',tk⟩:=this;have h1:=hs.1 k' hk';unfold Le at h1;rw[V2 a,V2 tk] at h1;cases q:lexB m l with
  |false=>rfl
  | true=>
   have:=(VG (hm m (oAm _ hml)) (hm l (oAn ..))).mpr q;lia
theorem Zbv{l:Addr}{vs:List Value}{ls:List (List Str)}{Q:zVP}(hl:s.heap.IsList l vs.toArray)(hv:vs.length<64)(t:TxsL s.heap vs ls)
  (hk:∀ (out:List Value) (ms:List (List Str)),out.Perm vs->TxsL s.heap out ms->ms.Perm ls->(ms.Pairwise fun a b=>lexB b a=false)->Q (.ref (s.heap.objs.size+1)) { s with heap:=sortedAll s.heap vs out.toArray }) :
  wpAny (model prog w) A (call (.builtin "sorted") [.ref l]) Q E s:=by
 refine Zbu (κ:=tuples' true) (dom:=fun k=>∃ l∈ls,Tx s.heap k.1 l) (r:=rkT s.heap ls) hl hv (fun v hv=>t.mem v hv) (fun s1 k1 A' s2 k2=>?_) (fun out a1 a2=>?_)
 ·have keep:∀ v l,Tx s.heap v l->Tx s2.heap v l:=fun v l q=>q.keep fun p o h1 h2=>by
   refine k2 p o ?_ (k1 p o h1);have:p<s.heap.objs.size:=oAf h1;exact oAp (lt_succ_of_lt this)
  refine⟨fun Q h2 hq=>?_,ZfG keep⟩;obtain⟨fs,f1,f2,f3⟩:=(t.mono keep).tups;refine kat_kind (T:=Value.type "str") f1 (by lia) (fun v hv=>?_) (by decide) hq;obtain⟨x,u,rfl⟩:=f3 v hv;exact .now
 ·have e:∀ k∈out,k.1=k.2:=fun k hk=>by
   have:=(a1.mem_iff).mp hk;obtain⟨v,_,rfl⟩:=List.mem_map.1 this;rfl
  have e2:out.map (·.2)=out.map (·.1):=List.map_congr_left fun k hk=>(e k hk).symm;have p1:(out.map (·.1)).Perm vs:=by
   have:=a1.map (·.1);rw[map_map] at this;have e3:List.map ((·.1) ∘ fun (v:Value)=>(v,v)) vs=vs:=by
    exact(List.map_congr_left (g:=id) fun v _=>rfl).trans (List.map_id vs)
   rwa [e3] at this
  obtain⟨ms,h1,h2⟩:=TxsL.perm p1 t;rw[e2];exact hk _ ms p1 h1 h2 (h1.srt (fun l hl=>h2.mem_iff.1 hl) a2)
end TS
namespace PF
open PySem PySem.Spec PyProof.Rows L2
open PySem PySem.Spec PyProof.Rows L2 PySem.Builtin PySem.Builtin.Str
open PySem PySem.Spec PyProof.Rows L2 TS
inductive Rows(G:Addr->List Str->Prop):List V->List (List Str)->Prop
 |nil:Rows G [] []
 |cons {p:Addr}{l:List Str}{xs:List V}{ls:List (List Str)}:G p l->l≠[]->Rows G xs ls->Rows G (.ref p::xs) (l::ls)
theorem V3:∀ {l:List Str}{us:List Value},Vals (l.map V.str) us->Txs us l
 |[],us,h=>by cases h;exact .nil
 | x::l,us,h=>by
  cases h with
  | cons a t=>
   obtain⟨tk,rfl⟩:=(show ∃ t,_=Value.str x t from a);exact .cons (V3 t)
section
variable {X:Cx}{pins:zPn}{σ:L2.St}{H:Hp}{s:Shared}
theorem VH{G:Addr->List Str->Prop}(hG:∀ p l,G p l->SqT X.K H p (l.map V.str))(I:Inv X pins σ H s):∀ {xs:List V}{ls:List (List Str)}{us:List Value},Rows G xs ls->Vals xs us->TxsL s.heap us ls
 |_,_,us,.nil,h=>by cases h;exact .nil
 | _,_,us,.cons (p:=p) a b t,h=>by
  cases h with
  | cons r h=>
   cases (show _=Value.ref p from r)
   obtain⟨ps,rps,⟨o,ho,hoc,n,hod⟩,hpz⟩:=I.tuple (hG _ _ a);exact .cons ⟨p,o,_,n,rfl,ho,hoc,hod,V3 (by simpa using rps)⟩ b (VH hG I t h)
theorem Zbw{G:Addr->List Str->Prop}{us vs:List Value}(p:us.Perm vs):∀ {xs:List V}{ls:List (List Str)},Rows G xs ls->Vals xs vs->∃ ys ms,ys.Perm xs/\Rows G ys ms/\ms.Perm ls/\Vals ys us:=by
 induction p with
 |nil=>intro xs ls r h;exact⟨xs,ls,.refl _,r,.refl _,h⟩
 | cons x _ ih=>
  intro xs ls r h;cases h with
  | cons a t=>
   cases r with
   | cons b c r=>
    obtain⟨ys,ms,h1,h2,h3,h4⟩:=ih r t;exact⟨_,_,h1.cons _,.cons b c h2,h3.cons _,.cons a h4⟩
 | swap x y l=>
  intro xs ls r h;cases h with
  | cons a t=>
   cases t with
   | cons a' t=>
    cases r with
    | cons b c r=>
     cases r with
     |cons b' c' r=>exact⟨_,_,List.Perm.swap ..,.cons b' c' (.cons b c r),List.Perm.swap ..,.cons a' (.cons a t)⟩
 | trans _ _ ih1 ih2=>
  intro xs ls r h;obtain⟨ys,ms,h1,h2,h3,h4⟩:=ih2 r h;obtain⟨zs,ns,g1,g2,g3,g4⟩:=ih1 h2 h4;exact⟨zs,ns,g1.trans h1,g2,g3.trans h3,g4⟩
theorem zV{h:Heap}:∀ {us:List Value}{ls ms:List (List Str)},TxsL h us ls->TxsL h us ms->ls=ms
 |_,_,_,.nil,.nil=>rfl
 |_,_,_,.cons a _ t,.cons b _ u=>by rw[a.one b,zV t u]
theorem ZaF{a:Addr}{xs:List V}{ls:List (List Str)}{Q:VK}{G:Addr->List Str->Prop}(hG:∀ p l,G p l->SqT X.K H p (l.map V.str))(I:Inv X pins σ H s)(hq:SqL X.K H a xs)(hr:Rows G xs ls)(hz:xs.length<64)
  (q:∀ p ys ms,H p=none->ys.Perm xs->Rows G ys ms->ms.Perm ls->(ms.Pairwise fun a b=>lexB b a=false)->Q (.ref p) (upd H p (.lst ys))) :
  wpAny (model X.prog X.w) X.A (call (.builtin "sorted") [.ref a]) (EP X pins σ Q) X.xe s:=by
 obtain⟨its,rv,pl,_⟩:=I.list hq;have hlen:=rv.length;refine Zbv pl.isList (by lia) (VH hG I hr rv) (fun out ms a1 a2 a3 a4=>?_);obtain⟨ys,ns,h1,h2,h3,h4⟩:=Zbw a1 hr rv;have e:=zV (VH hG I h2 h4) a2;subst e;obtain⟨ep,he⟩:=sortedAll_at s.heap its out.toArray;have hp1:=I.hok.fresh (le_succ s.heap.objs.size);refine⟨.ref _,_,I.laid (a:=s.heap.objs.size+1) (o:=.lst ys) (t':=s.toks) (fun b o e=>sortedAll_old e) (le_succ _) ?_,rfl,q _ ys ns hp1 h1 h2 a3 a4⟩;refine⟨?_,out,ep,h4,by simpa [seqObj] using he⟩;rw[h1.length_eq,sizeLine_eq];lia
end
open PySem PySem.Builtin PySem.Builtin.Str PySem.StrLaws
section
variable {prog:Program}{w:World}{A:Around}{E:zVP}{s:Shared}
theorem zy{P:Fin->Shared->Prop}(ha:s.heap.IsTuple a xs)(hb:s.heap.IsTuple b ys)(tx:TS.Txs xs.toList l)(ty:TS.Txs ys.toList m)
  (h:P (.done (.ret (.bool (TS.lexB l m)))) s):wpAny (model prog w) A (Builtin.«tuple.__lt__» ⟨[.ref a,.ref b],[]⟩) P E s:=by
 obtain⟨oa,hoa,hca,na,hda⟩:=ha;obtain⟨ob,hob,hcb,nb,hdb⟩:=hb;have hTb:s.TypeIs (.ref b) "tuple":=⟨_,hob,hcb⟩;show wpAny _ _ (isInstance (.ref b) (.type "tuple")>>=_) _ _ s;refine oAa (wpAny_isInstance hTb isSubtype_tuple_tuple ?_);simp only[Bool.not_true,false_eq_true,if_false];refine oAa (wpAny_tupleItemsOf hoa hda ?_);refine oAa (wpAny_tupleItemsOf hob hdb ?_);refine oAa ?_;refine wpAny_forIn_list _
  (fun rest r s'=>r.1=none/\s'=s/\∃ l' m' xs' ys',rest=List.zip xs' ys'/\TS.Txs xs' l'/\TS.Txs ys' m'/\TS.lexB l' m'=TS.lexB l m/\decide (xs'.length<ys'.length)=decide (xs.size<ys.size))
  _ ?_ ?_ _ _ ⟨rfl,rfl,l,m,xs.toList,ys.toList,rfl,tx,ty,rfl,by simp⟩
 ·rintro⟨u,v⟩ rest r s' ⟨hr,rfl,l',m',xs',ys',hz,hx',hy',hdec,hlen⟩;cases hx' with
  |nil=>simp at hz
  | @cons x t xs'' l'' hx''=>
   cases hy' with
   |nil=>simp at hz
   | @cons y t2 ys'' m'' hy''=>
    simp only[List.zip_cons_cons,List.cons.injEq,Prod.mk.injEq] at hz;obtain⟨⟨rfl,rfl⟩,rfl⟩:=hz;rw[TS.lexB] at hdec;refine oAa (wpAny_eqBool_str ?_);by_cases hk:x=y
    ·rw[oAi hk];rw[if_pos hk] at hdec;simp only[Bool.not_true,false_eq_true,if_false];refine oAb ⟨rfl,rfl,l'',m'',xs'',ys'',rfl,hx'',hy'',hdec,by simpa using hlen⟩
    ·rw[oAh hk];rw[if_neg hk] at hdec;simp only[Bool.not_false,if_true];rw[<- hdec] at h;refine oAa (wpAny_rule ?_);refine oAa (PySem.P.lt_str ?_);exact oAa (oAb (oAb (oAb h)))
 ·rintro⟨r1,r2⟩ s' ⟨hr,rfl,l',m',xs',ys',hz,hx',hy',hdec,hlen⟩;simp only at hr;subst hr;refine oAb ?_;have hfin:decide (xs.size<ys.size)=TS.lexB l m:=by
   rw[<- hdec,<-hlen];cases hx' with
   | nil=>
    cases hy' with
    |nil=>rfl
    |cons _=>rfl
   | cons _=>
    cases hy' with
    |nil=>rfl
    |cons _=>simp at hz
  show P (.done (.ret (.bool (decide (xs.size<ys.size))))) s';rw[hfin];exact h
theorem ZfH{Q:zVP}(hu:A.units<cLine)(ha:s.heap.IsTuple a xs)(hb:s.heap.IsTuple b ys)(tx:TS.Txs xs.toList l)(ty:TS.Txs ys.toList m)
  (h:Q (.bool (TS.lexB l m)) s):wpAny (model prog w) A (compareOp .Lt (.ref a) (.ref b)) Q E s:=by
 have hTa:s.TypeIs (.ref a) "tuple":=by obtain⟨o,ho,hc,_⟩:=ha;exact⟨o,ho,hc⟩
 have hTb:s.TypeIs (.ref b) "tuple":=by obtain⟨o,ho,hc,_⟩:=hb;exact⟨o,ho,hc⟩
 show wpAny _ _ (richCompare .Lt (.ref a) (.ref b)) _ _ s;exact wpAny_richCompare_same_room (op:=.Lt) hTa hTb F.slot_tuple_lt
   (wpAny_call_entry F.slot_tuple_lt hTa F.entry_tuple_lt (zy ha hb tx ty ⟨_,rfl,(fun e=>nomatch e),h⟩) (F.args_tuple_lt_2 _ _)) hu
end
end PF
namespace L2
open PySem PySem.Spec PyProof.Rows
noncomputable def Its(x:Str):It:=⟨fun i _=>i<x.cps.size,fun i H v H'=>H'=H/\∃ c,x.cps[i]?=some c/\v=.str ⟨#[c]⟩,fun i _=>x.cps.size<=i⟩
theorem qy{P:Program}{w:World}{K:Frag}{tg:Expr}(it:Addr)(T:String)(x:Str)(t:Tok)
  (hT:["enumerate","zip","dict_itemiterator","dict_reverseitemiterator","odict_iterator","itertools.zip_longest","itertools.pairwise"].contains T=false)
  (W:∀ A':Around,A'.handled=none->Walks P w A' it [it] [it] x.cps.size (SignAt x) (fun i h=>h.IsStrIter it T x t i))
  (self:∀ (A:Around) (i:Nat) (s:Shared) (Q:zVP) (E:zVP),s.heap.IsStrIter it T x t i->Q (.ref it) s->wpAny (model P w) A (pyIter (.ref it)) Q E s) :
  Turn P w K tg (Its x) [it] it (fun i h=>h.IsStrIter it T x t i/\i<=x.cps.size) where
 mem:=by simp
 obj:=fun i h st b hb=>by
  have e:b=it:=by simpa using hb
  subst e;obtain⟨⟨o,e,c,d⟩,_⟩:=st;exact⟨o,e,fun v z=>by rw[d] at z;cases z⟩
 keep:=fun i h h' st k=>by
  obtain⟨⟨o,e,r⟩,hi⟩:=st;exact⟨⟨o,k it (by simp) o e,r⟩,hi⟩
 item:=by
  intro X hP hw hK hc i pins s σ H E I hf st hg;subst hP hw hK;obtain⟨f0,f1,f2,f3,f4,f5⟩:=hf it (by simp);refine(W _ (I.ok.hd hc)).item i s _ _ hg st.1 fun v h' tk hv st' kk=>?_;obtain⟨c,u,hc',rfl⟩:=hv;have I1:Inv X pins σ H { s with heap:=h',toks:=tk }:=I.turned (fun b o hb e=>kk b o (by simpa using hb) e) f0 f1 f3 f4 f5;obtain⟨o,e,c',d⟩:=id st';exact⟨_,rfl,VR (s:={ s with heap:=h',toks:=tk }) e c' d hT ⟨.str ⟨#[c]⟩,H,I1,⟨u,rfl⟩,⟨rfl,c,hc',rfl⟩,⟨st',hg⟩,fun b hb=>(hf b hb).1⟩⟩
 done:=by
  intro X hP hw hK hc i pins s σ H E I hf st hg;subst hP hw hK;obtain⟨f0,f1,f2,f3,f4,f5⟩:=hf it (by simp);have e:i=x.cps.size:=Nat.le_antisymm st.2 hg;subst e;exact(W _ (I.ok.hd hc)).done s _ _ st.1 fun h' tk kk=>⟨rfl,I.turned (fun b o hb e=>kk b o (by simpa using hb) e) f0 f1 f3 f4 f5⟩
 self:=fun A i s Q E st h=>self A i s Q E st.1 h
section
variable {X:Cx}{tg:Expr}
theorem ZfI{l:Expr}{tl:TE}(hl:PE X l tl):PI X tg l (fun σ H R=>tl σ H fun x H1=>∃ z,x=.str z/\R (Its z) H1):=by
 intro pins s σ H R I h;refine thn (hl pins s σ H _ I h) fun v s1 ⟨x,H1,I1,r1,q1⟩=>?_;obtain⟨z,e,q⟩:=q1;subst e;obtain⟨t,rfl⟩:=r1;have fp:∀ b∈[s1.heap.objs.size],∀ o:Obj,FpOk X pins H1 b:=fun b hb o=>by
  have e:b=s1.heap.objs.size:=by simpa using hb
  subst e;exact I1.fpOk (oAl _) (I1.hok.fresh (oAl _))
 cases ha:z.cps.all (·<128)
 ·exact wpAny_pyIter_wide ha ⟨s1.heap.objs.size,[s1.heap.objs.size],_,_,H1,rfl,I1.kept (t':=s1.toks) fun b o e=>oAd _ e,qy _ "str_iterator" z t (by decide) (fun A' hA=>Walks.strWide hA _ z t) (fun _ _ _ _ _ st h=>wpAny_pyIter_striter_wide st h),
   ⟨⟨_,oAe _ rfl,rfl,rfl⟩,zero_le _⟩,fun b hb=>fp b hb ⟨.none,none,.cell none,#[]⟩,q⟩
 ·exact wpAny_pyIter_ascii ha ⟨s1.heap.objs.size,[s1.heap.objs.size],_,_,H1,rfl,I1.kept (t':=s1.toks) fun b o e=>oAd _ e,qy _ "str_ascii_iterator" z t (by decide) (fun A' hA=>Walks.strAscii hA _ z t) (fun _ _ _ _ _ st h=>wpAny_pyIter_striter_ascii st h),
   ⟨⟨_,oAe _ rfl,rfl,rfl⟩,zero_le _⟩,fun b hb=>fp b hb ⟨.none,none,.cell none,#[]⟩,q⟩
end
end L2
namespace SX
open PySem PyProof.Rows
abbrev Ents(w:World):List (Int×Value)->List Str->Prop:=Paired fun e z=>∃ t,e=(hashStr w z,Value.str z t)
theorem VI(h:Ents w es zs):es.length=zs.length:=Paired.length h
theorem VJ{w:World}:∀ {es:List (Int×Value)}{zs:List Str},Ents w es zs->∀ e∈es,∃ z∈zs,∃ t,e=(hashStr w z,Value.str z t)
 |_,_,.nil,e,he=>nomatch he
 | _,_,.cons r t,e,he=>by
  rcases List.mem_cons.1 he with rfl | he
  ·exact⟨_,oAn ..,r⟩
  ·obtain⟨z,h1,h2⟩:=VJ t e he;exact⟨z,oAm _ h1,h2⟩
theorem qz{w:World}:∀ {es:List (Int×Value)}{zs:List Str},Ents w es zs->∀ z∈zs,∃ e∈es,∃ t,e=(hashStr w z,Value.str z t)
 |_,_,.nil,e,he=>nomatch he
 | _,_,.cons r t,e,he=>by
  rcases List.mem_cons.1 he with rfl | he
  ·exact⟨_,oAn ..,r⟩
  ·obtain⟨z,h1,h2⟩:=qz t e he;exact⟨z,oAm _ h1,h2⟩
theorem JH{w:World}{l l':List (Int×Value)}(p:l'.Perm l):∀ {zs:List Str},Ents w l zs->∃ ys,Ents w l' ys/\ys.Perm zs:=by
 induction p with
 |nil=>intro zs t;exact⟨zs,t,.refl _⟩
 |cons x _ ih=>intro zs t;cases t with | cons a t=>obtain⟨ms,h1,h2⟩:=ih t;exact⟨_,.cons a h1,h2.cons _⟩
 |swap x y l=>intro zs t;cases t with | cons a t=>cases t with | cons b t=>exact⟨_,.cons b (.cons a t),List.Perm.swap ..⟩
 |trans _ _ ih1 ih2=>intro zs t;obtain⟨ms,h1,h2⟩:=ih2 t;obtain⟨ks,g1,g2⟩:=ih1 h1;exact⟨ks,g1,g2.trans h2⟩
theorem qA{w:World}:∀ {es:List (Int×Value)}{zs:List Str}{x:Str}{t:Tok},Ents w es zs->Ents w (es++[(hashStr w x,Value.str x t)]) (zs++[x])
 |_,_,_,t,.nil=>.cons ⟨t,rfl⟩ .nil
 |_,_,_,_,.cons r q=>.cons r (qA q)
def Yw(w:World)(h:Heap)(a:Addr)(zs:List Str):Prop:=∃ o es ep t,h.get? a=some o/\o.ExactSet/\o.data=.set es ep t/\t.fits es.size=true/\(es.size≠0->t.plain=false)/\∃ ys,Ents w es.toList ys/\ys.Perm zs
section
variable {prog:Program}{w:World}{A:Around}{E:zVP}{s:Shared}
theorem str_is(z:Str)(t:Tok):(PySem.strKind prog w).is z (.str z t)=true:=by show Value.isStrOf z (.str z t)=true;simp[Value.isStrOf]
theorem Zcw{es:List (Int×Value)}{zs:List Str}(h:Ents w es zs):ElemsOf (PySem.strKind prog w) es:=fun e he=>by
 obtain⟨z,_,t,rfl⟩:=VJ h e he;exact⟨⟨z,str_is z t,rfl⟩,rfl⟩
theorem zz(es:Array (Int×Value))(n:Nat)(h:t.plain=false):(relayAll t es n).2.1.plain=false:=by
 unfold relayAll;split
 ·rename_i t' order e;dsimp only;split
  ·unfold SetTable.relaid SetTable.laid at e;cases hq:SetTable.layClean (SetTable.sizeAbove n - 1) (es.map (·.1)) with
   |none=>rw[hq] at e;cases e
   |some ow=>rw[hq] at e;cases e;exact h
  ·rfl
 ·rfl
theorem qB{Q:Unit->Shared->Prop}(ho:s.heap.get? a=some o)(hx:o.ExactSet)(hd:o.data=.set es ep t)(hb:es'.size<scanBound)
  (h:∀ h',SameBut a s.heap h'->h'.get? a=some { o with data:=.set es' (ep+1) t' }->Q () { s with heap:=h' }):wpAny (model prog w) A (storeSet a es' t') Q E s:=by
 refine wpAny_storeSet_of ho hd (h _ (Heap.SameBut.update ..) ?_) (fits_of_scanBound hb);have g:=get?_update_self (Obj.putSet es' t') ho (by rw[putSet_of es' t' hd];rfl)
 rwa [putSet_of es' t' hd] at g
theorem ZfJ{a:Addr}{zs:List Str}{x:Str}{tk:Tok}{Q:Bool->Shared->Prop}(hS:Yw w s.heap a zs)(hr:zs.length+1<scanBound)
  (h:∀ h' b,SameBut a s.heap h'->Yw w h' a (if x∈zs then zs else zs++[x])->Q b { s with heap:=h' }):wpAny (model prog w) A (setAddHashed a (.str x tk) (hashStr w x)) Q E s:=by
 obtain⟨o,es,ep,t,ho,hx,hd,hf,hpl,ys,he,hp⟩:=id hS;have hel:=Zcw (prog:=prog) he;have hsz:es.size=zs.length:=by rw[<- length_toList,VI he,hp.length_eq]
 have hk:(PySem.strKind prog w).is x (.str x tk)=true:=str_is x tk;unfold setAddHashed setAddHashedIn;refine wpAny_holding (oAa (wpAny_setState_of ho hd hf ?_));dsimp only
 rw[byScan_of (knd:=PySem.strKind prog w) rfl (by lia) hel];simp only[↓reduceIte]
 unfold setAddByScan;refine oAa (oAa (wpAny_rule (oAa (wpAny_setScan_of (knd:=PySem.strKind prog w) hk ho hd hf hel ?_))));have hiff:∀ e∈es.toList,(PySem.strKind prog w).is x e.2=true->x∈zs:=fun e hm q=>by
  obtain⟨z,hz,t,rfl⟩:=VJ he e hm;have:x=z:=by
   have q':Value.isStrOf x (Value.str z t)=true:=q;obtain⟨u,e⟩:=Value.isStrOf_shape q';injection e with e1;exact e1.symm
  subst this;exact hp.mem_iff.1 hz
 cases hi:List.findIdx? (fun e=>(PySem.strKind prog w).is x e.2) es.toList with
 | some j=>
  dsimp only;obtain⟨hj,hpj,_⟩:=List.findIdx?_eq_some_iff_getElem.1 hi;have hm:x∈zs:=hiff _ (getElem_mem hj) hpj;rw[if_pos hm] at h;have:=h s.heap false (Heap.SameBut.refl a s.heap) hS;exact oAb (oAb this)
 | none=>
  dsimp only;have hm:x∉zs:=fun hm=>by
   obtain⟨e,h1,t,rfl⟩:=qz he x (hp.mem_iff.2 hm);have:=List.findIdx?_eq_none_iff.1 hi _ h1;rw[str_is] at this;cases this
  rw[if_neg hm] at h;have hq:=layNew_perm t es (hashStr w x) (Value.str x tk);have hg:=layNew_fits t es (hashStr w x) (Value.str x tk);show wpAny (model prog w) A (_>>=_) _ _ _;change wpAny (model prog w) A (match layNew t es (hashStr w x) (Value.str x tk) with | (es,t,wasDummy,gave)=>_) _ _ _;generalize layNew t es (hashStr w x) (Value.str x tk)=L at hq hg ⊢;obtain⟨es1,t1,wd,gv⟩:=L;dsimp only at hq hg ⊢;rw[Array.toList_push] at hq;obtain⟨ks,k1,k2⟩:=JH hq (qA (x:=x) (t:=tk) he);have k3:=k2.trans (hp.append (List.Perm.refl [x]));have z1:es1.size=zs.length+1:=by rw[<- length_toList,VI k1,k3.length_eq,length_append];rfl
  refine oAa ?_;have gw:∀ (b:Bool) (s₁:Shared) (Q':Unit->Shared->Prop),Q' () s₁->wpAny (model prog w) A (match b with | true=>rule "set.scan.the-table-gave-way" | false=>pure ()) Q' E s₁:=fun b s₁ Q' q=>by
   cases b
   ·exact oAb q
   ·exact wpAny_rule q
  refine gw gv s _ ?_;have tail:∀ t2:SetTable,t2.plain=false->t2.fits es1.size=true->wpAny (model prog w) A (do
    storeSet a es1 t2
    if (!wd&&t2.tooFull)=true then
     let (es,t,gave):=relayAll t2 es1 (SetTable.grown es1.size)
     (match gave with | true=>rule "set.scan.the-table-gave-way" | false=>pure ())
     storeSet a es t
    pure (some true)) (fun r s'=>∃ h',s'={ s with heap:=h' }/\r=some true/\SameBut a s.heap h'/\Yw w h' a (zs++[x])) E s:=fun t2 p2 f2=>by
   refine oAa (qB ho hx hd (by lia) fun h1 b1 g1=>?_);split
   ·have rp:=relayAll_perm t2 es1 (SetTable.grown es1.size);have rf:=relayAll_fits t2 es1 (SetTable.grown es1.size);have rl:=zz es1 (SetTable.grown es1.size) p2;generalize relayAll t2 es1 (SetTable.grown es1.size)=R at rp rf rl ⊢;obtain⟨es2,t3,g2⟩:=R;dsimp only at rp rf rl ⊢;obtain⟨ls,l1,l2⟩:=JH rp k1;have z2:es2.size=es1.size:=by rw[<- length_toList,rp.length_eq,length_toList]
    refine oAa (gw g2 _ _ (oAa ?_));refine qB (s:={ s with heap:=h1 }) g1 hx rfl (by lia) fun h2 b2 g2=>?_;exact oAb ⟨h2,rfl,rfl,b1.trans b2,_,es2,_,t3,g2,hx,rfl,rf,fun _=>rl,ls,l1,l2.trans k3⟩
   ·exact oAb ⟨h1,rfl,rfl,b1,_,es1,_,t2,g1,hx,rfl,f2,fun _=>p2,ks,k1,k3⟩
  by_cases p1:t1.plain=true
  ·rw[if_pos p1,hashByValue_scannable 8 rfl];refine oAa (oAb ?_);refine oAc (tail { t1 with plain:=false } rfl (SetTable.fits_plain_off hg)) ?_ fun _ _ e=>e;rintro r s' ⟨h',rfl,rfl,b1,T⟩;exact oAb (h h' true b1 T)
  ·rw[if_neg p1];refine oAa (oAb ?_);refine oAc (tail t1 (by simpa using p1) hg) ?_ fun _ _ e=>e;rintro r s' ⟨h',rfl,rfl,b1,T⟩;exact oAb (h h' true b1 T)
end
noncomputable def dd1(acc:List Str)(x:Str):List Str:=if x∈acc then acc else acc++[x]
noncomputable def ddS(xs:List Str):List Str:=xs.foldl dd1 []
theorem Zd1(acc:List Str)(x:Str):(dd1 acc x).length<=acc.length+1:=by unfold dd1;split<;>simp
theorem Yw.at(S:Yw w h a zs)(k:∀ o,h.get? a=some o->h'.get? a=some o):Yw w h' a zs:=by
 obtain⟨o,es,ep,t,ho,r⟩:=S;exact⟨o,es,ep,t,k o ho,r⟩
abbrev TxV:List Value->List Str->Prop:=Paired fun v z=>∃ t,v=Value.str z t
section
variable {prog:Program}{w:World}{A:Around}{E:zVP}{s:Shared}
theorem Zbx:∀ {vs:List Value}{xs:List Str},TxV vs xs->∀ (i:Nat) (v:Value),vs[i]?=some v->∃ x t,xs[i]?=some x/\v=.str x t
 |_,_,.nil,i,v,h=>by simp at h
 |_,_,.cons ⟨t,e⟩ q,0,v,h=>by simp at h;subst h;exact⟨_,t,rfl,e⟩
 | _,_,.cons r q,i+1,v,h=>by
  simp only[List.getElem?_cons_succ] at h ⊢;exact Zbx q i v h
theorem Zcx{S I l:Addr}{items:List Value}{xs:List Str}{R:Result->Shared->Prop}(hh:A.handled=none)(hne:l≠I)(hSf:S∉[I,l])(hi:TxV items xs)(hb:items.length+1<scanBound) :
  ∀ (k i:Nat) (s:Shared) (acc:List Str),items.length - i=k->i<=items.length->acc.length<=i->s.heap.IsListIter I l i/\s.heap.IsList l items.toArray->Yw w s.heap S acc ->
   (∀ s',Moved [S,I] (fun a b=>b=a) s s'->Yw w s'.heap S ((xs.drop i).foldl dd1 acc)->R (.ok (.ret .none)) s')->codeAny (model prog w) A (.builtin "set.update.loop" ⟨[.ref S,.ref I],[]⟩) R s:=by
 have W:=(Walks.list (prog:=prog) (w:=w) (A:=A.in1) (by simpa using hh) I l hne items.toArray).toS;have hlx:items.length=xs.length:=Paired.length hi;have hS1:S∉[I]:=fun h=>hSf (by simp at h;simp[h])
 have hsb:∀ b∈[I],b∈[S,I]:=fun b hb=>by simp at hb;simp[hb]
 intro k
 induction k with
 | zero=>
  intro i s acc hk hle ha st T hR;have e:i=items.length:=by lia
  refine codeAny_builtin F.entry_set_update_loop ?_;rw[Around.under_plainId F.plain_set_update_loop _]
  show wpAny (model prog w) A.in1 (pyNext (.ref I)>>=_) _ _ s;refine oAa (W.done s _ _ (by rw[e] at st;simpa using st) fun s' hm=>?_)
  show wpAny _ A.in1 (ret Value.none) _ _ _;refine oAb (hR _ (hm.mono hsb) ?_);rw[e,hlx,List.drop_length];exact T.at fun o e=>hm.heap S o hS1 e
 | succ k ih=>
  intro i s acc hk hle ha st T hR;have hlt:i<items.length:=by lia
  refine codeAny_builtin F.entry_set_update_loop ?_;rw[Around.under_plainId F.plain_set_update_loop _]
  show wpAny (model prog w) A.in1 (pyNext (.ref I)>>=_) _ _ s;refine oAa (W.item i s _ _ (by simpa using hlt) st fun v s' hv st' hm=>?_);obtain⟨x,t,hx,rfl⟩:=Zbx hi i v (by simpa using hv);show wpAny _ A.in1 (holding [Value.str x t] (setAdd S (.str x t))>>=_) _ _ _;refine oAa (wpAny_holding ?_);unfold setAdd
  refine wpAny_holding (oAa ((PySem.strKind prog w).pyHash (k:=x) (str_is x t) ?_));refine ZfJ (zs:=acc) (s:={ s' with toks:=s'.toks+1 }) (T.at fun o e=>hm.heap S o hS1 e) (by lia) fun h2 b sb T2=>?_;have hd:xs.drop i=x::xs.drop (i+1):=by
   have hk2:i<xs.length:=by lia
   rw[List.drop_eq_getElem_cons hk2];congr 1
   rw[oAt hk2] at hx;exact oAk hx
  have keep:∀ c o,c≠S->s'.heap.get? c=some o->h2.get? c=some o:=fun c o hc e=>(sb.2 c hc).trans e;refine oAb ⟨plainId_quiet F.plain_set_update_loop _,ih (i+1) _ (dd1 acc x) (by lia) hlt (by have:=Zd1 acc x;lia) ?_ T2 fun s'' hm2 T3=>hR s'' ?_ ?_⟩
  ·exact⟨st'.1.at fun o e=>keep I o (fun z=>hSf (by simp[z])) e,st'.2.at fun o e=>keep l o (fun z=>hSf (by simp[z])) e⟩
  ·exact Moved.trans (fun a b c x y=>y.trans x) ((hm.mono hsb).then_heap (le_succ _) fun c o hc e=>keep c o (fun z=>hc (by simp[z])) e) hm2
  ·rw[hd];exact T3
theorem ZfK{Q:zVP}(hh:A.handled=none)(hl:s.heap.IsList l items.toArray)(hi:TxV items xs)(hb:items.length+1<scanBound)
  (h:∀ (h':Heap) (tk:Nat),Yw w h' s.heap.objs.size (ddS xs)->(∀ b o,b<s.heap.objs.size->s.heap.get? b=some o->h'.get? b=some o)->Q (.ref s.heap.objs.size) { s with heap:=h',toks:=tk }) :
  wpAny (model prog w) A (call (.type "set") [.ref l]) Q E s:=by
 obtain⟨c,tl,hmro⟩:=F.called_set.mro;have hmade:=F.called_set.made;have hsub:=F.called_set.sub
 refine wpAny_call (codeAny_of_tree ?_);show wpAny _ _ (callAny (.type "set") _) _ _ _
 refine oAb ⟨Code.quiet_builtin _ (by decide +kernel),codeAny_builtin F.entry_type_call ?_⟩;rw[Around.under_plain (weight_type_call_type "set" [.ref l] []) rfl]
 have h1:=F.called_set.notType;have h2:=F.called_set.canCreate;have hct:=F.typeCall_set_1 (.ref l)
 repeat (any_goals (first | assumption | wp_step))
 let N:Bool->Obj:=fun led=>{ cls:=.type "set",dict:=none,data:=.set #[] 0 (.fresh 0 0 led) }
 refine codeAny_mono (code_set_new_1 (.ref l) (E:=E) (Q₁:=fun obj s₁=>∃ led,obj=.ref s.heap.objs.size/\s₁={ s with heap:=s.heap.push (N led) }) fun led=>⟨led,rfl,rfl⟩) fun r s₁ hr=>?_
 rcases r with e | fl
 ·exact hr
 cases fl with
 | ret obj=>
  obtain⟨led,rfl,rfl⟩:=hr;have hS:(s.heap.push (N led)).get? s.heap.objs.size=some (N led):=oAe _ rfl;have hT:Shared.TypeIs { s with heap:=s.heap.push (N led) } (.ref s.heap.objs.size) "set":=⟨_,hS,rfl⟩;have hli:=F.called_set.init.lookup;have hbi:=F.called_set.init.bind (.ref s.heap.objs.size)
  repeat (any_goals (first | assumption | wp_step))
  refine codeAny_mono (codeAny_call_builtin (R:=wants (fun r s₂=>r=.none/\∃ h' tk,s₂={ s with heap:=h',toks:=tk }/\Yw w h' s.heap.objs.size (ddS xs)/\(∀ b o,b<s.heap.objs.size->s.heap.get? b=some o->h'.get? b=some o)) E) F.called_set.init.plain F.entry_set_init (check_set_init_1 hT ?_)) fun r₂ s₂ hr₂=>?_
  ·obtain⟨ol,hol,hcl,nl,hdl⟩:=hl;obtain⟨ocls,odict,odata,oslots⟩:=ol;simp only at hcl hdl;subst hcl;subst hdl
   have hol':(s.heap.push (N led)).get? l=some { cls:=.type "list",dict:=odict,data:=.seq items.toArray nl,slots:=oslots }:=oAd _ hol;have hsls:=F.sub_list_set;have hslf:=F.sub_list_frozenset
   have hne:(Value.type "list"==Value.type "dict")=false:=by decide
   have hl1:(s.heap.push (N led)).IsList l items.toArray:=⟨_,hol',rfl,nl,rfl⟩;unfold Builtin.«set.__init__» noKeywords Builtin.Frozenset.updateFrom;generalize hPI:pyIter=PI
   wp_walk
   subst hPI;refine wpAny_pyIter_list hl1 ?_;refine oAa (wpAny_runValue ?_);have hlS:l<s.heap.objs.size:=oAf hol;have z1:(s.heap.push (N led)).objs.size=s.heap.objs.size+1:=size_push ..;have hneI:l≠(s.heap.push (N led)).objs.size:=fun e=>by rw[z1] at e;rw[e] at hlS;exact absurd hlS (Nat.not_lt.2 (le_succ _))
   have hSf:s.heap.objs.size∉[(s.heap.push (N led)).objs.size,l]:=by
    rw[z1];intro z
    rcases List.mem_cons.1 z with e | e
    ·exact absurd e (oAp (oAs _))
    ·rw[<- List.mem_singleton.1 e] at hlS;exact absurd hlS (oAr _)
   refine Zcx (by simp[hh]) hneI hSf hi hb items.length 0 _ [] (by lia) (zero_le _) (oAl _) ⟨⟨_,oAe _ rfl,rfl,rfl⟩,hl1.push _⟩ ?_ ?_
   ·exact⟨_,#[],0,.fresh 0 0 led,oAd _ hS,⟨rfl,rfl,rfl⟩,rfl,rfl,fun z=>absurd rfl z,[],.nil,.refl _⟩
   ·intro s' hm T;obtain⟨h',g',d',tk',os'⟩:=s';have eg:g'=s.gens:=hm.gens;have ed:d'=s.drawn:=hm.drawn;have eo:os'=s.os:=hm.os
    subst eg;subst ed;subst eo
    show wpAny _ _ _ _ _ _;refine oAb ?_;show wpAny _ _ (ret Value.none) _ _ _;refine oAb ⟨rfl,h',tk',rfl,T,fun b o hb e=>hm.heap b o ?_ (oAd _ (oAd _ e))⟩;rw[z1];intro z
    rcases List.mem_cons.1 z with e | e
    ·rw[e] at hb;exact absurd hb (oAr _)
    ·rw[List.mem_singleton.1 e] at hb;exact absurd hb (Nat.not_lt.2 (le_succ _))
  ·rcases r₂ with e | fl₂
   ·exact hr₂
   cases fl₂ with
   | ret r=>
    obtain⟨rfl,h',tk,rfl,hS',hk'⟩:=hr₂
    repeat (any_goals (first | assumption | wp_step))
    exact h _ _ hS' hk'
   |_=>exact hr₂.elim
 |_=>exact hr.elim
end
theorem slot_next:Slot "set_iterator" "__next__" "set_iterator.__next__":=Slot.of (owner:="set_iterator") (n:="__next__") (by rw[typeLookup_type,builtinLookup_eq_fast];kernel_rfl) (by decide +kernel) (by decide +kernel) (by decide +kernel) (.inl (by decide +kernel)) (by rw[isSubtype_type];kernel_rfl)
theorem entry_next:entryFor table "set_iterator.__next__"=some Builtin.«set_iterator.__next__»:=entryFor_of_fast (by kernel_rfl)
theorem args_next(a:Value):argsOk "set_iterator.__next__" ⟨[a],[]⟩:=by unfold argsOk;kernel_rfl
theorem ZaG:entryFor table "set.__iter__"=some Builtin.«frozenset.__iter__»:=entryFor_alias (id':="frozenset.__iter__") (by kernel_rfl) rfl (by decide +kernel) (by kernel_rfl)
noncomputable abbrev YJ(S:Addr)(n ep:Nat)(f:Value)(i:Nat):Obj:={ cls:=.type "set_iterator",data:=.fields #[f,.int i 0,.ref S,.int n 0,.int ep 0] }
section
variable {prog:Program}{w:World}{A:Around}{E:zVP}{s:Shared}
theorem Zby{Q:Nat->Shared->Prop}(hn:n≠0)(h:∀ i d,i<n->Q i { s with drawn:=d }):wpAny (model prog w) A (choose src n) Q E s:=fun Γ p _=>by
 unfold choose;rw[Sem.wp_choose]
 exact⟨hn,h _ _ (Nat.mod_lt _ (Nat.pos_of_ne_zero hn))⟩
theorem Ul{α:Type}:∀ (xs:List α) (i:Nat) (h:i<xs.length),(xs[i]::xs.eraseIdx i).Perm xs
 |x::xs,0,_=>.refl _
 |x::xs,i+1,h=>(List.Perm.swap ..).trans ((Ul xs i (by simpa using h)).cons x)
theorem Zd2{α:Type}(n:Nat):∀ (xs:List α) (s:Shared) (Q:List α->Shared->Prop),xs.length=n->(∀ ys d,ys.Perm xs->Q ys { s with drawn:=d })->wpAny (model prog w) A (drawOrder n xs) Q E s:=by
 induction n with
 | zero=>
  intro xs s Q hl h;cases xs with
  |nil=>unfold drawOrder;exact oAb (h [] s.drawn (.refl _))
  |cons x xs=>cases hl
 | succ n ih=>
  intro xs s Q hl h;cases xs with
  |nil=>cases hl
  | cons x xs=>
   unfold drawOrder;refine oAa (Zby (by simp) fun i d hi=>?_);rw[oAt hi];dsimp only
   refine oAa (ih _ _ _ (by rw[List.length_eraseIdx];simp only[hi,if_true];simp at hl ⊢;omega) fun ys d' p=>?_)
   refine oAb (h _ d' ?_);exact(List.Perm.cons _ p).trans (Ul _ _ hi)
theorem ZaH{I S tp:Addr}{o ot:Obj}{es:Array (Int×Value)}{ep i j nt:Nat}{t:SetTable}{js:List Nat}{e:Int×Value}{Q:Option Value->Shared->Prop}(ho:s.heap.get? S=some o)(hd:o.data=.set es ep t)(hf:t.fits es.size=true)
  (hI:s.heap.get? I=some (YJ S es.size ep (.ref tp) i))(ht:s.heap.get? tp=some ot)(htd:ot.data=.seq (js.map fun (k:Nat)=>rawInt k).toArray nt)(hj:js[i]?=some j)(he:es[j]?=some e)
  (h:∀ h',h'.get? I=some (YJ S es.size ep (.ref tp) (i+1))->SameBut I s.heap h'->Q (some e.2) { s with heap:=h' }):wpAny (model prog w) A (pyNext (.ref I)) Q E s:=by
 have hT:s.TypeIs (.ref I) "set_iterator":=⟨_,hI,rfl⟩;unfold pyNext;refine oAa (wpAny_attempt (wpAny_callSpecial?_slot (name:=Str.ofString "__next__") hT slot_next (wpAny_call_entry slot_next hT entry_next ?_ (args_next _))));unfold Builtin.«set_iterator.__next__»;refine oAa (m:=slotArgs "__next__" 0 _) (oAb ?_);refine oAa (wpAny_fieldsOf hI rfl ?_);refine oAa (wpAny_setEntries_of ho hd hf ?_);rw[if_neg (by simp)];refine oAa (wpAny_seqItems ht htd ?_);have e1:((js.map fun (k:Nat)=>rawInt k).toArray)[i]?=some (rawInt j):=by simp[hj]
 show wpAny _ _ (match ((js.map fun (k:Nat)=>rawInt k).toArray)[((i:Nat):Int).toNat]? with | some (.int place _)=>_ | some _=>_ | none=>_) _ _ _;rw[toNat_natCast,e1];show wpAny _ _ (setNextDrawn S ((j:Nat):Int).toNat ((ep:Nat):Int).toNat>>=_) _ _ _;rw[toNat_natCast,toNat_natCast];refine oAa ?_;unfold setNextDrawn;refine oAa (wpAny_setState_of ho hd hf ?_);dsimp only
 rw[if_neg (by simp),he];refine oAb ?_;refine oAa (wpAny_setField hI rfl (by simp) (oAb ⟨_,rfl,oAb (h _ ?_ (Heap.SameBut.update ..))⟩));exact get?_update_self (Obj.mapFields (·.setIfInBounds 1 (rawInt ((i:Int)+1)))) hI rfl
theorem zW{Q:Option Value->Shared->Prop}(hh:A.handled=none)(hI:s.heap.get? I=some { cls:=.type "set_iterator",data:=.fields vs })(hz:vs.size=5)
  (h:∀ h',ExtBut I s.heap h'->Q none { s with heap:=h' }):wpAny (model prog w) A.in1 (do setField (.ref I) 2 .none;raiseNew (<- newExc (.type "StopIteration") []))
   (fun fin s'=>∃ v,fin=Fin.done (.ret v)/\Q (some v) s') (fun e s'=>wpAny (model prog w) A (do if<-isInstance e (.type "StopIteration") then pure none else throw e) Q E s') s:=by
 refine oAa (wpAny_setField hI rfl (by lia) ?_);refine oAa ?_;simp only[newExc,newTuple];refine oAa (wpAny_newObj_type ?_ (by size_fits));refine oAa (m:=firstArgMember _ _) (wpAny_of_eq (a:=Value.none) (by simp only[firstArgMember];rfl) ?_)
 refine wpAny_newObj_type ?_ (by size_fits);simp only[raiseNew]
 refine oAa (wpAny_handled ?_);rw[show A.in1.handled=none from hh];refine oAa (oAb (wpAny_throw ?_));refine oAa (wpAny_isInstance (T:="StopIteration") (b:=true) ⟨_,oAe _ rfl,rfl⟩ isSubtype_stop ?_);exact oAb (h _ (((Heap.SameBut.update ..).extBut.push _).push _))
theorem Zbz{I S tp:Addr}{o ot:Obj}{es:Array (Int×Value)}{ep i nt:Nat}{t:SetTable}{js:List Nat}{Q:Option Value->Shared->Prop}(hh:A.handled=none)(ho:s.heap.get? S=some o)(hd:o.data=.set es ep t)(hf:t.fits es.size=true)
  (hI:s.heap.get? I=some (YJ S es.size ep (.ref tp) i))(ht:s.heap.get? tp=some ot)(htd:ot.data=.seq (js.map fun (k:Nat)=>rawInt k).toArray nt)(hj:js[i]?=none)
  (h:∀ h',ExtBut I s.heap h'->Q none { s with heap:=h' }):wpAny (model prog w) A (pyNext (.ref I)) Q E s:=by
 have hT:s.TypeIs (.ref I) "set_iterator":=⟨_,hI,rfl⟩;unfold pyNext;refine oAa (wpAny_attempt (wpAny_callSpecial?_slot (name:=Str.ofString "__next__") hT slot_next (wpAny_call_entry slot_next hT entry_next ?_ (args_next _))));unfold Builtin.«set_iterator.__next__»;refine oAa (m:=slotArgs "__next__" 0 _) (oAb ?_);refine oAa (wpAny_fieldsOf hI rfl ?_);refine oAa (wpAny_setEntries_of ho hd hf ?_);rw[if_neg (by simp)];refine oAa (wpAny_seqItems ht htd ?_);have e1:((js.map fun (k:Nat)=>rawInt k).toArray)[i]?=none:=by simpa using hj
 show wpAny _ _ (match ((js.map fun (k:Nat)=>rawInt k).toArray)[((i:Nat):Int).toNat]? with | some (.int place _)=>_ | some _=>_ | none=>_) _ _ _;rw[toNat_natCast,e1];refine oAa (wpAny_setField hI rfl (by simp) ?_);have g:=get?_update_self (Obj.mapFields (·.setIfInBounds 0 (rawInt 0))) hI rfl;refine oAc (zW (Q:=Q) (E:=E) hh g (by simp) fun h' x=>h h' ((Heap.SameBut.update ..).extBut.trans x)) ?_ ?_
 ·rintro fin s' ⟨v,rfl,q⟩;exact⟨v,rfl,oAb q⟩
 ·exact fun e s' q=>q
theorem WG{Q:Option (Value×Nat)->Shared->Prop}(hb:w.params.followText "set-order"=true)(ho:s.heap.get? S=some o)(hd:o.data=.set es ep t)(hf:t.fits es.size=true)
  (h:Q (((pickOrder (w.params.setOrder S ep) es)[i]?).map fun e=>(e.2,sl)) s):wpAny (model prog w) A (setNext S sl i ep) Q E s:=by
 unfold setNext;refine oAa (wpAny_setState_of ho hd hf ?_);dsimp only;unfold setsByText
 refine oAa (oAa (wpAny_askSetting (oAb ?_)));rw[if_pos (show (model prog w).w.params.followText "set-order"=true from hb),if_neg (by simp)];refine oAa ?_;unfold setWalk;refine oAa (wpAny_setState_of ho hd hf ?_);dsimp only;unfold setsByText
 refine oAa (oAa (wpAny_askSetting (oAb ?_)));rw[if_pos (show (model prog w).w.params.followText "set-order"=true from hb)];refine oAa (wpAny_askSetting (oAb (oAb ?_)));exact h
theorem ZbA{Q:Option Value->Shared->Prop}(hb:w.params.followText "set-order"=true)(ho:s.heap.get? S=some o)(hd:o.data=.set es ep t)(hf:t.fits es.size=true)
  (hI:s.heap.get? I=some (YJ S es.size ep (.int 0 0) i))(he:(pickOrder (w.params.setOrder S ep) es)[i]?=some e)
  (h:∀ h',h'.get? I=some (YJ S es.size ep (.int 0 0) (i+1))->SameBut I s.heap h'->Q (some e.2) { s with heap:=h' }):wpAny (model prog w) A (pyNext (.ref I)) Q E s:=by
 have hT:s.TypeIs (.ref I) "set_iterator":=⟨_,hI,rfl⟩;unfold pyNext;refine oAa (wpAny_attempt (wpAny_callSpecial?_slot (name:=Str.ofString "__next__") hT slot_next (wpAny_call_entry slot_next hT entry_next ?_ (args_next _))));unfold Builtin.«set_iterator.__next__»;refine oAa (m:=slotArgs "__next__" 0 _) (oAb ?_);refine oAa (wpAny_fieldsOf hI rfl ?_);refine oAa (wpAny_setEntries_of ho hd hf ?_);rw[if_neg (by simp)];show wpAny _ _ (setNext S ((0:Nat):Int).toNat ((i:Nat):Int).toNat ((ep:Nat):Int).toNat>>=_) _ _ _;rw[toNat_natCast,toNat_natCast,toNat_natCast];refine oAa (WG hb ho hd hf ?_);rw[he];refine oAa (wpAny_setField hI rfl (by simp) ?_);have g:=get?_update_self (Obj.mapFields (·.setIfInBounds 0 (rawInt ((0:Nat):Int)))) hI rfl;refine oAa (wpAny_setField g rfl (by simp) (oAb ⟨_,rfl,oAb (h _ ?_ ((Heap.SameBut.update ..).trans (Heap.SameBut.update ..)))⟩));exact get?_update_self (Obj.mapFields (·.setIfInBounds 1 (rawInt ((i:Int)+1)))) g rfl
theorem Zcy{Q:Option Value->Shared->Prop}(hh:A.handled=none)(hb:w.params.followText "set-order"=true)(ho:s.heap.get? S=some o)(hd:o.data=.set es ep t)(hf:t.fits es.size=true)
  (hI:s.heap.get? I=some (YJ S es.size ep (.int 0 0) i))(he:(pickOrder (w.params.setOrder S ep) es)[i]?=none)
  (h:∀ h',ExtBut I s.heap h'->Q none { s with heap:=h' }):wpAny (model prog w) A (pyNext (.ref I)) Q E s:=by
 have hT:s.TypeIs (.ref I) "set_iterator":=⟨_,hI,rfl⟩;unfold pyNext;refine oAa (wpAny_attempt (wpAny_callSpecial?_slot (name:=Str.ofString "__next__") hT slot_next (wpAny_call_entry slot_next hT entry_next ?_ (args_next _))));unfold Builtin.«set_iterator.__next__»;refine oAa (m:=slotArgs "__next__" 0 _) (oAb ?_);refine oAa (wpAny_fieldsOf hI rfl ?_);refine oAa (wpAny_setEntries_of ho hd hf ?_);rw[if_neg (by simp)];show wpAny _ _ (setNext S ((0:Nat):Int).toNat ((i:Nat):Int).toNat ((ep:Nat):Int).toNat>>=_) _ _ _;rw[toNat_natCast,toNat_natCast,toNat_natCast];refine oAa (WG hb ho hd hf ?_);rw[he];refine oAc (zW (Q:=Q) (E:=E) hh hI (by simp) fun h' x=>h h' x) ?_ ?_
 ·rintro fin s' ⟨v,rfl,q⟩;exact⟨v,rfl,oAb q⟩
 ·exact fun e s' q=>q
end
theorem zX{α:Type}(next:Nat->Nat):∀ (fuel k:Nat) (left:List α) (out:Array α),left.length=fuel->(pickOrder.go next fuel k left out).toList.Perm (out.toList++left)
 |0,k,[],out,_=>by unfold pickOrder.go;simp
 | fuel+1,k,x::left,out,h=>by
  unfold pickOrder.go;have hi:next k % (x::left).length<(x::left).length:=Nat.mod_lt _ (by simp);rw[oAt hi];dsimp only
  refine(zX next fuel (k+1) _ _ ?_).trans ?_
  ·rw[List.length_eraseIdx];simp only[hi,if_true];simp at h ⊢;omega
  ·rw[Array.toList_push,append_assoc];exact(List.Perm.refl _).append (Ul _ _ hi)
theorem JI{α:Type}(next:Nat->Nat)(xs:Array α):(pickOrder next xs).toList.Perm xs.toList:=by
 have:=zX next xs.size 0 xs.toList #[] (by simp);simpa [pickOrder] using this
theorem UJ{w:World}:∀ {es:List (Int×Value)}{ys:List Str},Ents w es ys->TxV (es.map (·.2)) ys
 |_,_,.nil=>.nil
 |_,_,.cons ⟨t,e⟩ q=>.cons ⟨t,by rw[e]⟩ (UJ q)
theorem qC{α:Type}(es:Array α):∀ (js:List Nat),(∀ j∈js,j<es.size)->∀ i:Nat,(js.filterMap (es[·]?))[i]?=(js[i]?).bind (es[·]?)
 |[],_,i=>by simp
 | j::js,h,i=>by
  have hj:es[j]?=some (es[j]'(h j (oAn ..))):=getElem?_eq_getElem _;rw[List.filterMap_cons,hj];cases i with
  |zero=>simp[hj]
  |succ i=>simpa using qC es js (fun k hk=>h k (oAm _ hk)) i
theorem Zh3{α:Type}(es:Array α)(js:List Nat)(h:∀ j∈js,j<es.size)(i:Nat)(hi:i<js.length):∃ e,js[i]?=some js[i]/\es[js[i]]?=some e:=
 ⟨es[js[i]]'(h _ (getElem_mem hi)),oAt hi,getElem?_eq_getElem _⟩
theorem Zcz{α:Type}(es:Array α):(List.range es.size).filterMap (es[·]?)=es.toList:=by
 apply List.ext_getElem?;intro i;rw[qC es _ (fun j hj=>List.mem_range.1 hj) i];by_cases h:i<es.size
 ·rw[List.getElem?_range h];simp
 ·rw[getElem?_eq_none (by simpa using h),getElem?_eq_none (by simpa using h)];rfl
section
variable {prog:Program}{w:World}{A:Around}{E:zVP}{s:Shared}
theorem slot_self:Slot "set_iterator" "__iter__" "set_iterator.__iter__":=Slot.of (owner:="set_iterator") (n:="__iter__") (by rw[typeLookup_type,builtinLookup_eq_fast];kernel_rfl) (by decide +kernel) (by decide +kernel) (by decide +kernel) (.inl (by decide +kernel)) (by rw[isSubtype_type];kernel_rfl)
theorem entry_self:entryFor table "set_iterator.__iter__"=some Builtin.«dict_keyiterator.__iter__»:=entryFor_alias (id':="dict_keyiterator.__iter__") (by kernel_rfl) rfl (by decide +kernel) (by kernel_rfl)
theorem args_self(a:Value):argsOk "set_iterator.__iter__" ⟨[a],[]⟩:=by unfold argsOk;kernel_rfl
theorem zY{Q:zVP}(hI:s.heap.get? I=some (YJ S n ep f i))(h:Q (.ref I) s):wpAny (model prog w) A (pyIter (.ref I)) Q E s:=by
 have hT:s.TypeIs (.ref I) "set_iterator":=⟨_,hI,rfl⟩;refine wpAny_pyIter_slot hT slot_self (wpAny_call_entry slot_self hT entry_self ?_ (args_self _));show wpAny _ _ (ret (.ref I)) _ _ s;exact oAb ⟨_,rfl,"set_iterator",_,hT,slot_next.lookup,h⟩
theorem ZaI(hh:A.handled=none)(hne:S≠I)(hb:w.params.followText "set-order"=true)(hd:o.data=.set es ep t)(hf:t.fits es.size=true) :
  Walks prog w A I [I,S] [I] es.size (fun i v=>((pickOrder (w.params.setOrder S ep) es).toList.map (·.2))[i]?=some v) (fun i h=>h.get? I=some (YJ S es.size ep (.int 0 0) i)/\h.get? S=some o) where
 sub:=fun b hb=>by simp at hb;simp[hb]
 frame:=fun _ _ _ st hk=>⟨hk I (by simp) _ st.1,hk S (by simp) _ st.2⟩
 item:=fun i s Q E hi st hQ=>by
  have hz:(pickOrder (w.params.setOrder S ep) es).size=es.size:=by rw[<- length_toList,(JI _ _).length_eq,length_toList]
  have hg:(pickOrder (w.params.setOrder S ep) es)[i]?=some ((pickOrder (w.params.setOrder S ep) es)[i]'(by lia)):=getElem?_eq_getElem (by lia);refine ZbA hb st.2 hd hf st.1 hg fun h' e1 sb=>hQ _ h' s.toks ?_ ⟨e1,(sb.2 S hne).trans st.2⟩ fun b o hb e=>(sb.2 b (fun z=>hb (by simp[z]))).trans e;simp[hg]
 done:=fun s Q E st hQ=>by
  have hz:(pickOrder (w.params.setOrder S ep) es).size=es.size:=by rw[<- length_toList,(JI _ _).length_eq,length_toList]
  exact Zcy hh hb st.2 hd hf st.1 (Array.getElem?_eq_none (by lia)) fun h' x=>hQ h' s.toks fun b o hb e=>x b o (fun z=>hb (by simp[z])) e
 self:=fun i s Q E st hQ=>zY st.1 hQ
theorem zA{I S tp:Addr}{o ot:Obj}{es:Array (Int×Value)}{ep nt:Nat}{t:SetTable}{js:List Nat}(hh:A.handled=none)(hne:S≠I)(hnt:tp≠I)(hd:o.data=.set es ep t)(hf:t.fits es.size=true)(hp:js.Perm (List.range es.size))
  (htd:ot.data=.seq (js.map fun (k:Nat)=>rawInt k).toArray nt) :
  Walks prog w A I [I,S,tp] [I] es.size (fun i v=>((js.filterMap (es[·]?)).map (·.2))[i]?=some v) (fun i h=>h.get? I=some (YJ S es.size ep (.ref tp) i)/\h.get? S=some o/\h.get? tp=some ot) where
 sub:=fun b hb=>by simp at hb;simp[hb]
 frame:=fun _ _ _ st hk=>⟨hk I (by simp) _ st.1,hk S (by simp) _ st.2.1,hk tp (by simp) _ st.2.2⟩
 item:=fun i s Q E hi st hQ=>by
  have hz:js.length=es.size:=by rw[hp.length_eq,length_range]
  obtain⟨e,h1,h2⟩:=Zh3 es js (fun j hj=>List.mem_range.1 (hp.mem_iff.1 hj)) i (by lia);refine ZaH st.2.1 hd hf st.1 st.2.2 htd h1 h2 fun h' e1 sb=>hQ _ h' s.toks ?_ ⟨e1,(sb.2 S hne).trans st.2.1,(sb.2 tp hnt).trans st.2.2⟩ fun b o hb e=>(sb.2 b (fun z=>hb (by simp[z]))).trans e;rw[getElem?_map,qC es js (fun j hj=>List.mem_range.1 (hp.mem_iff.1 hj)) i,h1];simp[h2]
 done:=fun s Q E st hQ=>by
  have hz:js.length=es.size:=by rw[hp.length_eq,length_range]
  exact Zbz hh st.2.1 hd hf st.1 st.2.2 htd (getElem?_eq_none (by lia)) fun h' x=>hQ h' s.toks fun b o hb e=>x b o (fun z=>hb (by simp[z])) e
 self:=fun i s Q E st hQ=>zY st.1 hQ
theorem Zd3{S:Addr}{zs:List Str}{Q:zVP}(hS:Yw w s.heap S zs)(h2:2<=zs.length)(h4:zs.length<64)
  (h:∀ (I:Addr) (fp:List Addr) (St:Nat->Heap->Prop) (vs:List Value) (ys:List Str) (s':Shared),(∀ A:Around,A.handled=none->Walks prog w A I fp [I] vs.length (fun i v=>vs[i]?=some v) St)->St 0 s'.heap->TxV vs ys->ys.Perm zs ->
   (∀ b o,s.heap.get? b=some o->s'.heap.get? b=some o)->s'.gens=s.gens->s'.os=s.os->s'.toks=s.toks->s.heap.objs.size<=I->I∈fp->(∀ b∈fp,b=S\/s.heap.objs.size<=b)->Q (.ref I) s'):wpAny (model prog w) A (pyIter (.ref S)) Q E s:=by
 obtain⟨o,es,ep,t,ho,hx,hd,hf,hpl,ys,he,hp⟩:=id hS;have hz:es.size=zs.length:=by rw[<- length_toList,VI he,hp.length_eq]
 have hplain:t.plain=false:=hpl (by lia);have hT:s.TypeIs (.ref S) "set":=⟨o,ho,hx.1⟩;have hlt:S<s.heap.objs.size:=oAf ho;refine wpAny_pyIter_slot hT F.slot_set_iter (wpAny_call_entry F.slot_set_iter hT ZaG ?_ (F.args_set_iter_1 _));unfold Builtin.«frozenset.__iter__» Builtin.Frozenset.slot0;refine oAa (oAa (m:=slotArgs "__iter__" 0 _) (oAb ?_));unfold Builtin.Frozenset.addrOf Builtin.Frozenset.sizeOf;refine oAb ?_;refine oAa (oAa (wpAny_setEntries_of ho hd hf (oAb ?_)));unfold setDrawn;refine oAa (oAa (wpAny_setState_of ho hd hf ?_));dsimp only;unfold setsByText
 refine oAa (oAa (wpAny_askSetting (oAb (oAb ?_))));have dr:(!t.plain&&decide (es.size > 1))=true:=by rw[hplain];simp;lia
 show wpAny (model prog w) A.in1 (if (!w.params.followText "set-order"&&(!t.plain&&decide (es.size > 1)))=true then _ else _) _ _ _;cases hb:w.params.followText "set-order" with
 | true=>
  rw[if_neg (by simp)];refine oAa (oAb ?_);refine oAa (wpAny_setEpoch_of ho hd hf ?_);refine oAa (wpAny_newObj_type (oAb ⟨_,rfl,"set_iterator",_,⟨_,oAe _ rfl,rfl⟩,slot_next.lookup,?_⟩) (by size_fits));obtain⟨ks,k1,k2⟩:=JH (JI (w.params.setOrder S ep) es) he;have hl:((pickOrder (w.params.setOrder S ep) es).toList.map (·.2)).length=es.size:=by rw[length_map,(JI _ _).length_eq,length_toList]
  refine h s.heap.objs.size [s.heap.objs.size,S] (fun i h=>h.get? s.heap.objs.size=some (YJ S es.size ep (.int 0 0) i)/\h.get? S=some o) _ ks _ (fun A hh=>by rw[hl];exact ZaI hh (oAp hlt) hb hd hf) ⟨oAe _ rfl,oAd _ ho⟩ (UJ k1) (k2.trans hp) (fun b o e=>oAd _ e) rfl rfl rfl (oAl _) (by simp) (fun b hb=>?_)
  rcases List.mem_cons.1 hb with e | e
  ·exact .inr (le_of_eq e.symm)
  ·exact .inl (List.mem_singleton.1 e)
 | false=>
  rw[dr,if_pos (by rfl)];refine oAa ?_;refine Zd2 es.size _ _ _ (length_range) fun js d pj=>?_;have hjz:js.length=es.size:=by rw[pj.length_eq,length_range]
  refine oAa (wpAny_newTuple ?_ (by rw[length_map,hjz,hz];exact fits_of_scanBound (oAo h4 (by decide))))
  refine oAa (wpAny_setEpoch_of (oAd _ ho) hd hf ?_);refine oAa (wpAny_newObj_type (oAb ⟨_,rfl,"set_iterator",_,⟨_,oAe _ rfl,rfl⟩,slot_next.lookup,?_⟩) (by size_fits));have pe:(js.filterMap (es[·]?)).Perm es.toList:=by rw[<- Zcz es];exact pj.filterMap _
  obtain⟨ks,k1,k2⟩:=JH pe he;have hl:((js.filterMap (es[·]?)).map (·.2)).length=es.size:=by rw[length_map,pe.length_eq,length_toList]
  have z1:(s.heap.push { cls:=.type "tuple",data:=.seq (js.map fun (k:Nat)=>rawInt k).toArray }).objs.size=s.heap.objs.size+1:=size_push ..;refine h (s.heap.push { cls:=.type "tuple",data:=.seq (js.map fun (k:Nat)=>rawInt k).toArray }).objs.size [_,S,s.heap.objs.size] (fun i h=>h.get? _=some (YJ S es.size ep (.ref s.heap.objs.size) i)/\h.get? S=some o/\h.get? s.heap.objs.size=some { cls:=.type "tuple",data:=.seq (js.map fun (k:Nat)=>rawInt k).toArray }) _ ks _ (fun A hh=>by rw[hl];exact zA (nt:=0) hh (by rw[z1];exact oAp (lt_succ_of_lt hlt)) (by rw[z1];exact oAp (oAs _)) hd hf pj rfl) ⟨oAe _ rfl,oAd _ (oAd _ ho),oAd _ (oAe _ rfl)⟩ (UJ k1) (k2.trans hp) (fun b o e=>oAd _ (oAd _ e)) rfl rfl rfl (by rw[z1];exact le_succ _) (by simp) (fun b hb=>?_)
  rcases List.mem_cons.1 hb with e | e
  ·exact .inr (by rw[e,z1];exact le_succ _)
  rcases List.mem_cons.1 e with e | e
  ·exact .inl e
  ·exact .inr (le_of_eq (List.mem_singleton.1 e).symm)
end
section
variable {prog:Program}{w:World}{A:Around}{E:zVP}{s:Shared}
theorem qD:∀ {vs:List Value}{ys:List Str},TxV vs ys->StrsAre vs ys
 |_,_,.nil=>.nil
 |_,_,.cons ⟨t,e⟩ q=>by rw[e];exact .cons _ t (qD q)
theorem qE:∀ {vs:List Value}{ys:List Str},StrsAre vs ys->TxV vs ys
 |_,_,.nil=>.nil
 |_,_,.cons x t q=>.cons ⟨t,rfl⟩ (qE q)
theorem zB{Q:List Value->Shared->Prop}(hh:A.handled=none)(hS:Yw w s.heap S zs)(h2:2<=zs.length)(h4:zs.length<64)
  (h:∀ (vs:List Value) (ys:List Str) (s':Shared),TxV vs ys->ys.Perm zs->(∀ b o,s.heap.get? b=some o->s'.heap.get? b=some o)->s'.gens=s.gens->s'.os=s.os->s.heap.objs.size<=s'.heap.objs.size->Q vs s'):wpAny (model prog w) A (collect (.ref S)) Q E s:=by
 obtain⟨o,es,ep,t,ho,hx,hd,hf,hpl,rest⟩:=id hS
 let N:Obj:={ cls:=.type "list",data:=.seq ([]:List Value).toArray }
 have hlt:S<s.heap.objs.size:=oAf ho;have hN:(s.heap.push N).get? s.heap.objs.size=some N:=oAe _ rfl;have hoN:(s.heap.push N).get? S=some o:=oAd _ ho;have hT:Shared.TypeIs { s with heap:=s.heap.push N } (.ref S) "set":=⟨o,hoN,hx.1⟩;unfold collect;refine oAa (wpAny_runValue (codeAny_builtin F.entry_proto_collect ?_));rw[Around.under_plainId F.plain_proto_collect _]
 show wpAny _ A.in1 (newList []>>=fun l=>again (.builtin "list.__iadd__" ⟨[l,.ref S],[]⟩)) _ _ s;refine oAa (wpAny_newObj_type (oAb ⟨plainId_quiet F.plain_list_iadd _,codeAny_builtin F.entry_list_iadd ?_⟩));rw[Around.under_plainId F.plain_list_iadd _]
 show wpAny (model prog w) A.in1 (Builtin.List.listExtendWith (.ref s.heap.objs.size) (.ref S) (.ref s.heap.objs.size)) _ _ { s with heap:=s.heap.push N };unfold Builtin.List.listExtendWith;refine oAa (wpAny_typeOf hT ?_);have n1:Builtin.List.listSameRef (.ref s.heap.objs.size) (.ref S)=false:=by simp[Builtin.List.listSameRef];exact fun e=>absurd hlt (by rw[e];exact oAr _)
 have n2:(Value.type "set"==Value.type "list")=false:=by decide
 have n3:(Value.type "set"==Value.type "tuple")=false:=by decide
 simp only[n1,n2,n3,Bool.or_false,false_eq_true,if_false];refine oAa (Zd3 (hS.at fun o e=>oAd _ e) h2 h4 fun I fp St vs ys s1 W st tv pv kp gs os tk hI hfi hfp=>?_);have hT1:s1.TypeIs (.ref S) "set":=⟨o,kp _ _ hoN,hx.1⟩;refine oAa (wpAny_holding ?_);unfold Builtin.List.listLengthHint;refine oAa (wpAny_specialOf hT1 F.slot_set_len.lookup ?_)
 wp_delta
 refine oAa (wpAny_isInstance hT1 sub_set_self ?_);show wpAny _ A.in1 (typeOf (Value.ref S)>>=_) _ _ _;refine oAa (wpAny_typeOf hT1 (oAb ?_));show wpAny _ A.in1 (rule "list.extend.makes-room">>=fun _=>Builtin.List.listTouch (.ref s.heap.objs.size)>>=fun _=>again (.builtin "list.extend.loop" ⟨[.ref s.heap.objs.size,.ref I,.ref s.heap.objs.size],[]⟩)) _ _ _;refine oAa (wpAny_rule (oAa ?_));show wpAny _ A.in1 (updateSeq s.heap.objs.size (·.push .none)>>=fun _=>updateSeq s.heap.objs.size (·.pop)) _ _ _;have g1:=kp _ _ hN;refine oAa (wpAny_updateSeq g1 rfl ?_);have g2:=get?_update_self (Obj.mapSeq (·.push Value.none)) g1 rfl;refine wpAny_updateSeq g2 rfl ?_;have g3:=get?_update_self (Obj.mapSeq (·.pop)) g2 rfl;have oth:∀ b o,b≠s.heap.objs.size->s1.heap.get? b=some o->((s1.heap.update s.heap.objs.size (Obj.mapSeq (·.push Value.none))).update s.heap.objs.size (Obj.mapSeq (·.pop))).get? b=some o:=fun b o hb e=>
  (Heap.get?_update_other _ _ (Ne.symm hb)).trans ((Heap.get?_update_other _ _ (Ne.symm hb)).trans e)
 have z1:(s.heap.push N).objs.size=s.heap.objs.size+1:=size_push ..;have hSf:s.heap.objs.size∉fp:=fun hm=>by
  rcases hfp _ hm with e | e
  ·rw[e] at hlt;exact oAr _ hlt
  ·have e:(s.heap.push N).objs.size<=s.heap.objs.size:=e;rw[z1] at e;exact absurd e (Nat.not_le.2 (oAs _))
 have hl:vs.length=zs.length:=by rw[Paired.length tv,pv.length_eq]
 have W1:=(W A.in1 hh).toS;refine oAb ⟨plainId_quiet F.plain_extend_loop _,codeAny_extend_loopS W1 (fits_of_scanBound (oAo (hl ▸ h4) (by decide))) _ hSf _ vs.length 0 _ _ _ rfl (zero_le _) (W1.frame 0 s1 _ s1.toks st (oAl _) fun b hb o e=>oth b o (fun z=>hSf (z ▸ hb)) e) g3 (ItemsOf.nil _) fun s' acc c hm hg hacc=>?_⟩;show wpAny _ A (load s.heap.objs.size>>=_) _ _ s';refine oAa (wpAny_load hg (oAb ?_));have e:acc.toList=vs:=by
  apply List.ext_getElem?;intro i;by_cases hi:i<acc.size
  ·have q:=hacc.2 i acc[i] (getElem?_eq_getElem hi);rw[q];simp[hi]
  ·rw[getElem?_eq_none (by simpa using hi),getElem?_eq_none (by rw[<- hacc.1];lia)]
 rw[e];refine h vs ys s' tv pv (fun b o e=>?_) (hm.gens.trans gs) (hm.os.trans os) (le_of_lt (oAf hg));have hb:b<s.heap.objs.size:=oAf e;refine hm.heap b o (fun z=>?_) (oth b o (oAp hb) (kp b o (oAd _ e)))
 rcases List.mem_cons.1 z with e | e
 ·exact absurd hb (by rw[e];exact oAr _)
 ·rw[List.mem_singleton.1 e] at hb;exact absurd (oAo hb (oAq (le_of_lt (oAo (oAs _) (le_of_eq z1.symm))) hI)) (oAr _)
theorem ZaJ{S:Addr}{zs:List Str}{Q:zVP}(hh:A.handled=none)(hS:Yw w s.heap S zs)(h2:2<=zs.length)(h4:zs.length<64)
  (h:∀ (p:Addr) (e:Nat) (out:List Value) (ms:List Str) (s':Shared),s'.heap.get? p=some (seqObj "list" out.toArray e)->TxV out ms->ms.Perm zs->sortedS ms=true->(∀ b o,s.heap.get? b=some o->s'.heap.get? b=some o)->s'.gens=s.gens->s'.os=s.os->s.heap.objs.size<=p->Q (.ref p) s') :
  wpAny (model prog w) A (call (.builtin "sorted") [.ref S]) Q E s:=by
 refine Calls.call_function_entry kind_sorted plain_sorted entry_sorted (args_sorted1 _) ?_;unfold Builtin.«sorted»
 refine oAa (m:=checkCount "sorted" 1 1 _) (oAb ?_);refine oAa (zB (by simpa using hh) hS h2 h4 fun vs ys s1 tv pv kp gs os sz=>?_);have hl:vs.length=zs.length:=by rw[Paired.length tv,pv.length_eq]
 refine oAa (wpAny_newList ?_ (fits_of_scanBound (oAo (hl ▸ h4) (by decide))));have g1:(s1.heap.push (seqObj "list" vs.toArray 0)).get? s1.heap.objs.size=some (seqObj "list" vs.toArray 0):=oAe _ rfl;have hsa:=qD tv;refine oAa (wpAny_holding (wpAny_call_entry slot_list_sort ⟨_,g1,rfl⟩ entry_list_sort (list_sort_treeK strKind_oneLt g1 hsa.keysOf (fun v₁ v₂ rest e=>keyKind_strs (by rw[<- e];exact hsa)) (by lia) fun st' hp hs=>⟨_,rfl,?_⟩) (args_list_sort _)))
 obtain⟨ms,m1,m2,m3⟩:=sorted_out_str hsa hp hs;obtain⟨e,he⟩:=sortedHeap_at (out:=(arrOf st').map (·.2)) g1;refine oAb ⟨_,rfl,h s1.heap.objs.size e _ ms _ (by rw[Array.toArray_toList];exact he) (qE m1) (m2.trans pv) m3 (fun b o q=>?_) gs os ?_⟩
 ·have hb:=kp b o q;have hlt:b<s1.heap.objs.size:=oAf hb;refine(sortedHeap_old (oAp hlt) ?_).trans (oAd _ hb);rw[size_push'];exact lt_succ_of_lt hlt
 ·exact sz
end
end SX
namespace DI
open PySem PyProof.Rows
section
variable {prog:Program}{w:World}{A:Around}{E:zVP}{s:Shared}
theorem Zd4{Q:Option Value->Shared->Prop}(ho:s.heap.get? d=some o)(hd:o.data=.dict es ep)(hI:s.heap.IsKeyIter it d i es.size ep)(he:es[i]?=some e)
  (h:∀ h',h'.IsKeyIter it d (i+1) es.size ep->SameBut it s.heap h'->Q (some e.key) { s with heap:=h' }):wpAny (model prog w) A (pyNext (.ref it)) Q E s:=by
 have hT:=hI.typeIs;obtain⟨⟨oc,od,oda,osl⟩,hoi,hci,hdi⟩:=id hI;simp only at hci hdi;subst hci hdi;unfold pyNext;refine oAa (wpAny_attempt (wpAny_callSpecial?_slot (name:=Str.ofString "__next__") hT F.slot_dict_keyiterator_next (wpAny_call_entry F.slot_dict_keyiterator_next hT F.entry_dict_keyiterator_next ?_ (F.args_dict_keyiterator_next_1 _))));unfold Builtin.«dict_keyiterator.__next__»;k_delta "nextOfTheView"
 refine oAa (m:=Builtin.Dict_items.slot0 "__next__" _) (oAb ?_);refine oAa ?_;k_delta "place"
 k_delta "base"
 refine oAa (oAa (wpAny_typeNameOfWhole_keyiter hT (oAb ?_)));refine oAa (wpAny_fieldsOf hoi rfl ?_);show wpAny _ _ (if (Value.ref d==Value.none)=true then _ else _) _ _ _;rw[if_neg (show ¬ (Value.ref d==Value.none)=true from fun z=>nomatch (show Value.ref d=Value.none from eq_of_beq z))];refine oAa (m:=Builtin.Dict_items.addrOf (.ref d)) (oAb ?_);refine oAa (wpAny_dictEntries ho hd ?_);dsimp only;rw[if_neg (by simp)];refine oAa (m:=Builtin.Dict_items.addrOf (.ref d)) (oAb ?_);refine oAa (wpAny_dictEpoch ho hd ?_);rw[if_neg (by simp)];refine oAb ?_;show wpAny _ _ (match if ((i:Nat):Int)<0 then none else es[((i:Nat):Int).toNat]? with | some e=>_ | none=>_) _ _ _;rw[if_neg (by omega),toNat_natCast,he];dsimp only;k_delta "base"
 refine oAa (oAa (wpAny_typeNameOfWhole_keyiter hT (oAb ?_)));refine oAa (wpAny_isOneOf_keyiter hT ?_);refine oAa (wpAny_setField hoi rfl (by show 1<4;decide) ?_)
 have hg:(s.heap.update it (Obj.mapFields fun x=>x.setIfInBounds 1 (rawInt ((i:Int)+1)))).IsKeyIter it d (i+1) es.size ep:=⟨_,get?_update_self (Obj.mapFields fun x=>x.setIfInBounds 1 (rawInt ((i:Int)+1))) hoi rfl,rfl,rfl⟩;refine oAa (wpAny_holding ?_);k_delta "pick"
 refine oAa (wpAny_isOneOf_keyiter (s:={ s with heap:=s.heap.update it (Obj.mapFields fun x=>x.setIfInBounds 1 (rawInt ((i:Int)+1))) }) hg.typeIs ?_);rw[if_pos (by decide)];exact oAb (oAb ⟨_,rfl,oAb (h _ hg (Heap.SameBut.update ..))⟩)
theorem ZfL{Q:Option Value->Shared->Prop}(hh:A.handled=none)(ho:s.heap.get? d=some o)(hd:o.data=.dict es ep)(hI:s.heap.IsKeyIter it d i es.size ep)(he:es[i]?=none)
  (h:∀ h',ExtBut it s.heap h'->Q none { s with heap:=h' }):wpAny (model prog w) A (pyNext (.ref it)) Q E s:=by
 have hT:=hI.typeIs;obtain⟨⟨oc,od,oda,osl⟩,hoi,hci,hdi⟩:=id hI;simp only at hci hdi;subst hci hdi;unfold pyNext;refine oAa (wpAny_attempt (wpAny_callSpecial?_slot (name:=Str.ofString "__next__") hT F.slot_dict_keyiterator_next (wpAny_call_entry F.slot_dict_keyiterator_next hT F.entry_dict_keyiterator_next ?_ (F.args_dict_keyiterator_next_1 _))));unfold Builtin.«dict_keyiterator.__next__»;k_delta "nextOfTheView"
 refine oAa (m:=Builtin.Dict_items.slot0 "__next__" _) (oAb ?_);refine oAa ?_;k_delta "place"
 k_delta "base"
 refine oAa (oAa (wpAny_typeNameOfWhole_keyiter hT (oAb ?_)));refine oAa (wpAny_fieldsOf hoi rfl ?_);show wpAny _ _ (if (Value.ref d==Value.none)=true then _ else _) _ _ _;rw[if_neg (show ¬ (Value.ref d==Value.none)=true from fun z=>nomatch (show Value.ref d=Value.none from eq_of_beq z))];refine oAa (m:=Builtin.Dict_items.addrOf (.ref d)) (oAb ?_);refine oAa (wpAny_dictEntries ho hd ?_);dsimp only;rw[if_neg (by simp)];refine oAa (m:=Builtin.Dict_items.addrOf (.ref d)) (oAb ?_);refine oAa (wpAny_dictEpoch ho hd ?_);rw[if_neg (by simp)];refine oAb ?_;show wpAny _ _ (match if ((i:Nat):Int)<0 then none else es[((i:Nat):Int).toNat]? with | some e=>_ | none=>_) _ _ _;rw[if_neg (by lia),toNat_natCast,he];dsimp only;k_delta "base"
 refine oAa (oAa (wpAny_typeNameOfWhole_keyiter hT (oAb ?_)));show wpAny _ _ (setField (.ref it) 0 .none>>=_) _ _ _;refine oAa (wpAny_setField hoi rfl (by show 0<4;decide) ?_)
 refine oAa ?_;simp only[newExc,newTuple];refine oAa (wpAny_newObj_type ?_ (by size_fits));refine oAa (m:=firstArgMember _ _) (wpAny_of_eq (a:=Value.none) (by simp only[firstArgMember];rfl) ?_)
 refine wpAny_newObj_type ?_ (by size_fits);simp only[raiseNew]
 refine oAa (wpAny_handled ?_);rw[show A.in1.handled=none from hh];refine oAa (oAb (wpAny_throw ?_));refine oAa (wpAny_isInstance (T:="StopIteration") (b:=true) ⟨_,oAe _ rfl,rfl⟩ isSubtype_stop ?_);exact oAb (h _ (((Heap.SameBut.update ..).extBut.push _).push _))
theorem Zd5{Q:zVP}(hs:(d==sysModules)=false)(hc:o.ExactDict)(ho:s.heap.get? d=some o)(hd:o.data=.dict es ep)
  (h:Q (.ref s.heap.objs.size) { s with heap:=s.heap.push { cls:=.type "dict_keyiterator",data:=.fields #[.ref d,.int 0 0,.int es.size 0,.int ep 0] } }):wpAny (model prog w) A (pyIter (.ref d)) Q E s:=by
 have hT:s.TypeIs (.ref d) "dict":=⟨o,ho,hc.1⟩;refine wpAny_pyIter_slot hT F.slot_dict_iter (wpAny_call_entry F.slot_dict_iter hT F.entry_dict_iter ?_ (F.args_dict_iter_1 _));unfold Builtin.«dict.__iter__»;unfold Builtin.Dict.dictSlotNone Builtin.Dict.showsAll newFields;refine oAa (oAa ?_);unfold Builtin.Dict.notOrdered;refine oAa (wpAny_typeOf hT ?_);rw[if_neg (by decide)];refine oAb (oAa (m:=slotArgs "__iter__" 0 _) (oAb (oAb ?_)));refine oAa (m:=Builtin.Dict.addrOf (.ref d)) (oAb ?_);rw[if_neg (by rw[hs];exact oAg)]
 refine oAa (oAb (oAa (wpAny_dictEntries ho hd (oAa (wpAny_dictEpoch ho hd ?_)))));exact oAa (wpAny_newObj_type (oAb ⟨_,rfl,"dict_keyiterator",_,⟨_,oAe _ rfl,rfl⟩,F.slot_dict_keyiterator_next.lookup,h⟩))
end
end DI
namespace PF
open PySem PySem.Spec PyProof.Rows L2
inductive BP{α β γ:Type}(x:Option (α×β))(f:α×β->Option γ)(b:γ):Prop
 |mk (a:α) (c:β) (h:x=some (a,c)) (k:f (a,c)=some b)
inductive BO{α γ:Type}(x:Option α)(f:α->Option γ)(b:γ):Prop
 |mk (a:α) (h:x=some a) (k:f a=some b)
inductive BM{α γ:Type}(x:Option α)(f:α->γ)(b:γ):Prop
 |mk (a:α) (h:x=some a) (k:f a=b)
theorem bO{α γ:Type}{x:Option α}{f:α->Option γ}{b:γ}(h:x.bind f=some b):BO x f b:=by
 cases x with
 |none=>cases h
 |some a=>exact⟨a,rfl,h⟩
theorem bP{α β γ:Type}{x:Option (α×β)}{f:α×β->Option γ}{b:γ}(h:x.bind f=some b):BP x f b:=by
 obtain⟨⟨a,c⟩,h,k⟩:=bO h;exact⟨a,c,h,k⟩
theorem bM{α γ:Type}{x:Option α}{f:α->γ}{b:γ}(h:x.map f=some b):BM x f b:=by
 cases x with
 |none=>cases h
 |some a=>cases h;exact⟨a,rfl,rfl⟩
inductive D where
 |non | bl (b:Bool) | int (i:Int) | str (x:Str) | tup (ds:List D) | lst (ds:List D) | ref (n:Nat)
 deriving Inhabited
mutual
noncomputable def D.beq:D->D->Bool
 |.non,.non=>true
 |.bl a,.bl b=>a==b
 |.int a,.int b=>a==b
 |.str a,.str b=>decide (a=b)
 |.tup a,.tup b=>D.beqs a b
 |.lst a,.lst b=>D.beqs a b
 |.ref a,.ref b=>a==b
 |_,_=>false
noncomputable def D.beqs:List D->List D->Bool
 |[],[]=>true
 |a::as,b::bs=>D.beq a b&&D.beqs as bs
 |_,_=>false
end
mutual
theorem D.beq_refl:∀ a:D,D.beq a a=true
 |.non=>by simp[D.beq]
 |.bl _=>by simp[D.beq]
 |.int _=>by simp[D.beq]
 |.str _=>by simp[D.beq]
 |.tup ds=>by simp[D.beq,D.beqs_refl ds]
 |.lst ds=>by simp[D.beq,D.beqs_refl ds]
 |.ref _=>by simp[D.beq]
theorem D.beqs_refl:∀ a:List D,D.beqs a a=true
 |[]=>by simp[D.beqs]
 |a::as=>by simp[D.beqs,D.beq_refl a,D.beqs_refl as]
end
mutual
theorem D.eq_of_beq:∀ {a b:D},D.beq a b=true->a=b
 |.non,b,h=>by cases b<;>simp_all[D.beq]
 |.bl _,b,h=>by cases b<;>simp_all[D.beq]
 |.int _,b,h=>by cases b<;>simp_all[D.beq]
 |.str _,b,h=>by cases b<;>simp_all[D.beq]
 | .tup ds,b,h=>by
  cases b with
  |tup es=>rw[D.beq] at h;rw[D.eq_of_beqs h]
  |_=>simp[D.beq] at h
 | .lst ds,b,h=>by
  cases b with
  |lst es=>rw[D.beq] at h;rw[D.eq_of_beqs h]
  |_=>simp[D.beq] at h
 |.ref _,b,h=>by cases b<;>simp_all[D.beq]
theorem D.eq_of_beqs:∀ {a b:List D},D.beqs a b=true->a=b
 |[],b,h=>by cases b<;>simp_all[D.beqs]
 | a::as,b,h=>by
  cases b with
  |nil=>simp[D.beqs] at h
  | cons b bs=>
   rw[D.beqs,and_eq_true] at h;rw[D.eq_of_beq h.1,D.eq_of_beqs h.2]
end
noncomputable instance:DecidableEq D:=fun a b=>if h:D.beq a b=true then .isTrue (D.eq_of_beq h) else .isFalse fun e=>h (by rw[e];exact D.beq_refl b)
inductive Ob where
 |lst (ds:List D) | dk (kvs:List (Key×D)) | dt (kvs:List (List Key×D)) | dtf (kvs:List (List Key×D)) | ins (C:Str) (fs:List (Str×D))
noncomputable abbrev Sto:=List Ob
noncomputable abbrev En:=List (Option D)
noncomputable abbrev St:=L2.St
section
variable (K:Frag) (mu:List Addr) (H:Hp)
def KL(K:Frag)(a:Addr)(xs:List V):Prop:=
 ∃ (o:Obj) (its:Array Value) (n:Nat),K.lookup a=some o/\o.cls=.type "list"/\o.dict=none/\o.data=.seq its n/\its.size<=sizeLine/\Vals xs its.toList
def KT(K:Frag)(a:Addr)(xs:List V):Prop:=
 ∃ (o:Obj) (its:Array Value) (n:Nat),K.lookup a=some o/\o.cls=.type "tuple"/\o.data=.seq its n/\its.size<=sizeLine/\Vals xs its.toList
mutual
def RD:D->V->Prop
 |.non,v=>v=.non
 |.bl b,v=>v=.bl b
 |.int i,v=>v=.int i
 |.str x,v=>v=.str x
 |.tup ds,v=>∃ a xs,v=.ref a/\((a∉mu/\H a=some (.tup xs))\/(KT K a xs/\ds.length≠3))/\RDs ds xs
 |.lst ds,v=>∃ a xs,v=.ref a/\((a∉mu/\Rd H a (.lst xs))\/KL K a xs)/\RDs ds xs
 |.ref n,v=>∃ a,mu[n]?=some a/\v=.ref a
def RDs:List D->List V->Prop
 |[],xs=>xs=[]
 |d::ds,xs=>∃ x r,xs=x::r/\RD d x/\RDs ds r
end
def RO(a:Addr):Ob->Prop
 |.lst ds=>∃ xs,H a=some (.lst xs)/\RDs K mu H ds xs
 |.dk kvs=>∃ us,H a=some (.dK us)/\us.map (·.1)=kvs.map (·.1)/\RDs K mu H (kvs.map (·.2)) (us.map (·.2))
 |.dt kvs=>∃ us,H a=some (.dT us)/\us.map (·.1)=kvs.map (·.1)/\RDs K mu H (kvs.map (·.2)) (us.map (·.2))
 |.dtf kvs=>∃ o us,H a=some (.frz o (.dT us))/\us.map (·.1)=kvs.map (·.1)/\RDs K mu H (kvs.map (·.2)) (us.map (·.2))
 |.ins C fs=>∃ Ca dx us,H a=some (.ins Ca dx us)/\PySem.W.nsIn K mainGlobals C=some (some (.ref Ca))/\us.map (·.1)=fs.map (·.1)/\RDs K mu H (fs.map (·.2)) (us.map (·.2))
structure WR(S:Sto):Prop where
 len:mu.length=S.length
 nd:mu.Nodup
 ob:∀ (n:Nat) (o:Ob),S[n]?=some o->∃ a,mu[n]?=some a/\RO K mu H a o
structure ER(env:En)(σ:St):Prop where
 len:env.length=σ.length
 get:∀ (i:Nat) (d:D),env[i]?=some (some d)->∃ v,σ[i]?=some (some v)/\RD K mu H d v
end
structure Ext(mu:List Addr)(H:Hp)(mu':List Addr)(H':Hp):Prop where
 more:∃ z,mu'=mu++z
 keep:∀ a o,H a=some o->a∉mu->H' a=some o/\a∉mu'
 frz:∀ a o u,H a=some (.frz o u)->H' a=some (.frz o u)
theorem Ext.refl:Ext mu H mu H:=⟨⟨[],by simp⟩,fun _ _ h n=>⟨h,n⟩,fun _ _ _ h=>h⟩
theorem Ext.trans(a:Ext mu H mu1 H1)(b:Ext mu1 H1 mu2 H2):Ext mu H mu2 H2:=by
 refine⟨?_,fun c o h n=>?_,fun c o u h=>b.frz c o u (a.frz c o u h)⟩
 ·obtain⟨z,rfl⟩:=a.more;obtain⟨z',rfl⟩:=b.more;exact⟨z++z',by simp⟩
 ·obtain⟨h1,n1⟩:=a.keep c o h n;exact b.keep c o h1 n1
theorem Ext.get{mu mu':List Addr}{H H':Hp}(e:Ext mu H mu' H'){n:Nat}{a:Addr}(h:mu[n]?=some a):mu'[n]?=some a:=by
 obtain⟨z,rfl⟩:=e.more;have:n<mu.length:=(List.getElem?_eq_some_iff.1 h).1;rw[getElem?_append_left this];exact h
theorem Ext.rd(e:Ext mu H mu' H')(n:a∉mu)(h:Rd H a u):a∉mu'/\Rd H' a u:=by
 rcases h with h | ⟨o,h⟩
 ·exact⟨(e.keep a _ h n).2,.inl (e.keep a _ h n).1⟩
 ·exact⟨(e.keep a _ h n).2,.inr ⟨o,(e.keep a _ h n).1⟩⟩
section
variable {K:Frag}{mu mu':List Addr}{H H':Hp}
mutual
theorem RD.mono(e:Ext mu H mu' H'):∀ (d:D) (v:V),RD K mu H d v->RD K mu' H' d v
 |.non,v,h=>by dsimp only[RD] at h ⊢;exact h
 |.bl _,v,h=>by dsimp only[RD] at h ⊢;exact h
 |.int _,v,h=>by dsimp only[RD] at h ⊢;exact h
 |.str _,v,h=>by dsimp only[RD] at h ⊢;exact h
 | .tup ds,v,h=>by
  dsimp only[RD] at h ⊢;obtain⟨a,xs,ev,h,hs⟩:=h;refine⟨a,xs,ev,?_,RDs.mono e ds xs hs⟩
  rcases h with ⟨n,h⟩ | h
  ·exact .inl ⟨(e.keep a _ h n).2,(e.keep a _ h n).1⟩
  ·exact .inr h
 | .lst ds,v,h=>by
  dsimp only[RD] at h ⊢;obtain⟨a,xs,ev,h,hs⟩:=h;refine⟨a,xs,ev,?_,RDs.mono e ds xs hs⟩
  rcases h with ⟨n,h⟩ | h
  ·exact .inl (e.rd n h)
  ·exact .inr h
 | .ref n,v,h=>by
  dsimp only[RD] at h ⊢;obtain⟨a,h,ev⟩:=h;exact⟨a,e.get h,ev⟩
theorem RDs.mono(e:Ext mu H mu' H'):∀ (d:List D) (v:List V),RDs K mu H d v->RDs K mu' H' d v
 |[],v,h=>by dsimp only[RDs] at h ⊢;exact h
 | d::ds,v,h=>by
  dsimp only[RDs] at h ⊢;obtain⟨x,r,a,b,c⟩:=h;exact⟨x,r,a,RD.mono e d x b,RDs.mono e ds r c⟩
end
theorem RDs.nil:RDs K mu H [] []:=by dsimp only[RDs]
theorem RDs.cons(h:RD K mu H d x)(t:RDs K mu H ds xs):RDs K mu H (d::ds) (x::xs):=by
 dsimp only[RDs];exact⟨x,xs,rfl,h,t⟩
theorem RDs.cases_cons(h:RDs K mu H (d::ds) xs):∃ x r,xs=x::r/\RD K mu H d x/\RDs K mu H ds r:=by
 dsimp only[RDs] at h;exact h
theorem RDs.cases_nil(h:RDs K mu H [] xs):xs=[]:=by dsimp only[RDs] at h;exact h
theorem RDs.length:∀ {ds:List D}{xs:List V},RDs K mu H ds xs->ds.length=xs.length
 |[],xs,h=>by rw[RDs.cases_nil h];rfl
 | d::ds,xs,h=>by
  obtain⟨x,r,rfl,_,t⟩:=h.cases_cons;simp[RDs.length t]
theorem RDs.get:∀ {ds:List D}{xs:List V}{i:Nat}{d:D},RDs K mu H ds xs->ds[i]?=some d->∃ x,xs[i]?=some x/\RD K mu H d x
 |[],xs,i,d,h,e=>by simp at e
 | d::ds,xs,0,d',h,e=>by
  obtain⟨x,r,rfl,hx,t⟩:=h.cases_cons;simp at e;subst e;exact⟨x,rfl,hx⟩
 | d::ds,xs,i+1,d',h,e=>by
  obtain⟨x,r,rfl,hx,t⟩:=h.cases_cons;obtain⟨y,h1,h2⟩:=RDs.get (i:=i) t (by simpa using e);exact⟨y,by simpa using h1,h2⟩
theorem RDs.set:∀ {ds:List D}{xs:List V} (i:Nat) {d:D}{x:V},RDs K mu H ds xs->RD K mu H d x->RDs K mu H (ds.set i d) (xs.set i x)
 |[],xs,i,d,x,h,hd=>by rw[RDs.cases_nil h];exact RDs.nil
 | d::ds,xs,0,d',y,h,hd=>by
  obtain⟨x,r,rfl,hx,t⟩:=h.cases_cons;exact RDs.cons hd t
 | d::ds,xs,i+1,d',y,h,hd=>by
  obtain⟨x,r,rfl,hx,t⟩:=h.cases_cons;exact RDs.cons hx (RDs.set i t hd)
theorem RDs.append:∀ {ds es:List D}{xs ys:List V},RDs K mu H ds xs->RDs K mu H es ys->RDs K mu H (ds++es) (xs++ys)
 |[],es,xs,ys,h,h2=>by rw[RDs.cases_nil h];exact h2
 | d::ds,es,xs,ys,h,h2=>by
  obtain⟨x,r,rfl,hx,t⟩:=h.cases_cons;exact RDs.cons hx (RDs.append t h2)
theorem RDs.take:∀ {ds:List D}{xs:List V} (n:Nat),RDs K mu H ds xs->RDs K mu H (ds.take n) (xs.take n)
 |_,_,0,_=>by simp;exact RDs.nil
 |[],xs,n+1,h=>by rw[RDs.cases_nil h];exact RDs.nil
 | d::ds,xs,n+1,h=>by
  obtain⟨x,r,rfl,hx,t⟩:=h.cases_cons;exact RDs.cons hx (RDs.take n t)
theorem RDs.drop:∀ {ds:List D}{xs:List V} (n:Nat),RDs K mu H ds xs->RDs K mu H (ds.drop n) (xs.drop n)
 |_,_,0,h=>by simpa using h
 |[],xs,n+1,h=>by rw[RDs.cases_nil h];exact RDs.nil
 | d::ds,xs,n+1,h=>by
  obtain⟨x,r,rfl,hx,t⟩:=h.cases_cons;exact RDs.drop n t
theorem RO.mono(e:Ext mu H mu' H')(hk:H' a=H a)(h:RO K mu H a o):RO K mu' H' a o:=by
 cases o with
 | lst ds=>
  obtain⟨xs,h1,h2⟩:=h;exact⟨xs,by rw[hk];exact h1,RDs.mono e _ _ h2⟩
 | dk kvs=>
  obtain⟨xs,h1,h0,h2⟩:=h;exact⟨xs,by rw[hk];exact h1,h0,RDs.mono e _ _ h2⟩
 | dt kvs=>
  obtain⟨xs,h1,h0,h2⟩:=h;exact⟨xs,by rw[hk];exact h1,h0,RDs.mono e _ _ h2⟩
 | dtf kvs=>
  obtain⟨o,xs,h1,h0,h2⟩:=h;exact⟨o,xs,by rw[hk];exact h1,h0,RDs.mono e _ _ h2⟩
 | ins C fs=>
  obtain⟨Ca,dx,xs,h1,h0,h3,h2⟩:=h;exact⟨Ca,dx,xs,by rw[hk];exact h1,h0,h3,RDs.mono e _ _ h2⟩
theorem RO.some(h:RO K mu H a o):H a≠none:=by
 cases o with
 |lst ds=>obtain⟨xs,h1,_⟩:=h;rw[h1];simp
 |dk ds=>obtain⟨xs,h1,_⟩:=h;rw[h1];simp
 |dt ds=>obtain⟨xs,h1,_⟩:=h;rw[h1];simp
 |dtf ds=>obtain⟨o,xs,h1,_⟩:=h;rw[h1];simp
 |ins C fs=>obtain⟨Ca,dx,xs,h1,_⟩:=h;rw[h1];simp
theorem WR.get{S:Sto}(w:WR K mu H S){n:Nat}{o:Ob}(h:S[n]?=Option.some o):∃ a,mu[n]?=Option.some a/\RO K mu H a o:=w.ob n o h
theorem WR.fresh(w:WR K mu H S)(h:H p=none):p∉mu:=fun hm=>by
 obtain⟨n,hn,e⟩:=List.mem_iff_getElem.1 hm;obtain⟨o,ho⟩:∃ o,S[n]?=Option.some o:=⟨S[n]'(by rw[<- w.len];exact hn),by simp⟩
 obtain⟨a,h1,h2⟩:=w.ob n o ho;have:a=p:=by rw[oAt hn] at h1;rw[<- e];exact(oAk h1).symm
 subst this;exact h2.some h
theorem Ext.new(w:WR K mu H S)(h:H p=none):Ext mu H mu (upd H p o):=
 ⟨⟨[],by simp⟩,fun a u e n=>⟨by rw[Zi (Zr e h)];exact e,n⟩,fun a _ _ e=>by rw[Zi (Zr e h)];exact e⟩
theorem WR.keep(w:WR K mu H S)(h:H p=none):WR K mu (upd H p o) S:=
 ⟨w.len,w.nd,fun n u e=>by
  obtain⟨a,h1,h2⟩:=w.ob n u e;refine⟨a,h1,h2.mono (Ext.new w h) ?_⟩;rw[Zi];intro e;subst e;exact h2.some h⟩
theorem Ext.alloc(w:WR K mu H S)(h:H p=none):Ext mu H (mu++[p]) (upd H p o):=
 ⟨⟨[p],rfl⟩,fun a u e n=>⟨by rw[Zi (Zr e h)];exact e,by
  intro hm
  rcases List.mem_append.1 hm with hm | hm
  ·exact n hm
  ·have:a=p:=by simpa using hm
   exact Zr e h this⟩,fun a _ _ e=>by rw[Zi (Zr e h)];exact e⟩
theorem WR.allocO{S:Sto}(w:WR K mu H S){p:Addr}{u0:Ob}{o:HO}(h:H p=none)(hd:RO K (mu++[p]) (upd H p o) p u0):WR K (mu++[p]) (upd H p o) (S++[u0]):=by
 have ex:Ext mu H (mu++[p]) (upd H p o):=Ext.alloc w h;refine⟨by simp[w.len],?_,fun n u e=>?_⟩
 ·rw[nodup_append];refine⟨w.nd,by simp,fun a ha b hb=>?_⟩;have:b=p:=by simpa using hb
  subst this;intro e;subst e
  exact w.fresh h ha
 ·by_cases hn:n<S.length
  ·rw[getElem?_append_left hn] at e;obtain⟨a,h1,h2⟩:=w.ob n u e;refine⟨a,ex.get h1,h2.mono ex ?_⟩;rw[Zi];intro e;subst e;exact h2.some h
  ·have hn':n=S.length:=by
    have:=(List.getElem?_eq_some_iff.1 e).1;simp at this;omega
   subst hn';have:u=u0:=by simpa using e.symm
   subst this;exact⟨p,by rw[<- w.len];simp,hd⟩
theorem WR.alloc(w:WR K mu H S)(h:H p=none)(hd:RDs K mu H ds xs):WR K (mu++[p]) (upd H p (.lst xs)) (S++[.lst ds]):=
 w.allocO h ⟨xs,Zv,RDs.mono (Ext.alloc w h) _ _ hd⟩
theorem WR.same{S:Sto}(w:WR K mu H S){i j:Nat}{a:Addr}(h1:mu[i]?=Option.some a)(h2:mu[j]?=Option.some a):i=j:=by
 exact(List.getElem?_inj (List.getElem?_eq_some_iff.1 h1).1 w.nd).mp (h1.trans h2.symm)
theorem ZY(e:H a=Option.some u)(h:Mut (Option.some u):=by trivial):Mut (H a):=by rw[e];exact h
theorem Ext.write{S:Sto}(w:WR K mu H S){n:Nat}{a:Addr}{o:HO}(h:mu[n]?=Option.some a)(hn:Mut (H a)):Ext mu H mu (upd H a o):=
 ⟨⟨[],by simp⟩,fun b u e hn'=>⟨by
  rw[Zi];exact e
  intro z;subst z
  exact hn' (mem_of_getElem? h),hn'⟩,fun b ob u e=>by
  rw[Zi];exact e
  intro z;subst z
  rw[e] at hn;exact hn⟩
theorem WR.writeO{S:Sto}(w:WR K mu H S){n:Nat}{a:Addr}{u0:Ob}{o:HO}(h:mu[n]?=Option.some a)(hn:Mut (H a))(hd:RO K mu (upd H a o) a u0):WR K mu (upd H a o) (S.set n u0):=by
 have ex:Ext mu H mu (upd H a o):=Ext.write w h hn;refine⟨by simp[w.len],w.nd,fun i u e=>?_⟩;by_cases hi:n=i
 ·subst hi;have hl:n<S.length:=by
   have:=(List.getElem?_eq_some_iff.1 e).1;simpa using this
  rw[getElem?_set_self hl] at e;cases e
  exact⟨a,h,hd⟩
 ·rw[getElem?_set_ne hi] at e;obtain⟨b,h1,h2⟩:=w.ob i u e;refine⟨b,h1,h2.mono ex ?_⟩;rw[Zi];intro z;subst z
  exact hi (w.same h h1)
theorem WR.write{S:Sto}(w:WR K mu H S){n:Nat}{a:Addr}{ds:List D}{xs:List V}(h:mu[n]?=Option.some a)(hn:Mut (H a))(hd:RDs K mu H ds xs):WR K mu (upd H a (.lst xs)) (S.set n (.lst ds)):=
 w.writeO h hn ⟨xs,Zv,RDs.mono (Ext.write w h hn) _ _ hd⟩
theorem ER.mono(r:ER K mu H env σ)(e:Ext mu H mu' H'):ER K mu' H' env σ:=
 ⟨r.len,fun i d h=>by
  obtain⟨v,h1,h2⟩:=r.get i d h;exact⟨v,h1,RD.mono e _ _ h2⟩⟩
theorem ER.set(r:ER K mu H env σ)(i:Nat)(h:RD K mu H d v):ER K mu H (env.set i (some d)) (σ.set i (some v)):=
 ⟨by simp[r.len],fun j d' e=>by
  by_cases hi:i=j
  ·subst hi;have hl:i<env.length:=by
    have:=(List.getElem?_eq_some_iff.1 e).1;simpa using this
   rw[getElem?_set_self hl] at e;cases e
   exact⟨v,by rw[getElem?_set_self (by rw[<- r.len];exact hl)],h⟩
  ·rw[getElem?_set_ne hi] at e;obtain⟨w,h1,h2⟩:=r.get j d' e;exact⟨w,by rw[getElem?_set_ne hi];exact h1,h2⟩⟩
end
open PySem PySem.Spec PyProof.Rows L2
inductive Bi where
 |len | abs | min | int | tuple | all
 deriving DecidableEq
inductive Bl where
 |list | sorted
 deriving DecidableEq
inductive Mt where
 |append | extend
 deriving DecidableEq
mutual
inductive Ex where
 |var (i:Nat) | non | bl (b:Bool) | int (i:Int) | str (x:Str)
 |bin (op:Operator) (a b:Ex) | neg (a:Ex) | not (a:Ex) | and (a b:Ex) | or (a b:Ex) | ite (c a b:Ex)
 |cmp (op:CmpOp) (a b:Ex) | cmp2 (op op':CmpOp) (a b c:Ex) | isN (a:Ex) | notN (a:Ex) | isi (a:Ex) (ty:Str)
 |sub (a i:Ex) | slc (a:Ex) (lo hi:Ox) | tup (es:Exs) | lv (l:Lx) | lr (l:Lx)
 |call (f:Str) (es:Exs) | blt (f:Bi) (es:Exs) | gl (x:Str) | mth (o:Ex) (m:Mt) (es:Exs)
 |dnew | dvar (k:Str) (i:Nat) | rev (a:Ex)
 |fld (a:Ex) (x:Str) | mcl (o:Ex) (m:Str) (es:Exs) | new (C:Str) (es:Exs) | gin (x:Str) (a:Ex) | gsb (x:Str) (a:Ex) | dget (o:Ex) (es:Exs) (f:Ex)
 |subK (a i:Ex) | join (x:Str) (a:Ex) | dcomp (own:Nat) (caps:List Nat) (t:Tg) (it:Itx) (ks:Exs) (v:Ex)
inductive Lx where
 |dsp (es:Exs) | bin (op:Operator) (a b:Ex) | blt (f:Bl) (es:Exs) | comp (own:Nat) (caps:List Nat) (t:Tg) (it:Itx) (ifs:Exs) (elt:Ex)
 |sset (a:Ex) | compD (own:Nat) (caps:List Nat) (t:Tg) (o:Ex) (elt:Ex)
inductive Exs where
 |nil | cons (e:Ex) (es:Exs)
inductive Ox where
 |no | yes (e:Ex)
inductive Tg where
 |name (i:Nat) | tup (ts:Tgs) | sub (o i:Ex) | subK (o i:Ex)
inductive Tgs where
 |nil | cons (t:Tg) (ts:Tgs)
inductive Itx where
 |seq (e:Ex) | rng1 (a:Ex) | zip (a b:Ex) | dkt (a:Ex)
end
mutual
inductive Sm where
 |asg (t:Tg) (e:Ex) | par (i j:Nat) (a b:Ex) | ex (e:Ex) | ret (e:Ex) | ifs (c:Ex) (a b:Sms) | fr (t:Tg) (it:Itx) (b:Sms)
 |bad | fas (o:Ex) (x:Str) (v:Ex)
inductive Sms where
 |nil | cons (s:Sm) (ss:Sms)
end
noncomputable def vals:D->Option (List D)
 |.lst ds=>some ds
 |.tup ds=>some ds
 |_=>none
noncomputable abbrev line:Nat:=16777216
noncomputable def bigJ:Int:=2 ^ 4000
def MulOk(i j:Int):Prop:=(-(2 ^ 64)<i/\i<2 ^ 64)\/(-(2 ^ 64)<j/\j<2 ^ 64)\/(i.natAbs<2 ^ 100000/\j.natAbs<2 ^ 100000)
noncomputable instance (i j:Int):Decidable (MulOk i j):=by unfold MulOk;infer_instance
noncomputable def items(S:Sto):D->Option (List D)
 |.tup ds=>some ds
 |.lst ds=>some ds
 | .ref n=>match S[n]? with
  |some (.lst ds)=>some ds
  |_=>none
 |_=>none
noncomputable def lsOf(S:Sto):D->Option (List D)
 |.lst ds=>some ds
 |.ref n=>items S (.ref n)
 |_=>none
def Um(i j:Int):Prop:=0<=j/\((j<=1000000/\i.natAbs<2 ^ 64)\/(j<=100000/\i.natAbs<2 ^ 1000))
noncomputable instance (i j:Int):Decidable (Um i j):=by unfold Um;infer_instance
noncomputable def JV(S:Sto):Operator->D->D->Option (List D)
 |.Add,a,b=>(lsOf S a).bind fun xs=>(lsOf S b).bind fun ys=>if xs.length+ys.length<=line then some (xs++ys) else none
 |.Mult,a,.int k=>(lsOf S a).bind fun xs=>if k<2 ^ 62/\-(2 ^ 62)<k/\xs.length * k.toNat<=line then some (List.replicate k.toNat xs).flatten else none
 |_,_,_=>none
noncomputable def intop:Operator->Int->Int->Option D
 |.Add,i,j=>some (.int (i+j))
 |.Sub,i,j=>some (.int (i - j))
 |.Mult,i,j=>if MulOk i j then some (.int (i * j)) else none
 |.LShift,i,j=>if 0<=j/\j<=1000000/\i.natAbs<2 ^ 64 then some (.int (i * 2 ^ j.toNat)) else none
 |.RShift,i,j=>if 0<=j then some (.int (i / 2 ^ j.toNat)) else none
 |.BitAnd,i,j=>some (.int (Builtin.bitAnd i j))
 |.FloorDiv,i,j=>if 0<j/\j<bigJ then some (.int (i / j)) else none
 |.Mod,i,j=>if 0<j then some (.int (i % j)) else none
 |.Pow,i,j=>if Um i j then some (.int (i ^ j.toNat)) else none
 |_,_,_=>none
noncomputable def strop:Operator->Str->Str->Option D
 |.Add,x,y=>if x.length+y.length<=line then some (.str (x++y)) else none
 |_,_,_=>none
noncomputable def tupop:Operator->List D->List D->Option D
 |.Add,xs,ys=>if xs.length+ys.length<=line then some (.tup (xs++ys)) else none
 |_,_,_=>none
noncomputable def binop(S:Sto)(op:Operator)(a b:D):Option D:=match a with
 | .int i=>(match b with
  |.int j=>intop op i j
  |_=>none)
 | .str x=>(match b with
  |.str y=>strop op x y
  |_=>none)
 | .tup xs=>(match b with
  |.tup ys=>tupop op xs ys
  |_=>none)
 |.lst xs=>(JV S op (.lst xs) b).map .lst
 |.ref n=>(JV S op (.ref n) b).map .lst
 |_=>none
noncomputable def isLs:D->Bool
 |.lst _=>true
 |.ref _=>true
 |_=>false
noncomputable def W8(S:Sto)(d:D):Bool:=(lsOf S d).isSome
noncomputable def truth(S:Sto):D->Option Bool
 |.non=>some false
 |.bl b=>some b
 |.int i=>some (i != 0)
 |.str x=>if x.length<=line then some ((x.length:Int) != 0) else none
 |d=>(items S d).map fun ds=>!ds.isEmpty
noncomputable def W9:D->D->Bool
 |.non,.non=>true | .non,.int _=>true | .int _,.non=>true | .non,.bl _=>true | .bl _,.non=>true | .non,.str _=>true | .str _,.non=>true
 |.int _,.int _=>true | .bl _,.bl _=>true | .str _,.str _=>true
 |.int _,.str _=>true | .str _,.int _=>true | .bl _,.str _=>true | .str _,.bl _=>true
 |_,_=>false
mutual
noncomputable def toP:D->PyData
 |.non=>.none
 |.bl b=>.bool b
 |.int i=>.int i
 |.str x=>.str x
 |.tup ds=>.tuple (toPs ds)
 |.lst ds=>.list (toPs ds)
 |.ref _=>.none
noncomputable def toPs:List D->List PyData
 |[]=>[]
 |d::ds=>toP d::toPs ds
end
mutual
noncomputable def YU:D->Bool
 |.tup ds=>Yh ds
 |.lst ds=>Yh ds
 |.ref _=>false
 |_=>true
noncomputable def Yh:List D->Bool
 |[]=>true
 |d::ds=>YU d&&Yh ds
end
noncomputable def okD(d:D):Bool:=YU d&&(toP d).canLay0&&decide ((toP d).depth<=100)
mutual
noncomputable def fixD(S:Sto):Nat->D->Option D
 |0,_=>none
 |n+1,.tup ds=>(JJ S n ds).map .tup
 |n+1,.lst ds=>(JJ S n ds).map .lst
 |n+1,.ref m=>(items S (.ref m)).bind fun ds=>(JJ S n ds).map .lst
 |_+1,d=>some d
noncomputable def JJ(S:Sto):Nat->List D->Option (List D)
 |0,_=>none
 |_+1,[]=>some []
 |n+1,d::ds=>(fixD S n d).bind fun x=>(JJ S n ds).map fun xs=>x::xs
end
noncomputable def eqD(S:Sto)(a b:D):Option Bool:=
 if W9 a b then some (decide (a=b)) else if okD a&&okD b then some (PyData.eqv (toP a) (toP b)) else
  (fixD S 1000 a).bind fun a'=>(fixD S 1000 b).bind fun b'=>if okD a'&&okD b' then some (PyData.eqv (toP a') (toP b')) else none
noncomputable def JK:D->Bool
 |.non=>true
 |.bl _=>true
 |.int _=>true
 |.str _=>true
 |_=>false
noncomputable def eqF:D->D->Bool
 |.non,.non=>true
 |.bl a,.bl b=>a==b
 |.bl a,.int b=>(if a then 1 else 0)==b
 |.int a,.bl b=>a==(if b then 1 else 0)
 |.int a,.int b=>a==b
 |.str a,.str b=>a==b
 |_,_=>false
noncomputable def inD(S:Sto)(x y:D):Option Bool:=(items S y).bind fun ys=>if JK x&&ys.all JK then some (ys.any fun z=>eqF z x) else
 if okD x&&decide ((toP x).depth<=50)&&ys.all okD then some (ys.any fun z=>PyData.eqv (toP z) (toP x)) else none
noncomputable def ZM:List D->Option (List Str)
 |[]=>some []
 |.str x::r=>(ZM r).map (x::·)
 |_::_=>none
noncomputable def sgn(z:Str):List Str:=z.cps.toList.map fun c=>⟨#[c]⟩
noncomputable def ordC(f:Int->Int->Bool)(g:Str->Str->Bool)(a b:D):Option Bool:=match a with
 | .int i=>(match b with
  |.int j=>some (f i j)
  |_=>none)
 | .str x=>(match b with
  |.str y=>some (g x y)
  |_=>none)
 |_=>none
noncomputable def ltC(a b:D):Option Bool:=match a with
 | .tup xs=>(match b with
  |.tup ys=>(ZM xs).bind fun l=>(ZM ys).map fun m=>TS.lexB l m
  |_=>none)
 | .int i=>(match b with
  |.int j=>some (decide (i<j))
  |_=>none)
 | .str x=>(match b with
  |.str y=>some (TS.sLt x y)
  |_=>none)
 |_=>none
noncomputable def cmpop(S:Sto)(op:CmpOp)(a b:D):Option Bool:=match op with
 |.Lt=>ltC a b
 |.LtE=>ordC (fun i j=>decide (i<=j)) (fun x y=>!TS.sLt y x) a b
 |.Gt=>ordC (fun i j=>decide (j<i)) (fun x y=>TS.sLt y x) a b
 |.GtE=>ordC (fun i j=>decide (j<=i)) (fun x y=>!TS.sLt x y) a b
 |.Eq=>eqD S a b
 |.NotEq=>(eqD S a b).map not
 |.In=>inD S a b
 |.NotIn=>(inD S a b).map not
 |_=>none
noncomputable def tyD(S:Sto):D->Option String
 |.non=>some "NoneType"
 |.bl _=>some "bool"
 |.int _=>some "int"
 |.str _=>some "str"
 |.tup _=>some "tuple"
 |.lst _=>some "list"
 | .ref n=>match S[n]? with
  |some (.lst _)=>some "list"
  |some (.dk _)=>some "dict"
  |some (.dt _)=>some "dict"
  |some (.ins _ _)=>none
  |some (.dtf _)=>none
  |none=>none
noncomputable def Z9:List (Str×String):=[("int","int"),("bool","bool"),("str","str"),("tuple","tuple"),("list","list")]
noncomputable def isiD(S:Sto)(d:D)(ty:Str):Option Bool:=(Z9.lookup ty).bind fun u=>(tyD S d).map fun t=>decide (t=u)||(decide (t="bool")&&decide (u="int"))
noncomputable def keyD:D->Option Key
 |.int i=>some (.inl i)
 |.str x=>some (.inr x)
 |.non=>some .non
 |_=>none
noncomputable def unkey:Key->D
 |.inl i=>.int i
 |.inr x=>.str x
 |.non=>.non
noncomputable def valD{κ:Type}[DecidableEq κ](kvs:List (κ×D))(k:κ):Option D:=(kvs.find? fun kv=>decide (kv.1=k)).map (·.2)
noncomputable def ZW:List D->Option (List Key)
 |[]=>some []
 |d::r=>(keyD d).bind fun k=>(ZW r).map fun l=>k::l
noncomputable def dtRd(S:Sto):D->Option (List (List Key×D))
 | .ref n=>match S[n]? with
  |some (.dt kvs)=>some kvs
  |some (.dtf kvs)=>some kvs
  |_=>none
 |_=>none
noncomputable def subD(S:Sto)(d i:D):Option D:=
 match i with
 | .int k=>(match d with
  |.str z=>if z.length<=line then (L2.atI z.cps.toList k).map fun c=>.str ⟨#[c]⟩ else none
  |.tup ds=>L2.atI ds k
  |.lst ds=>L2.atI ds k
  |_=>(items S d).bind fun ds=>L2.atI ds k)
 |_=>none
noncomputable def cutD(ds:List D)(lo hi:Option Int):List D:=(ds.drop (HT.sIx ds.length 0 lo)).take (HT.sIx ds.length ds.length hi - HT.sIx ds.length 0 lo)
noncomputable def Z2(S:Sto)(d:D)(lo hi:Option Int):Option D:=
 match d with
 |.lst ds=>some (.lst (cutD ds lo hi))
 |.ref n=>(items S (.ref n)).map fun ds=>.lst (cutD ds lo hi)
 |.tup ds=>if HT.sIx ds.length 0 lo=0/\HT.sIx ds.length ds.length hi=ds.length then some (.tup ds) else some (.tup (cutD ds lo hi))
 |.str z=>if (StrLaws.sliceText z lo hi).length<=line then some (.str (StrLaws.sliceText z lo hi)) else none
 |_=>none
noncomputable def ZaK:List D->Option (List Int)
 |[]=>some []
 |.int i::ds=>(ZaK ds).map (i::·)
 |_::_=>none
noncomputable def biOf:List (Str×Bi):=[("len",.len),("abs",.abs),("min",.min),("int",.int),("tuple",.tuple),("all",.all)]
noncomputable def YZ:List D->Option (List Bool)
 |[]=>some []
 |.bl b::ds=>(YZ ds).map (b::·)
 |_::_=>none
noncomputable def bi1(S:Sto)(b:Bi)(d:D):Option D:=match b with
 | .len=>(match d with
  |.str x=>if x.length<=line then some (.int x.length) else none
  | .ref n=>(match S[n]? with
   |some (.lst ds)=>some (.int ds.length)
   |_=>none)
  |d=>(items S d).map fun es=>.int es.length)
 | .abs=>(match d with
  |.int i=>some (.int (if i<0 then -i else i))
  |_=>none)
 | .int=>(match d with
  |.int i=>some (.int i)
  |.bl b=>some (.int (if b then 1 else 0))
  |_=>none)
 | .tuple=>(match d with
  |.tup ds=>some (.tup ds)
  |d=>(lsOf S d).map .tup)
 |.all=>(lsOf S d).bind fun ds=>(YZ ds).map fun bs=>.bl (bs.all id)
 |_=>none
noncomputable def bi2(b:Bi)(i j:Int):Option D:=match b with
 |.min=>some (.int (if j<i then j else i))
 |_=>none
noncomputable def bltD(S:Sto)(b:Bi)(ds:List D):Option D:=match ds with
 |[d]=>bi1 S b d
 | [d0,d1]=>(match d0 with
  | .int i=>(match d1 with
   |.int j=>bi2 b i j
   |_=>none)
  |_=>none)
 |_=>none
noncomputable def insI(x:Int):List Int->List Int
 |[]=>[x]
 |y::r=>if x<=y then x::y::r else y::insI x r
noncomputable def isort:List Int->List Int
 |[]=>[]
 |x::r=>insI x (isort r)
noncomputable def Y9:List D->Option (List (List Str))
 |[]=>some []
 |.tup ds::r=>(ZM ds).bind fun l=>if l.isEmpty then none else (Y9 r).map (l::·)
 |_::_=>none
noncomputable def insR(x:List Str):List (List Str)->List (List Str)
 |[]=>[x]
 |y::r=>if TS.lexB y x then y::insR x r else x::y::r
noncomputable def Z4:List (List Str)->List (List Str)
 |[]=>[]
 |x::r=>insR x (Z4 r)
noncomputable def rowD(l:List Str):D:=.tup (l.map .str)
noncomputable def insS(x:Str):List Str->List Str
 |[]=>[x]
 |y::r=>if TS.sLt y x then y::insS x r else x::y::r
noncomputable def YK:List Str->List Str
 |[]=>[]
 |x::r=>insS x (YK r)
noncomputable def YQ(sep:Str)(l:List Str):Bool:=!Builtin.Str.tooLong (l.toArray.foldl (fun n y=>n+y.length+sep.length) 0)&&decide ((Str.join sep l).length<=line)
noncomputable def blOf:List (Str×Bl):=[("list",.list),("sorted",.sorted)]
noncomputable def bltL(S:Sto):Bl->List D->Option (List D)
 |.list,[d]=>items S d
 |.sorted,[d]=>(lsOf S d).bind fun ds=>(Y9 ds).bind fun ls=>if ls.length<64 then some ((Z4 ls).map rowD) else none
 |_,_=>none
noncomputable def mtOf:List (Str×Mt):=[("append",.append),("extend",.extend)]
noncomputable def mthD(S:Sto):Mt->D->List D->Option (D×Sto)
 |.append,.ref n,[d]=>(items S (.ref n)).bind fun ds=>if ds.length<line then some (.non,S.set n (.lst (ds++[d]))) else none
 |.extend,.ref n,[x]=>(items S (.ref n)).bind fun ds=>(items S x).bind fun es=>if ds.length+es.length<=line/\x≠.ref n then some (.non,S.set n (.lst (ds++es))) else none
 |_,_,_=>none
noncomputable def putD{κ:Type}[DecidableEq κ](kvs:List (κ×D))(k:κ)(v:D):List (κ×D):=
 if (kvs.any fun kv=>decide (kv.1=k))=true then kvs.map (fun kv=>if kv.1=k then (kv.1,v) else kv) else kvs++[(k,v)]
noncomputable def dtOf(S:Sto):D->Option (List (List Key×D))
 | .ref n=>match S[n]? with
  |some (.dt kvs)=>some kvs
  |_=>none
 |_=>none
noncomputable def JW(p q:Pos):Bool:=p.endLine==q.line
noncomputable def baseOk:Expr->Bool
 |.Call (.Name _ _) _ _ _=>false
 |_=>true
noncomputable def Zh(C m:Str):Str:=C++(Str.ofString "."++m)
noncomputable def putN(f:Str)(v:D):List (Str×D)->List (Str×D)
 |[]=>[(f,v)]
 |(g,x)::r=>if g=f then (g,v)::r else (g,x)::putN f v r
structure Cl where
 fn:Str->List D->Sto->Option (D×Sto)
 gl:Str->Option D
 gd:Str->Option (List (Str×Int))
 fd:Str->Str->Bool
 mt:Str->List D->Sto->Option (D×Sto)
 nw:Str->List D->Sto->Option (D×Sto)
inductive Sr where
 |vs (ds:List D) | rf (n:Nat)
noncomputable def Sr.nx(r:Sr)(i:Nat)(S:Sto):Option (Option D):=match r with
 |.vs ds=>some ds[i]?
 |.rf n=>(items S (.ref n)).map fun ds=>ds[i]?
noncomputable def Sr.fuel:Sr->Nat
 |.vs ds=>ds.length+1
 |.rf _=>line+2
noncomputable def Z0(r:Sr)(step:D->En->Sto->Option (Option D×En×Sto)):Nat->Nat->En->Sto->List D->Option (List D×Sto)
 |0,_,_,_,_=>none
 | m+1,i,e,S,acc=>(r.nx i S).bind fun o=>match o with
  |none=>some (acc,S)
  | some d=>(step d e S).bind fun r'=>match r'.1 with
   |some x=>if acc.length<line then Z0 r step m (i+1) r'.2.1 r'.2.2 (acc++[x]) else none
   |none=>Z0 r step m (i+1) r'.2.1 r'.2.2 acc
noncomputable def ZG(own:Nat)(caps:List Nat)(env:En):En:=List.replicate own none++caps.map fun i=>(env[i]?).join
noncomputable def dcL(r:Sr)(step:D->En->Sto->Option (En×Sto)):Nat->Nat->En->Sto->Option Sto
 |0,_,_,_=>none
 | m+1,i,e,S=>(r.nx i S).bind fun o=>match o with
  |none=>some S
  |some d=>(step d e S).bind fun q=>dcL r step m (i+1) q.1 q.2
noncomputable def ZX(fG:D->En->Sto->Option (En×Sto))(fT:En->Sto->Option (Bool×Sto))(fE:En->Sto->Option (D×Sto)):D->En->Sto->Option (Option D×En×Sto):=
 fun d e S=>(fG d e S).bind fun q=>(fT q.1 q.2).bind fun b=>if b.1 then (fE q.1 b.2).map fun x=>(some x.1,q.1,x.2) else some (none,q.1,b.2)
mutual
noncomputable def ev(c:Cl):Ex->En->Sto->Option (D×Sto)
 | .var i,env,S=>match env[i]? with
  |some (some d)=>some (d,S)
  |_=>none
 |.non,_,S=>some (.non,S)
 |.bl b,_,S=>some (.bl b,S)
 |.int i,_,S=>some (.int i,S)
 |.str x,_,S=>some (.str x,S)
 |.bin op a b,env,S=>(ev c a env S).bind fun r=>(ev c b env r.2).bind fun q=>(binop q.2 op r.1 q.1).map fun d=>(d,q.2)
 | .neg a,env,S=>(ev c a env S).bind fun r=>match r.1 with
  |.int i=>some (.int (-i),r.2)
  |_=>none
 |.not a,env,S=>(ev c a env S).bind fun r=>(truth r.2 r.1).map fun b=>(.bl (!b),r.2)
 |.and a b,env,S=>(ev c a env S).bind fun r=>(truth r.2 r.1).bind fun t=>if t then ev c b env r.2 else some r
 |.or a b,env,S=>(ev c a env S).bind fun r=>(truth r.2 r.1).bind fun t=>if t then some r else ev c b env r.2
 |.ite x a b,env,S=>(ev c x env S).bind fun r=>(truth r.2 r.1).bind fun t=>if t then ev c a env r.2 else ev c b env r.2
 |.cmp op a b,env,S=>(ev c a env S).bind fun r=>(ev c b env r.2).bind fun q=>(cmpop q.2 op r.1 q.1).map fun d=>(.bl d,q.2)
 | .cmp2 op op' a b e,env,S=>(ev c a env S).bind fun r=>(ev c b env r.2).bind fun q=>(cmpop q.2 op r.1 q.1).bind fun t=>
  if t then (ev c e env q.2).bind fun p=>(cmpop p.2 op' q.1 p.1).map fun d=>(.bl d,p.2) else some (.bl false,q.2)
 |.isN a,env,S=>(ev c a env S).map fun r=>(.bl (decide (r.1=.non)),r.2)
 |.notN a,env,S=>(ev c a env S).map fun r=>(.bl (!decide (r.1=.non)),r.2)
 |.isi a ty,env,S=>(ev c a env S).bind fun r=>(isiD r.2 r.1 ty).map fun b=>(.bl b,r.2)
 | .fld a x,env,S=>(ev c a env S).bind fun r=>match r.1 with
  | .ref n=>(match r.2[n]? with
   |some (.ins C fs)=>if c.fd C x then (fs.lookup x).map fun d=>(d,r.2) else none
   |_=>none)
  |_=>none
 | .mcl o m es,env,S=>(ev c o env S).bind fun r=>match r.1 with
  | .ref n=>(match r.2[n]? with
   |some (.ins C fs)=>if (fs.lookup m).isNone then (evs c es env r.2).bind fun q=>c.mt (Zh C m) (.ref n::q.1) q.2 else none
   |_=>none)
  |_=>none
 | .new C es,env,S=>(evs c es env S).bind fun q=>(c.nw (Zh C "__init__") (.ref q.2.length::q.1) (q.2++[.ins C []])).bind fun r=>match r.1 with
  |.non=>some (.ref q.2.length,r.2)
  |_=>none
 | .gin x a,env,S=>(ev c a env S).bind fun r=>match r.1 with
  |.str y=>(c.gd x).map fun kvs=>(.bl (kvs.lookup y).isSome,r.2)
  |_=>none
 | .gsb x a,env,S=>(ev c a env S).bind fun r=>match r.1 with
  |.str y=>(c.gd x).bind fun kvs=>(kvs.lookup y).map fun i=>(.int i,r.2)
  |_=>none
 |.sub a i,env,S=>(ev c a env S).bind fun r=>(ev c i env r.2).bind fun q=>(subD q.2 r.1 q.1).map fun d=>(d,q.2)
 |.slc a lo hi,env,S=>(ev c a env S).bind fun r=>(evO c lo env r.2).bind fun l=>(evO c hi env l.2).bind fun h=>(Z2 h.2 r.1 l.1 h.1).map fun d=>(d,h.2)
 |.tup es,env,S=>(evs c es env S).bind fun r=>if r.1.length<=line then some (.tup r.1,r.2) else none
 |.lv l,env,S=>(evL c l env S).map fun r=>(.lst r.1,r.2)
 |.lr l,env,S=>(evL c l env S).map fun r=>(.ref r.2.length,r.2++[.lst r.1])
 |.call f es,env,S=>(evs c es env S).bind fun r=>c.fn f r.1 r.2
 |.blt f es,env,S=>(evs c es env S).bind fun r=>(bltD r.2 f r.1).map fun d=>(d,r.2)
 |.gl x,_,S=>(c.gl x).map fun d=>(d,S)
 |.dnew,_,S=>some (.ref S.length,S++[.dt []])
 |.dvar k i,env,S=>(env[i]?).join.map fun d=>(.ref S.length,S++[.dk [(.inr k,d)]])
 | .rev a,env,S=>(ev c a env S).bind fun r=>match r.1 with
  |.tup ds=>some (.tup ds.reverse,r.2)
  |_=>none
 |.dget o es f,env,S=>(ev c o env S).bind fun q=>(dtOf q.2 q.1).bind fun _=>(evs c es env q.2).bind fun r=>if r.1.length<=line then (ev c f env r.2).bind fun z=>(dtOf z.2 q.1).bind fun kvs=>(ZW r.1).map fun ks=>((valD kvs ks).getD z.1,z.2) else none
 | .subK a i,env,S=>(ev c a env S).bind fun r=>(ev c i env r.2).bind fun q=>match q.1 with
  |.tup ks=>if ks.length=3 then (dtRd q.2 r.1).bind fun kvs=>(ZW ks).bind fun k=>(valD kvs k).map fun d=>(d,q.2) else none
  |_=>none
 |.join x a,env,S=>(ev c a env S).bind fun r=>(lsOf r.2 r.1).bind fun ds=>(ZM ds).bind fun l=>if YQ x l then some (.str (Str.join x l),r.2) else none
 | .dcomp own caps t it ks v,env,S=>(evI c it env S).bind fun r=>(dcL r.1 (fun d e S=>(asg c t d e S).bind fun q=>(evs c ks q.1 q.2).bind fun kk=>if kk.1.length<=line then (ZW kk.1).bind fun k=>(ev c v q.1 kk.2).bind fun x=>(match x.2[r.2.length]? with
   |some (.dt kvs)=>if kvs.length<line then some (q.1,x.2.set r.2.length (.dt (putD kvs k x.1))) else none
   |_=>none) else none) r.1.fuel 0 (ZG own caps env) (r.2++[.dt []])).map fun S'=>(.ref r.2.length,S')
 |.mth o m es,env,S=>(ev c o env S).bind fun r=>if W8 r.2 r.1 then (evs c es env r.2).bind fun q=>mthD q.2 m r.1 q.1 else none
noncomputable def evL(c:Cl):Lx->En->Sto->Option (List D×Sto)
 |.dsp es,env,S=>(evs c es env S).bind fun r=>if r.1.length<=line then some r else none
 |.bin op a b,env,S=>(ev c a env S).bind fun r=>(ev c b env r.2).bind fun q=>(JV q.2 op r.1 q.1).map fun d=>(d,q.2)
 |.blt f es,env,S=>(evs c es env S).bind fun r=>(bltL r.2 f r.1).map fun d=>(d,r.2)
 |.comp own caps t it ifs elt,env,S=>(evI c it env S).bind fun r=>Z0 r.1 (ZX (fun d e S=>asg c t d e S) (fun e S=>evTs c ifs e S) (fun e S=>ev c elt e S)) r.1.fuel 0 (ZG own caps env) r.2 []
 |.sset a,env,S=>(ev c a env S).bind fun r=>(lsOf r.2 r.1).bind fun ds=>(ZM ds).bind fun l=>if 2<=(SX.ddS l).length/\(SX.ddS l).length<64/\l.length<4000 then some ((YK (SX.ddS l)).map .str,r.2) else none
 | .compD own caps t o elt,env,S=>(ev c o env S).bind fun r=>match r.1 with
  | .ref n=>(match r.2[n]? with
   | some (.dt kvs)=>(Z0 (.vs (kvs.map fun kv=>D.tup (kv.1.map unkey))) (ZX (fun d e S=>asg c t d e S) (fun e S=>some (true,S)) (fun e S=>ev c elt e S)) (kvs.length+1) 0 (ZG own caps env) (r.2.set n (.dtf kvs)) []).bind fun q=>(match q.2[n]? with
    |some (.dtf kvs')=>some (q.1,q.2.set n (.dt kvs'))
    |_=>none)
   |_=>none)
  |_=>none
noncomputable def evs(c:Cl):Exs->En->Sto->Option (List D×Sto)
 |.nil,_,S=>some ([],S)
 |.cons e es,env,S=>(ev c e env S).bind fun r=>(evs c es env r.2).map fun q=>(r.1::q.1,q.2)
noncomputable def evO(c:Cl):Ox->En->Sto->Option (Option Int×Sto)
 |.no,_,S=>some (none,S)
 | .yes e,env,S=>(ev c e env S).bind fun r=>match r.1 with
  |.int i=>some (some i,r.2)
  |_=>none
noncomputable def evTs(c:Cl):Exs->En->Sto->Option (Bool×Sto)
 |.nil,_,S=>some (true,S)
 |.cons e es,env,S=>(ev c e env S).bind fun r=>(truth r.2 r.1).bind fun t=>if t then evTs c es env r.2 else some (false,r.2)
noncomputable def asg(c:Cl):Tg->D->En->Sto->Option (En×Sto)
 |.name i,d,env,S=>some (env.set i (some d),S)
 | .tup ts,d,env,S=>match d with
  |.tup ds=>asgs c ts ds env S
  |.lst ds=>asgs c ts ds env S
  |_=>none
 | .sub o i,d,env,S=>(ev c o env S).bind fun r=>(ev c i env r.2).bind fun q=>match r.1,q.1 with
  | .ref n,.int k=>(match q.2[n]? with
   |some (.lst ds)=>(L2.ixN ds.length k).map fun j=>(env,q.2.set n (.lst (ds.set j d)))
   |_=>none)
  |_,_=>none
 | .subK o i,d,env,S=>(ev c o env S).bind fun r=>(ev c i env r.2).bind fun q=>match r.1,q.1 with
  | .ref n,.tup ks=>(match q.2[n]? with
   |some (.dt kvs)=>if ks.length=3/\kvs.length<line then (ZW ks).map fun k=>(env,q.2.set n (.dt (putD kvs k d))) else none
   |_=>none)
  |_,_=>none
noncomputable def asgs(c:Cl):Tgs->List D->En->Sto->Option (En×Sto)
 |.nil,[],env,S=>some (env,S)
 |.cons t ts,d::ds,env,S=>(asg c t d env S).bind fun r=>asgs c ts ds r.1 r.2
 |_,_,_,_=>none
noncomputable def evI(c:Cl):Itx->En->Sto->Option (Sr×Sto)
 | .seq e,env,S=>(ev c e env S).bind fun r=>match r.1 with
  |.tup ds=>some (.vs ds,r.2)
  |.lst ds=>some (.vs ds,r.2)
  |.str z=>some (.vs ((sgn z).map D.str),r.2)
  |.ref n=>(items r.2 (.ref n)).map fun _=>(.rf n,r.2)
  |_=>none
 | .rng1 a,env,S=>(ev c a env S).bind fun r=>match r.1 with
  |.int j=>if -(2 ^ 62)<=j/\j<2 ^ 62 then some (.vs ((List.range j.toNat).map fun (k:Nat)=>D.int (0+(k:Int))),r.2) else none
  |_=>none
 | .zip a b,env,S=>(ev c a env S).bind fun r=>(ev c b env r.2).bind fun q=>match vals r.1,vals q.1 with
  |some xs,some ys=>some (.vs (List.zipWith (fun x y=>D.tup [x,y]) xs ys),q.2)
  |_,_=>none
 | .dkt a,env,S=>(ev c a env S).bind fun r=>match r.1 with
  | .ref n=>(match r.2[n]? with
   |some (.dt kvs)=>some (.vs (kvs.map fun kv=>D.tup (kv.1.map unkey)),r.2.set n (.dtf kvs))
   |_=>none)
  |_=>none
end
noncomputable def evT(c:Cl)(x:Ex)(env:En)(S:Sto):Option (Bool×Sto):=(ev c x env S).bind fun r=>(truth r.2 r.1).map fun b=>(b,r.2)
inductive Fl where
 |nx (env:En) (S:Sto) | rt (d:D) (S:Sto) | bk (env:En) (S:Sto) | ct (env:En) (S:Sto)
noncomputable def forL(r:Sr)(step:D->En->Sto->Option Fl):Nat->Nat->En->Sto->Option Fl
 |0,_,_,_=>none
 | m+1,i,env,S=>(r.nx i S).bind fun o=>match o with
  |none=>some (.nx env S)
  | some d=>match step d env S with
   |some (.nx e1 S1)=>forL r step m (i+1) e1 S1
   |some (.ct e1 S1)=>forL r step m (i+1) e1 S1
   |some (.bk e1 S1)=>some (.nx e1 S1)
   |some (.rt d S1)=>some (.rt d S1)
   |none=>none
mutual
noncomputable def evS(c:Cl)(W:Nat):Sm->En->Sto->Option Fl
 |.asg t e,env,S=>(ev c e env S).bind fun r=>(asg c t r.1 env r.2).map fun q=>.nx q.1 q.2
 |.par i j a b,env,S=>(ev c a env S).bind fun r=>(ev c b env r.2).map fun q=>.nx ((env.set i (some r.1)).set j (some q.1)) q.2
 |.ex e,env,S=>(ev c e env S).map fun r=>.nx env r.2
 |.ret e,env,S=>(ev c e env S).map fun r=>.rt r.1 r.2
 |.ifs x a b,env,S=>(evT c x env S).bind fun r=>if r.1 then evSs c W a env r.2 else evSs c W b env r.2
 |.fr t it b,env,S=>(evI c it env S).bind fun r=>forL r.1 (fun d e1 S1=>(asg c t d e1 S1).bind fun q=>evSs c W b q.1 q.2) r.1.fuel 0 env r.2
 |.bad,_,_=>none
 | .fas o x v,env,S=>(ev c v env S).bind fun r=>(ev c o env r.2).bind fun q=>match q.1 with
  | .ref n=>(match q.2[n]? with
   |some (.ins C fs)=>if c.fd C x=true/\fs.length<1000 then some (.nx env (q.2.set n (.ins C (putN x r.1 fs)))) else none
   |_=>none)
  |_=>none
noncomputable def evSs(c:Cl)(W:Nat):Sms->En->Sto->Option Fl
 |.nil,env,S=>some (.nx env S)
 | .cons s ss,env,S=>(evS c W s env S).bind fun r=>match r with
  |.nx e1 S1=>evSs c W ss e1 S1
  |r=>some r
end
structure FI where
 ps:Nat
 nn:Nat
 body:Sms
structure Tab where
 fns:List (Str×FI)
 gls:List (Str×D)
 gds:List (Str×List (Str×Int))
 fds:List (Str×Str)
 mts:List (Str×FI)
noncomputable def Tab.lookup(T:Tab)(f:Str):Option FI:=T.fns.lookup f
noncomputable def fin:Fl->Option (D×Sto)
 |.rt d S=>some (d,S)
 |.nx _ S=>some (.non,S)
 |_=>none
noncomputable def ZQ(n:Nat)(ds:List D):En:=ds.map some++List.replicate (n - ds.length) none
noncomputable def Za(T:Tab)(W:Nat):Nat->Cl
 |0=>⟨fun _ _ _=>none,fun x=>T.gls.lookup x,fun x=>T.gds.lookup x,fun C x=>T.fds.contains (C,x),fun _ _ _=>none,fun _ _ _=>none⟩
 | k+1=>⟨fun f ds S=>(T.lookup f).bind fun fi=>if ds.length=fi.ps then (evSs (Za T W k) W fi.body (ZQ fi.nn ds) S).bind fin else none,fun x=>T.gls.lookup x,fun x=>T.gds.lookup x,fun C x=>T.fds.contains (C,x),
  fun f ds S=>(T.mts.lookup f).bind fun fi=>if ds.length=fi.ps then (evSs (Za T W k) W fi.body (ZQ fi.nn ds) S).bind fin else none,(Za T W k).mt⟩
noncomputable def ZE(x:Str):Bool:=!(decide (x="__debug__")||decide (x="__classdict__")||decide (x="__name__"))
noncomputable def blts:List Str:=["len","abs","min","max","int","bool","str","tuple","list","isinstance","range","enumerate","zip","all","any","divmod","sorted","set","dict","reversed","sum"]
noncomputable def slot(x:Str):List Str->Option Nat
 |[]=>none
 |y::r=>if y=x then some 0 else (slot x r).map (·+1)
theorem slot_get{x:Str}:∀ {N:List Str}{i:Nat},slot x N=some i->N[i]?=some x
 |[],i,h=>by cases h
 | y::r,i,h=>by
  rw[slot] at h;split at h
  ·rename_i e;cases h;simp[e]
  ·obtain⟨j,h1,rfl⟩:=zoM h;simpa using slot_get h1
noncomputable def notStar:Expr->Bool
 |.Starred ..=>false
 |_=>true
noncomputable def Yb:Expr->Bool
 |.Slice ..=>false
 |_=>true
noncomputable def V4(nm:List (Str×NameKind))(x:Str):Bool:=decide (nm.lookup x=some .local)||decide (nm.lookup x=some .cell)
noncomputable def isTup:Expr->Bool
 |.Tuple ..=>true
 |_=>false
noncomputable def ownN(scope:Scope):List Str:=(scope.names.filter fun p=>decide (p.2=.local)).map (·.1)
noncomputable def YV(scope:Scope):List Str:=(scope.names.filter fun p=>decide (p.2=.free)).map (·.1)
noncomputable def Z1(scope:Scope):List Str:=ownN scope++YV scope
noncomputable def YL(N:List Str)(nm:List (Str×NameKind))(scope:Scope):Bool:=
 decide (scope.kind=.function)&&scope.names.all (fun p=>decide (p.2≠.cell)&&decide (scope.names.lookup p.1=some p.2))&&decide (Z1 scope).Nodup &&
  (YV scope).all (fun y=>(decide (nm.lookup y=some .cell)||decide (nm.lookup y=some .free))&&(slot y N).isSome)
noncomputable def asL(b:Bool)(l:Lx):Ex:=if b then .lr l else .lv l
noncomputable def isOp(op:CmpOp):Bool:=decide (op=.Is)||decide (op=.IsNot)
open PySem PySem.Spec PyProof.Rows L2
inductive Nx(K:Frag)(mu:List Addr)(H H1:Hp)(S:Sto)(R:List Addr->Prop):Prop
 |mk (mu1:List Addr) (e:Ext mu H mu1 H1) (w:WR K mu1 H1 S) (r:R mu1)
inductive Ny(K:Frag)(mu:List Addr)(H H1:Hp)(S:Sto):Prop
 |mk (mu1:List Addr) (e:Ext mu H mu1 H1) (w:WR K mu1 H1 S)
inductive Nz(Y:Cx)(K:Frag)(mu:List Addr)(H:Hp)(pp:zPn)(S':Sto)(env':En)(s':Shared):Prop
 |mk (mu':List Addr) (σ':St) (H':Hp) (e:Ext mu H mu' H') (I:Inv Y pp σ' H' s') (w:WR K mu' H' S') (r:ER K mu' H' env' σ')
inductive tE(K:Frag)(f:En->Sto->Option (D×Sto))(σ:St)(H:Hp)(Q:VK):Prop
 |mk (mu:List Addr) (env:En) (S:Sto) (he:ER K mu H env σ) (hw:WR K mu H S) (d:D) (S':Sto) (hf:f env S=some (d,S')) (k:∀ v mu' H',Ext mu H mu' H'->WR K mu' H' S'->RD K mu' H' d v->Q v H')
inductive tT(K:Frag)(f:En->Sto->Option (Bool×Sto))(σ:St)(H:Hp)(Q:Bool->Hp->Prop):Prop
 |mk (mu:List Addr) (env:En) (S:Sto) (he:ER K mu H env σ) (hw:WR K mu H S) (b:Bool) (S':Sto) (hf:f env S=some (b,S')) (k:∀ mu' H',Ext mu H mu' H'->WR K mu' H' S'->Q b H')
inductive tA(K:Frag)(f:En->Sto->Option (List D×Sto))(σ:St)(H:Hp)(Q:List V->Hp->Prop):Prop
 |mk (mu:List Addr) (env:En) (S:Sto) (he:ER K mu H env σ) (hw:WR K mu H S) (ds:List D) (S':Sto) (hf:f env S=some (ds,S')) (k:∀ vs mu' H',Ext mu H mu' H'->WR K mu' H' S'->RDs K mu' H' ds vs->Q vs H')
inductive tO(K:Frag)(f:En->Sto->Option (Option Int×Sto))(σ:St)(H:Hp)(Q:Option Int->Hp->Prop):Prop
 |mk (mu:List Addr) (env:En) (S:Sto) (he:ER K mu H env σ) (hw:WR K mu H S) (o:Option Int) (S':Sto) (hf:f env S=some (o,S')) (k:∀ mu' H',Ext mu H mu' H'->WR K mu' H' S'->Q o H')
inductive tN(K:Frag)(f:En->Sto->Option (List D×Sto))(σ:St)(H:Hp)(Q:VK):Prop
 |mk (mu:List Addr) (env:En) (S:Sto) (he:ER K mu H env σ) (hw:WR K mu H S) (ds:List D) (S':Sto) (hf:f env S=some (ds,S')) (k:∀ vs p mu' H',Ext mu H mu' H'->WR K mu' H' S'->H' p=none->RDs K mu' H' ds vs->Q (.ref p) (upd H' p (.lst vs)))
noncomputable def spOf(K:Frag)(T:Tab)(W k:Nat)(f:Str):Sp:=fun vs H Q _=>∃ mu S ds,WR K mu H S/\RDs K mu H ds vs/\(∃ fi,T.lookup f=some fi/\ds.length=fi.ps)/\∃ d S',(Za T W k).fn f ds S=some (d,S') /\
 ∀ v mu' H',Ext mu H mu' H'->WR K mu' H' S'->RD K mu' H' d v->Q v H'
noncomputable def spM(K:Frag)(T:Tab)(W k:Nat)(f:Str):Sp:=fun vs H Q _=>∃ mu S ds,WR K mu H S/\RDs K mu H ds vs/\(∃ fi,T.mts.lookup f=some fi/\ds.length=fi.ps)/\∃ d S',(Za T W k).mt f ds S=some (d,S') /\
 ∀ v mu' H',Ext mu H mu' H'->WR K mu' H' S'->RD K mu' H' d v->Q v H'
def MsF(P:Program)(w:World)(K:Frag)(mg:Str->Option Value)(base:Heap)(T:Tab)(W k:Nat):Prop:=∀ (C m:Str) (fi:FI),m≠"__init__"->T.mts.lookup (Zh C m)=some fi ->
 ∃ (Ca fa:Addr) (fd:FuncData) (ps:List Str),ps.length=fi.ps/\PySem.W.nsIn K mainGlobals C=some (some (.ref Ca))/\Cls K Ca/\Meth K Ca m fa/\Binds K fd ps []/\FnOk P w K mg base CX0 k fa fd ps (spM K T W k (Zh C m))
def MkF(P:Program)(w:World)(K:Frag)(mg:Str->Option Value)(base:Heap)(T:Tab)(W j:Nat):Prop:=∀ (C:Str) (fi:FI),T.mts.lookup (Zh C "__init__")=some fi ->
 ∃ (Ca fa:Addr) (fd:FuncData) (ps:List Str),ps.length=fi.ps/\PySem.W.nsIn K mainGlobals C=some (some (.ref Ca))/\mg C=some (.ref Ca)/\Mk K Ca fa/\Binds K fd ps []/\FnOk P w K mg base CX0 j fa fd ps (spM K T W j (Zh C "__init__"))
def GdF(K:Frag)(w:World)(mg:Str->Option Value)(x:Str)(kvs:List (Str×Int)):Prop:=
 ∃ (a:Addr) (es:Array DictEntry) (n:Nat),mg x=some (.ref a)/\K.lookup a=some ⟨.type "dict",none,.dict es n,#[]⟩/\PySem.W.KeysLit w.params es.toList/\(a==sysModules)=false /\
  ∀ y,∃ r,PySem.W.nsIn K a y=some r/\(match kvs.lookup y with
   |some i=>∃ t,r=some (.int i t)
   |none=>r=none)
def FdF(T:Tab)(K:Frag):Prop:=∀ (C x:Str) (Ca:Addr),T.fds.contains (C,x)=true->PySem.W.nsIn K mainGlobals C=some (some (.ref Ca))->Cls K Ca/\Yq K Ca x
structure XOk(X:Cx)(T:Tab)(W k:Nat)(nm:List (Str×NameKind)):Prop where
 calm:X.calm=true
 room:Room k X.A
 nd:X.N.Nodup
 po:PassesOwn (model X.prog X.w) X.A X.env X.xe
 kv:∀ x,(nm.lookup x=some .local\/nm.lookup x=some .cell\/nm.lookup x=some .free)->Vis X.env.scope x
 kw:∀ x,V4 nm x=true->Loc X.env.scope x/\(X.fn x=true\/X.env.scope.names.lookup x=some .local)
 kg:∀ x,nm.lookup x=some .globalImplicit->X.env.scope.names.lookup x=some .globalImplicit
 kl:∀ x,nm.lookup x=some .local->X.env.scope.names.lookup x=some .local
 kc:∀ x,(nm.lookup x=some .cell\/nm.lookup x=some .free)->X.env.kindOf x=some .cell
 bl:∀ f∈blts,X.mg f=none
 fs:∀ f fi,T.lookup f=some fi->∃ (fa:Addr) (fd:FuncData) (ps:List Str),ps.length=fi.ps/\X.mg f=some (.ref fa)/\PySem.W.keepIn X.K (.ref fa)=true/\Binds X.K fd ps [] /\
  FnOk X.prog X.w X.K X.mg X.base CX0 k fa fd ps (spOf X.K T W k f)
 gs:∀ x d,T.gls.lookup x=some d->∃ u v,X.mg x=some u/\RelV v u/\∀ mu H,RD X.K mu H d v
 gd:∀ x kvs,T.gds.lookup x=some kvs->GdF X.K X.w X.mg x kvs
 cf:FdF T X.K
 ms:MsF X.prog X.w X.K X.mg X.base T W k
 mk':∀ j,k=j+1->MkF X.prog X.w X.K X.mg X.base T W j
section
variable {X:Cx}{pins:zPn}{σ:St}{H:Hp}{s:Shared}{mu:List Addr}{S:Sto}
theorem RD.tup_at{K:Frag}{ds:List D}{v:V}(h:RD K mu H (.tup ds) v):∃ a xs,v=.ref a/\SqT K H a xs/\RDs K mu H ds xs:=by
 dsimp only[RD] at h;obtain⟨a,xs,e,h,r⟩:=h;refine⟨a,xs,e,?_,r⟩
 rcases h with ⟨_,h⟩ | h
 ·exact .inl (.inl h)
 ·exact .inr h.1
theorem RD.tup3_at{K:Frag}{ds:List D}{v:V}(h:RD K mu H (.tup ds) v)(h3:ds.length=3):∃ a xs,v=.ref a/\a∉mu/\H a=some (.tup xs)/\RDs K mu H ds xs:=by
 dsimp only[RD] at h;obtain⟨a,xs,e,h,r⟩:=h
 rcases h with ⟨n,h⟩ | h
 ·exact⟨a,xs,e,n,h,r⟩
 ·exact absurd h3 h.2
theorem RD.lst_at{K:Frag}{ds:List D}{v:V}(h:RD K mu H (.lst ds) v):∃ a xs,v=.ref a/\SqL K H a xs/\RDs K mu H ds xs:=by
 dsimp only[RD] at h;obtain⟨a,xs,e,h,r⟩:=h;refine⟨a,xs,e,?_,r⟩
 rcases h with ⟨_,h⟩ | h
 ·exact .inl h
 ·exact .inr h
theorem Yr{K:Frag}{d:D}{ds:List D}{v:V}(w:WR K mu H S)(h:items S d=some ds)(r:RD K mu H d v):∃ a xs,v=.ref a/\(SqL K H a xs\/SqT K H a xs)/\RDs K mu H ds xs:=by
 cases d with
 | tup es=>
  cases h
  obtain⟨a,xs,e,h,r⟩:=r.tup_at;exact⟨a,xs,e,.inr h,r⟩
 | lst es=>
  cases h
  obtain⟨a,xs,e,h,r⟩:=r.lst_at;exact⟨a,xs,e,.inl h,r⟩
 | ref n=>
  rw[items] at h;dsimp only[RD] at r;obtain⟨a,e,rfl⟩:=r;cases q:S[n]? with
  |none=>rw[q] at h;cases h
  | some o=>
   rw[q] at h;cases o with
   |dk es=>cases h
   |dt es=>cases h
   |ins _ _=>cases h
   |dtf _=>cases h
   | lst es=>
    cases h
    obtain⟨b,e1,xs,e2,r⟩:=w.get q;rw[e] at e1;cases e1
    exact⟨a,xs,rfl,.inl (SqL.of e2),r⟩
 |_=>cases h
theorem int_at{K:Frag}{i:Int}{v:V}(r:RD K mu H (.int i) v):v=.int i:=by dsimp only[RD] at r;exact r
theorem YW{K:Frag}{i:Bool}{v:V}(r:RD K mu H (.bl i) v):v=.bl i:=by dsimp only[RD] at r;exact r
theorem ZU{K:Frag}{i:Str}{v:V}(r:RD K mu H (.str i) v):v=.str i:=by dsimp only[RD] at r;exact r
theorem JX{K:Frag}{v:V}(r:RD K mu H .non v):v=.non:=by dsimp only[RD] at r;exact r
theorem ZK{K:Frag}{i:Int}:RD K mu H (.int i) (.int i):=by dsimp only[RD]
theorem YX{K:Frag}{i:Bool}:RD K mu H (.bl i) (.bl i):=by dsimp only[RD]
theorem qF{K:Frag}{i:Str}:RD K mu H (.str i) (.str i):=by dsimp only[RD]
theorem UK{K:Frag}:RD K mu H .non .non:=by dsimp only[RD]
theorem ZD:sizeLine=line:=sizeLine_eq
theorem intBits_le(h:k.natAbs<2 ^ n):Builtin.Int.intBits k<=n:=by
 unfold Builtin.Int.intBits;split
 ·exact zero_le _
 ·rename_i hk;have h0:k.natAbs≠0:=by
   intro e;have:k=0:=Int.natAbs_eq_zero.1 e;exact hk (by simpa using this)
  have:k.natAbs.log2<n:=(Nat.log2_lt h0).mpr h;lia
theorem MulOk.ok(h:MulOk i j):IntMulOk i j:=by
 rcases h with ⟨h1,h2⟩ | ⟨h1,h2⟩ | ⟨h1,h2⟩
 ·exact .of_left (intBits_le_64 h1 h2)
 ·exact .of_right (intBits_le_64 h1 h2)
 ·have a:=intBits_le h1;have b:=intBits_le h2;exact .of_bits (oAq a (by decide)) (oAq b (by decide))
def OpS(X:Cx)(f:Value->Value->Sem Value)(g:Sto->D->D->Option D):Prop:=
 ∀ (pins:zPn) (s:Shared) (σ:St) (H:Hp) (mu:List Addr) (S:Sto) (x y:V) (v u:Value) (da db d:D) (Q:VK),Inv X pins σ H s->WR X.K mu H S->RelV x v->RelV y u->RD X.K mu H da x->RD X.K mu H db y->g S da db=some d ->
  (∀ v' mu' H',Ext mu H mu' H'->WR X.K mu' H' S->RD X.K mu' H' d v'->Q v' H')->wpAny (model X.prog X.w) X.A (f v u) (EP X pins σ Q) X.xe s
theorem ZcA:OpR X (binaryOp .FloorDiv) (rI (fun _ j=>0<j/\j<bigJ) fun i j=>.int (i / j)):=opI fun i j _ _ _ _ _ hc q=>by
 have h1:(0:Int)<j:=hc.1;have h2:j<bigJ:=hc.2;refine floordiv_int (by omega) (by rw[Int.fdiv_eq_ediv_of_nonneg i (by omega)];exact q) (.inl (PyProof.noPylong_of_log2 ?_))
 have h0:j.natAbs≠0:=by omega
 suffices z:j.natAbs<2 ^ 4000 from oAo ((Nat.log2_lt h0).mpr z) (by decide)
 have h3:((j.natAbs:Nat):Int)<((2 ^ 4000:Nat):Int):=by
  have e:((j.natAbs:Nat):Int)=j:=by omega
  rw[e];have e2:((2 ^ 4000:Nat):Int)=bigJ:=by rfl
  rw[e2];exact h2
 exact Int.ofNat_lt.1 h3
theorem Yc{K:Frag}{d:D}{ds:List D}{v:V}(w:WR K mu H S)(h:lsOf S d=some ds)(r:RD K mu H d v):∃ a xs,v=.ref a/\SqL K H a xs/\RDs K mu H ds xs:=by
 cases d with
 | lst es=>
  cases h
  obtain⟨a,xs,e,h,r⟩:=r.lst_at;exact⟨a,xs,e,h,r⟩
 | ref n=>
  replace h:items S (.ref n)=some ds:=h;rw[items] at h;dsimp only[RD] at r;obtain⟨a,e,rfl⟩:=r;cases q:S[n]? with
  |none=>rw[q] at h;cases h
  | some o=>
   rw[q] at h;cases o with
   |dk es=>cases h
   |dt es=>cases h
   |ins _ _=>cases h
   |dtf _=>cases h
   | lst es=>
    cases h
    obtain⟨b,e1,xs,e2,r⟩:=w.get q;rw[e] at e1;cases e1
    exact⟨a,xs,rfl,SqL.of e2,r⟩
 |_=>cases h
theorem RDs.rep{K:Frag}{ds:List D}{xs:List V}(h:RDs K mu H ds xs):∀ k:Nat,RDs K mu H (List.replicate k ds).flatten (List.replicate k xs).flatten
 |0=>by simp;exact .nil
 | k+1=>by
  rw[replicate_succ,replicate_succ,flatten_cons,flatten_cons];exact h.append (RDs.rep h k)
def OpN(X:Cx)(f:Value->Value->Sem Value)(g:Sto->D->D->Option (List D)):Prop:=
 ∀ (pins:zPn) (s:Shared) (σ:St) (H:Hp) (mu:List Addr) (S:Sto) (x y:V) (v u:Value) (da db:D) (ds:List D) (Q:VK),Inv X pins σ H s->WR X.K mu H S->RelV x v->RelV y u->RD X.K mu H da x->RD X.K mu H db y->g S da db=some ds ->
  (∀ vs p,H p=none->RDs X.K mu H ds vs->Q (.ref p) (upd H p (.lst vs)))->wpAny (model X.prog X.w) X.A (f v u) (EP X pins σ Q) X.xe s
theorem ZcB(I:Inv X pins σ H s)(hl:SqL X.K H l xs)(hb:SqL X.K H b ys)(hz:xs.length+ys.length<=sizeLine)(q:∀ p,H p=none->Q (.ref p) (upd H p (.lst (xs++ys)))) :
  wpAny (model X.prog X.w) X.A (binaryOp .Add (.ref l) (.ref b)) (EP X pins σ Q) X.xe s:=by
 obtain⟨i1,r1,⟨⟨c1,d1,t1,s1⟩,n1,e1,a1,_,b1⟩,_⟩:=I.list hl;obtain⟨i2,r2,⟨⟨c2,d2,t2,s2⟩,n2,e2,a2,_,b2⟩,_⟩:=I.list hb;cases a1;cases b1;cases a2;cases b2
 refine concat_meets ⟨_,e1,rfl⟩ ⟨_,e2,rfl⟩ noFill_list_add seq_list_add PySem.F.slot_list_add PySem.F.entry_list_add (PySem.F.args_list_add_2 _ _)
  (list_addW l b i1.toArray i2.toArray n1 n2 d1 d2 s1 s2 (by rw[size_toArray,size_toArray,<-r1.length,<-r2.length];exact hz)) ⟨e1,e2,?_⟩
 have ea:i1.toArray++i2.toArray=(i1++i2).toArray:=by simp
 rw[ea];exact⟨.ref _,_,I.lnew (t':=s.toks) (r1.append r2) (by rw[length_append];exact hz),rfl,q _ I.fresh⟩
theorem ZcC(I:Inv X pins σ H s)(hl:SqL X.K H l xs)(h1:-(2 ^ 62)<k)(h2:k<2 ^ 62)(hz:xs.length * k.toNat<=sizeLine)(q:∀ p,H p=none->Q (.ref p) (upd H p (.lst (List.replicate k.toNat xs).flatten))) :
  wpAny (model X.prog X.w) X.A (binaryOp .Mult (.ref l) (.int k t)) (EP X pins σ Q) X.xe s:=by
 obtain⟨i1,r1,⟨⟨c1,d1,t1,s1⟩,n1,e1,a1,_,b1⟩,_⟩:=I.list hl;cases a1;cases b1
 have hsz:i1.toArray.size * k.toNat<=sizeLine:=by rw[size_toArray,<-r1.length];exact hz
 have hsl:sizeLine=16777216:=ZD;have hsz2:i1.length * k.toNat<=sizeLine:=by rw[<- r1.length];exact hz
 refine wpAny_binaryOp_repeat_ref (T:="list") (U:="int") (by decide) ⟨_,e1,rfl⟩ (fun s'=>typeIs_int s' k t) noFill_list_mul PySem.F.fills_int_mul PySem.F.slot_int_rmul repeat_list PySem.F.slot_int_index.lookup
  (call_meets PySem.F.slot_int_rmul (typeIs_int s k t) PySem.F.entry_int_rmul (PySem.F.args_int_rmul_2 _ _) (lm_int_rmul_list_any k t l i1.toArray n1 d1 s1)
   ⟨e1,rfl,⟨_,e1,rfl⟩,call_meets PySem.F.slot_list_mul ⟨_,e1,rfl⟩ PySem.F.entry_list_mul (PySem.F.args_list_mul_2 _ _)
    (lm_list_mul_any l i1.toArray n1 d1 s1 k t (by simp[Builtin.List.listFitsIndex];lia) (by lia) (by simp[Builtin.List.listTooLong,sizeLine];lia)) ⟨e1,?_⟩⟩)
 rw[listMul_foldl_if];exact⟨.ref _,_,I.lnew (t':=s.toks) (ys:=(List.replicate k.toNat xs).flatten) (its:=(List.replicate k.toNat i1).flatten) (by simpa using r1.rep k.toNat) (by rw[len_rep,Nat.mul_comm];exact hz),rfl,q _ I.fresh⟩
theorem ZbB(op:Operator):OpN X (binaryOp op) (fun S=>JV S op):=by
 intro pins s σ H mu S x y v u da db ds Q I w rx ry ra rb h k;have hsl:=ZD;cases op with
 | Add=>
  replace h:((lsOf S da).bind fun xs=>(lsOf S db).bind fun ys=>if xs.length+ys.length<=line then some (xs++ys) else none)=some ds:=h;obtain⟨xs,h1,h⟩:=bO h;obtain⟨ys,h2,h⟩:=bO h;split at h
  ·rename_i hz;cases h
   obtain⟨a,vs,rfl,q1,r1⟩:=Yc w h1 ra;obtain⟨b,us,rfl,q2,r2⟩:=Yc w h2 rb;cases rx;cases ry
   exact ZcB I q1 q2 (by rw[hsl,<-r1.length,<-r2.length];exact hz) fun p hp=>k _ p hp (r1.append r2)
  ·cases h
 | Mult=>
  cases db with
  | int j=>
   replace h:((lsOf S da).bind fun xs=>if j<2 ^ 62/\-(2 ^ 62)<j/\xs.length * j.toNat<=line then some (List.replicate j.toNat xs).flatten else none)=some ds:=h;obtain⟨xs,h1,h⟩:=bO h;split at h
   ·rename_i hz;cases h
    obtain⟨a,vs,rfl,q1,r1⟩:=Yc w h1 ra;cases rx
    cases int_at rb
    obtain⟨t,rfl⟩:=ry;exact ZcC I q1 hz.2.1 hz.1 (by rw[hsl,<-r1.length];exact hz.2.2) fun p hp=>k _ p hp (r1.rep _)
   ·cases h
  |_=>cases da<;>cases h
 |_=>cases h
theorem RDs.cases_of_nil{K:Frag}{ds:List D}(h:RDs K mu H ds []):ds=[]:=by
 have:=h.length;cases ds with
 |nil=>rfl
 |cons _ _=>simp at this
theorem ZcD{xs ys:List D}{x y:V}{v u:Value}{Q:VK}(I:Inv X pins σ H s)(w:WR X.K mu H S)(rx:RelV x v)(ry:RelV y u)(ra:RD X.K mu H (.tup xs) x)(rb:RD X.K mu H (.tup ys) y)(hz:xs.length+ys.length<=line)
  (k:∀ v' mu' H',Ext mu H mu' H'->WR X.K mu' H' S->RD X.K mu' H' (.tup (xs++ys)) v'->Q v' H'):wpAny (model X.prog X.w) X.A (binaryOp .Add v u) (EP X pins σ Q) X.xe s:=by
 obtain⟨a,vs,rfl,q1,r1⟩:=ra.tup_at;obtain⟨b,us,rfl,q2,r2⟩:=rb.tup_at;have hsl:=ZD;by_cases hx:vs=[]
 ·subst hx;cases r1.cases_of_nil
  cases rx;cases ry
  obtain⟨i1,v1,⟨⟨c1,d1,t1,s1⟩,e1,a1,n1,b1⟩,_⟩:=I.tuple q1;obtain⟨i2,v2,⟨⟨c2,d2,t2,s2⟩,e2,a2,n2,b2⟩,_⟩:=I.tuple q2;cases v1
  cases a1;cases b1;cases a2;cases b2
  exact concat_meets ⟨_,e1,rfl⟩ ⟨_,e2,rfl⟩ noFill_tuple_add seq_tuple_add PySem.F.slot_tuple_add PySem.F.entry_tuple_add (PySem.F.args_tuple_add_2 _ _)
   (tuple_addW0 a b _ _ n1 n2 d1 d2 s1 s2 (by simp)) ⟨e1,e2,⟨.ref b,H,I,rfl,k _ mu H .refl w rb⟩⟩
 ·refine ZdR pins s σ H _ _ v u Q I rx ry ⟨a,b,vs,us,rfl,rfl,q1,q2,hx,by rw[hsl,<-r1.length,<-r2.length];exact hz,fun hy=>?_,fun hy p hp=>?_⟩
  ·subst hy;cases r2.cases_of_nil
   rw[append_nil] at k;exact k _ mu H .refl w ra
  ·refine k _ mu _ (Ext.new w hp) (w.keep hp) ?_;dsimp only[RD];exact⟨p,_,rfl,.inl ⟨w.fresh hp,Zv⟩,RDs.mono (Ext.new w hp) _ _ (r1.append r2)⟩
theorem Um.ok(h:Um i j):0<=j/\(Builtin.Int.intBits i:Int) * j<=2 ^ 27:=by
 obtain⟨h0,⟨h1,h2⟩ | ⟨h1,h2⟩⟩:=h
 ·refine⟨h0,?_⟩;have b:=intBits_le h2;have:(Builtin.Int.intBits i:Int) * j<=64 * 1000000:=Int.mul_le_mul (by lia) h1 h0 (by decide);lia
 ·refine⟨h0,?_⟩;have b:=intBits_le h2;have:(Builtin.Int.intBits i:Int) * j<=1000 * 100000:=Int.mul_le_mul (by lia) h1 h0 (by decide);lia
theorem ZcE(op:Operator):OpS X (binaryOp op) (fun S=>binop S op):=by
 intro pins s σ H mu S x y v u da db d Q I w rx ry ra rb h k;have lst:∀ ds,JV S op da db=some ds->d=.lst ds->wpAny (model X.prog X.w) X.A (binaryOp op v u) (EP X pins σ Q) X.xe s:=fun ds hb e=>by
  refine ZbB op pins s σ H mu S x y v u da db ds Q I w rx ry ra rb hb fun vs p hp rs=>k _ mu _ (Ext.new w hp) (w.keep hp) ?_;rw[e];dsimp only[RD]
  exact⟨p,vs,rfl,.inl ⟨w.fresh hp,.inl Zv⟩,RDs.mono (Ext.new w hp) _ _ rs⟩
 by_cases hl:isLs da=true
 ·have h':(JV S op da db).map D.lst=some d:=by
   cases da<;>first | (exact absurd hl oAg) | exact h
  obtain⟨ds,h1,h2⟩:=bM h';exact lst ds h1 h2.symm
 cases da with
 |lst _=>exact absurd rfl hl
 |ref _=>exact absurd rfl hl
 |non=>cases h
 |bl _=>cases h
 | tup xs=>
  cases db with
  | tup ys=>
   cases op with
   | Add=>
    replace h:(if xs.length+ys.length<=line then some (D.tup (xs++ys)) else none)=some d:=h;split at h
    ·rename_i hz;cases h
     exact ZcD I w rx ry ra rb hz k
    ·cases h
   |_=>cases h
  |_=>cases h
 | str i=>
  cases db with
  | str j=>
   cases op with
   | Add=>
    replace h:(if i.length+j.length<=line then some (D.str (i++j)) else none)=some d:=h;split at h
    ·rename_i hz;cases h;cases ZU ra;cases ZU rb
     exact Zaw pins s σ H _ _ v u Q I rx ry ⟨i,j,rfl,rfl,by rw[ZD];exact hz,k _ mu H .refl w qF⟩
    ·cases h
   |_=>cases h
  |_=>cases h
 | int i=>
  cases db with
  | int j=>
   cases int_at ra;cases int_at rb
   cases op with
   |Add=>cases h;exact Zfk pins s σ H _ _ v u Q I rx ry ⟨i,j,rfl,rfl,k _ mu H .refl w ZK⟩
   |Sub=>cases h;exact Zfl pins s σ H _ _ v u Q I rx ry ⟨i,j,rfl,rfl,k _ mu H .refl w ZK⟩
   |BitAnd=>cases h;exact Zfp pins s σ H _ _ v u Q I rx ry ⟨i,j,rfl,rfl,k _ mu H .refl w ZK⟩
   | Mult=>
    replace h:(if MulOk i j then some (D.int (i * j)) else none)=some d:=h;split at h
    ·rename_i hz;cases h
     obtain⟨t,rfl⟩:=rx;obtain⟨t',rfl⟩:=ry;exact mul_int ⟨.int _,H,I.tok _,⟨_,rfl⟩,k _ mu H .refl w ZK⟩ hz.ok
    ·cases h
   | Mod=>
    replace h:(if 0<j then some (D.int (i % j)) else none)=some d:=h;split at h
    ·rename_i hz;cases h
     exact Zfm pins s σ H _ _ v u Q I rx ry ⟨i,j,rfl,rfl,hz,k _ mu H .refl w ZK⟩
    ·cases h
   | Pow=>
    replace h:(if Um i j then some (D.int (i ^ j.toNat)) else none)=some d:=h;split at h
    ·rename_i hz;cases h
     obtain⟨t,rfl⟩:=rx;obtain⟨t',rfl⟩:=ry;exact PyProof.Rows.pow_int hz.ok.1 hz.ok.2 ⟨.int _,H,I.tok _,⟨_,rfl⟩,k _ mu H .refl w ZK⟩
    ·cases h
   | LShift=>
    replace h:(if 0<=j/\j<=1000000/\i.natAbs<2 ^ 64 then some (D.int (i * 2 ^ j.toNat)) else none)=some d:=h;split at h
    ·rename_i hz;cases h
     exact Zfn pins s σ H _ _ v u Q I rx ry ⟨i,j,rfl,rfl,hz,k _ mu H .refl w ZK⟩
    ·cases h
   | RShift=>
    replace h:(if 0<=j then some (D.int (i / 2 ^ j.toNat)) else none)=some d:=h;split at h
    ·rename_i hz;cases h
     exact Zfo pins s σ H _ _ v u Q I rx ry ⟨i,j,rfl,rfl,hz,k _ mu H .refl w ZK⟩
    ·cases h
   | FloorDiv=>
    replace h:(if 0<j/\j<bigJ then some (D.int (i / j)) else none)=some d:=h;split at h
    ·rename_i hz;cases h
     exact ZcA pins s σ H _ _ v u Q I rx ry ⟨i,j,rfl,rfl,hz,k _ mu H .refl w ZK⟩
    ·cases h
   |_=>cases h
  |_=>cases h
theorem Zd6{K:Frag}{a b:D}{x y:V}(h:W9 a b=true)(ra:RD K mu H a x)(rb:RD K mu H b y):scal x y=true/\decide (x=y)=decide (a=b):=by
 cases a<;>cases b<;>first
  |(exact absurd h (show ¬ (false=true) from oAg))
  |(dsimp only[RD] at ra;dsimp only[RD] at rb;subst ra;subst rb;exact⟨rfl,by simp⟩)
theorem U8{op:CmpOp}{p:Int->Int->Bool}(rule:∀ (i j:Int) (t u:Tok) (Q:zVP) (s:Shared),Q (.bool (p i j)) s->wpAny (model X.prog X.w) X.A (compareOp op (.int i t) (.int j u)) Q X.xe s)
  {i j:Int}{x y:V}{v u:Value}{Q:VK}(I:Inv X pins σ H s)(w:WR X.K mu H S)(rx:RelV x v)(ry:RelV y u)(ra:RD X.K mu H (.int i) x)(rb:RD X.K mu H (.int j) y)(k:Q (.bl (p i j)) H) :
  wpAny (model X.prog X.w) X.A (compareOp op v u) (EP X pins σ Q) X.xe s:=by
 cases int_at ra;cases int_at rb
 obtain⟨t,rfl⟩:=rx;obtain⟨t',rfl⟩:=ry;exact rule i j t t' _ _ ⟨.bl _,H,I,rfl,k⟩
mutual
theorem Jq(I:Inv X pins σ H s):∀ (d:D) (x:V) (u:Value),RD X.K mu H d x->RelV x u->YU d=true->∃ as,Reads s.heap u (toP d) as
 | .non,x,u,r,rx,_=>by
  cases JX r;cases rx;exact⟨_,.none⟩
 | .bl b,x,u,r,rx,_=>by
  cases YW r;cases rx;exact⟨_,.bool b⟩
 | .int i,x,u,r,rx,_=>by
  cases int_at r;obtain⟨t,rfl⟩:=rx;exact⟨_,.int i t⟩
 | .str y,x,u,r,rx,_=>by
  cases ZU r;obtain⟨t,rfl⟩:=rx;exact⟨_,.str y t⟩
 | .tup ds,x,u,r,rx,hp=>by
  obtain⟨a,xs,rfl,hq,rs⟩:=r.tup_at;cases rx
  obtain⟨its,rv,⟨o,h1,h2,n,h3⟩,_⟩:=I.tuple hq;obtain⟨as,ra⟩:=UL I ds xs its rs rv (by rw[YU] at hp;exact hp)
  exact⟨as,.tuple h1 h2 h3 (by simpa using ra)⟩
 | .lst ds,x,u,r,rx,hp=>by
  obtain⟨a,xs,rfl,hq,rs⟩:=r.lst_at;cases rx
  obtain⟨its,rv,⟨o,n,h1,h2,_,h3⟩,_⟩:=I.list hq;obtain⟨as,ra⟩:=UL I ds xs its rs rv (by rw[YU] at hp;exact hp)
  exact⟨_,.list h1 h2 h3 (by simpa using ra)⟩
 |.ref n,x,u,r,rx,hp=>by rw[YU] at hp;cases hp
theorem UL(I:Inv X pins σ H s):∀ (ds:List D) (xs:List V) (us:List Value),RDs X.K mu H ds xs->Vals xs us->Yh ds=true->∃ as,ReadsAll s.heap us (toPs ds) as
 | [],xs,us,r,rv,_=>by
  cases r.cases_nil;cases rv;exact⟨_,.nil⟩
 | d::ds,xs,us,r,rv,hp=>by
  obtain⟨x,xr,rfl,rd,rs⟩:=r.cases_cons;rw[Yh,and_eq_true] at hp;cases rv with
  | cons r1 r2=>
   obtain⟨as,h1⟩:=Jq I d x _ rd r1 hp.1;obtain⟨bs,h2⟩:=UL I ds xr _ rs r2 hp.2;exact⟨_,.cons h1 h2⟩
end
theorem ZV(h:okD d=true):YU d=true/\(toP d).canLay0=true/\(toP d).depth<=100:=by
 unfold okD at h;rw[and_eq_true,and_eq_true] at h;exact⟨h.1.1,h.1.2,oAj h.2⟩
mutual
theorem UM(I:Inv X pins σ H s)(w:WR X.K mu H S):∀ (n:Nat) (d d':D) (x:V) (u:Value),RD X.K mu H d x->RelV x u->fixD S n d=some d'->∃ as,Reads s.heap u (toP d') as
 |0,_,_,_,_,_,_,h=>by rw[fixD.eq_def] at h;cases h
 | n+1,.non,d',x,u,r,rx,h=>by
  rw[fixD.eq_def] at h;dsimp only at h;cases h
  cases JX r;cases rx;exact⟨_,.none⟩
 | n+1,.bl b,d',x,u,r,rx,h=>by
  rw[fixD.eq_def] at h;dsimp only at h;cases h
  cases YW r;cases rx;exact⟨_,.bool b⟩
 | n+1,.int i,d',x,u,r,rx,h=>by
  rw[fixD.eq_def] at h;dsimp only at h;cases h
  cases int_at r;obtain⟨t,rfl⟩:=rx;exact⟨_,.int i t⟩
 | n+1,.str y,d',x,u,r,rx,h=>by
  rw[fixD.eq_def] at h;dsimp only at h;cases h
  cases ZU r;obtain⟨t,rfl⟩:=rx;exact⟨_,.str y t⟩
 | n+1,.tup ds,d',x,u,r,rx,h=>by
  rw[fixD.eq_def] at h;dsimp only at h
  obtain⟨es,h1,rfl⟩:=bM h;obtain⟨a,xs,rfl,hq,rs⟩:=r.tup_at;cases rx
  obtain⟨its,rv,⟨o,h1',h2,m,h3⟩,_⟩:=I.tuple hq;obtain⟨as,ra⟩:=Ja I w n ds es xs its rs rv h1;exact⟨as,.tuple h1' h2 h3 (by simpa using ra)⟩
 | n+1,.lst ds,d',x,u,r,rx,h=>by
  rw[fixD.eq_def] at h;dsimp only at h
  obtain⟨es,h1,rfl⟩:=bM h;obtain⟨a,xs,rfl,hq,rs⟩:=r.lst_at;cases rx
  obtain⟨its,rv,⟨o,m,h1',h2,_,h3⟩,_⟩:=I.list hq;obtain⟨as,ra⟩:=Ja I w n ds es xs its rs rv h1;exact⟨_,.list h1' h2 h3 (by simpa using ra)⟩
 | n+1,.ref k,d',x,u,r,rx,h=>by
  rw[fixD.eq_def] at h;dsimp only at h
  obtain⟨ds,h0,h⟩:=bO h;obtain⟨es,h1,rfl⟩:=bM h;obtain⟨a,xs,rfl,hq,rs⟩:=Yc (d:=.ref k) w h0 r;cases rx
  obtain⟨its,rv,⟨o,m,h1',h2,_,h3⟩,_⟩:=I.list hq;obtain⟨as,ra⟩:=Ja I w n ds es xs its rs rv h1;exact⟨_,.list h1' h2 h3 (by simpa using ra)⟩
theorem Ja(I:Inv X pins σ H s)(w:WR X.K mu H S):∀ (n:Nat) (ds es:List D) (xs:List V) (us:List Value),RDs X.K mu H ds xs->Vals xs us->JJ S n ds=some es->∃ as,ReadsAll s.heap us (toPs es) as
 |0,_,_,_,_,_,_,h=>by rw[JJ.eq_def] at h;cases h
 | n+1,[],es,xs,us,r,rv,h=>by
  rw[JJ.eq_def] at h;dsimp only at h;cases h
  cases r.cases_nil;cases rv;exact⟨_,.nil⟩
 | n+1,d::ds,es,xs,us,r,rv,h=>by
  rw[JJ.eq_def] at h;dsimp only at h
  obtain⟨e,h1,h⟩:=bO h;obtain⟨es',h2,rfl⟩:=bM h;obtain⟨x,xr,rfl,rd,rs⟩:=r.cases_cons;cases rv with
  | cons r1 r2=>
   obtain⟨as,h3⟩:=UM I w n d e x _ rd r1 h1;obtain⟨bs,h4⟩:=Ja I w n ds es' xr _ rs r2 h2;exact⟨_,.cons h3 h4⟩
end
theorem zZ{K:Frag}{d d2:D}{x x2:V}(f:JK d=true)(f2:JK d2=true)(r:RD K mu H d x)(r2:RD K mu H d2 x2):YH x=true/\eqV x x2=eqF d d2:=by
 cases d<;>first | (exact absurd f oAg) | (cases d2<;>first | (exact absurd f2 oAg) | (dsimp only[RD] at r;dsimp only[RD] at r2;subst r;subst r2;exact⟨rfl,rfl⟩))
theorem qG{K:Frag}{d:D}{x:V}(f:JK d=true)(r:RD K mu H d x):∀ {ds:List D}{xs:List V},RDs K mu H ds xs->ds.all JK=true->xs.all YH=true/\inV x xs=ds.any fun z=>eqF z d
 |[],xs,rs,_=>by cases rs.cases_nil;exact⟨rfl,rfl⟩
 | e::es,xs,rs,h=>by
  obtain⟨y,ys,rfl,r1,r2⟩:=rs.cases_cons;rw[all_cons,and_eq_true] at h;obtain⟨a,b⟩:=qG f r r2 h.2;obtain⟨c1,c2⟩:=zZ h.1 f r1 r;refine⟨by rw[all_cons,c1,a];rfl,?_⟩
  unfold inV at b ⊢;rw[any_cons,any_cons,b,c2]
noncomputable def rdF(h:Heap)(da:PyData)(u:Value):Bool:=by
 classical exact if z:∃ d as,Reads h u d as/\d.canLay0=true then PyData.eqv z.choose da else false
theorem ZfM{h:Heap}{da d:PyData}{u:Value}{as:List Addr}(r:Reads h u d as)(hc:d.canLay0=true):rdF h da u=PyData.eqv d da:=by
 have z:∃ d as,Reads h u d as/\d.canLay0=true:=⟨d,as,r,hc⟩;unfold rdF;rw[dif_pos z];obtain⟨as',r',_⟩:=z.choose_spec;rw[<- SeqAt.Reads.unique d z.choose u as as' hc r r']
theorem qH(I:Inv X pins σ H s){A:Around}{a:D}{v:Value}{bs:List Addr}(hb:Reads s.heap v (toP a) bs)(hc:(toP a).canLay0=true)(hu:A.units+(toP a).depth<cLine):∀ {ds:List D}{xs:List V}{us:List Value},RDs X.K mu H ds xs->Vals xs us->ds.all okD=true ->
  (∀ u∈us,SeqAt.EqAt A s u v (rdF s.heap (toP a) u))/\us.any (rdF s.heap (toP a))=ds.any fun z=>PyData.eqv (toP z) (toP a)
 | [],xs,us,r,rv,_=>by
  cases r.cases_nil;cases rv;exact⟨fun u hu=>(by cases hu),rfl⟩
 | d::ds,xs,us,r,rv,ok=>by
  obtain⟨x,xs,rfl,rd,r⟩:=r.cases_cons;cases rv with
  | cons r1 rv=>
   rw[all_cons,and_eq_true] at ok;obtain⟨as,ra⟩:=Jq I d x _ rd r1 (ZV ok.1).1;have ca:=(ZV ok.1).2.1;obtain⟨e1,e2⟩:=qH I hb hc hu r rv ok.2;have e0:=ZfM (da:=toP a) ra ca;refine⟨fun u hu'=>?_,by rw[any_cons,any_cons,e0,e2]⟩
   rcases List.mem_cons.1 hu' with rfl | z
   ·rw[e0];exact SeqAt.eqAt_reads _ _ A s _ _ as bs ra hb ca hc (Nat.lt_of_le_of_lt (Nat.add_le_add_left (Nat.min_le_right _ _) _) hu)
   ·exact e1 u z
theorem Zdb(hu:X.A.units+100<cLine){a b:D}{t:Bool}{x y:V}{v u:Value}{Q:VK}(neg:Bool)(I:Inv X pins σ H s)(w:WR X.K mu H S)(rx:RelV x v)(ry:RelV y u)(ra:RD X.K mu H a x)(rb:RD X.K mu H b y)(h:inD S a b=some t)
  (k:Q (.bl (if neg then !t else t)) H):wpAny (model X.prog X.w) X.A (compareOp (if neg then .NotIn else .In) v u) (EP X pins σ Q) X.xe s:=by
 unfold inD at h;obtain⟨ds,h1,h⟩:=bO h;split at h
 ·rename_i hc;rw[and_eq_true] at hc;cases h
  obtain⟨p,xs,rfl,hq,rs⟩:=Yr w h1 rb;obtain⟨f1,f2⟩:=qG hc.1 ra rs hc.2;have fx:YH x=true:=(zZ hc.1 hc.1 ra ra).1;rw[<- f2] at k;cases neg with
  |false=>exact Zbl pins s σ H x _ v u Q I rx ry ⟨p,xs,rfl,hq,fx,f1,k⟩
  |true=>exact qq pins s σ H x _ v u Q I rx ry ⟨p,xs,rfl,hq,fx,f1,k⟩
 ·split at h
  ·rename_i hc;simp only[and_eq_true,decide_eq_true_eq] at hc;obtain⟨⟨h2,h3⟩,h4⟩:=hc;cases h
   obtain⟨p,xs,rfl,hq,rs⟩:=Yr w h1 rb;obtain⟨bs,r1⟩:=Jq I a x v ra rx (ZV h2).1;have hu1:X.A.in1.units+(toP a).depth<cLine:=by show X.A.units+1+_ < _;lia
   cases ry
   rcases hq with hq | hq
   ·obtain⟨its,r,pl,hz⟩:=I.list hq;obtain⟨e1,e2⟩:=qH I (A:=X.A.in1) r1 (ZV h2).2.1 hu1 rs r h4;have e3:its.toArray.any (rdF s.heap (toP a))=ds.any fun z=>PyData.eqv (toP z) (toP a):=by rw[<- e2];simp
    rw[<- e3] at k;cases neg with
    |false=>exact SeqAt.in_listAt _ pl.isList (fun z hz=>e1 z (by simpa using hz)) ⟨.bl _,H,I,rfl,k⟩
    |true=>exact SeqAt.notIn_listAt _ pl.isList (fun z hz=>e1 z (by simpa using hz)) ⟨.bl _,H,I,rfl,k⟩
   ·obtain⟨its,r,pl,hz⟩:=I.tuple hq;obtain⟨e1,e2⟩:=qH I (A:=X.A.in1) r1 (ZV h2).2.1 hu1 rs r h4;have e3:its.toArray.any (rdF s.heap (toP a))=ds.any fun z=>PyData.eqv (toP z) (toP a):=by rw[<- e2];simp
    rw[<- e3] at k;cases neg with
    |false=>exact SeqAt.in_tupleAt _ pl (fun z hz=>e1 z (by simpa using hz)) ⟨.bl _,H,I,rfl,k⟩
    |true=>exact SeqAt.notIn_tupleAt _ pl (fun z hz=>e1 z (by simpa using hz)) ⟨.bl _,H,I,rfl,k⟩
  ·cases h
theorem Zdc(hu:X.A.units+100<cLine){a b:D}{t:Bool}{x y:V}{v u:Value}{Q:VK}(neg:Bool)(I:Inv X pins σ H s)(w:WR X.K mu H S)(rx:RelV x v)(ry:RelV y u)(ra:RD X.K mu H a x)(rb:RD X.K mu H b y)(h:eqD S a b=some t)
  (k:Q (.bl (if neg then !t else t)) H):wpAny (model X.prog X.w) X.A (compareOp (if neg then .NotEq else .Eq) v u) (EP X pins σ Q) X.xe s:=by
 have units:∀ {da db:D},okD da=true->okD db=true->X.A.units+min (toP da).depth (toP db).depth<cLine:=fun {da db} h1 h2=>by
  have a1:=(ZV h1).2.2;have:=Nat.min_le_left (toP da).depth (toP db).depth;omega
 unfold eqD at h;split at h
 ·rename_i hz;cases h
  obtain⟨h1,h2⟩:=Zd6 hz ra rb;rw[<- h2] at k;cases neg with
  |false=>exact ZhV pins s σ H x y v u Q I rx ry ⟨h1,k⟩
  |true=>exact ZhW pins s σ H x y v u Q I rx ry ⟨h1,k⟩
 ·split at h
  ·rename_i hz;rw[and_eq_true] at hz;cases h
   obtain⟨as,r1⟩:=Jq I a x v ra rx (ZV hz.1).1;obtain⟨bs,r2⟩:=Jq I b y u rb ry (ZV hz.2).1;cases neg with
   |false=>exact SeqAt.compareEq_reads r1 r2 (ZV hz.1).2.1 (ZV hz.2).2.1 (units hz.1 hz.2) ⟨.bl _,H,I,rfl,k⟩
   |true=>exact SeqAt.compareNe_reads r1 r2 (ZV hz.1).2.1 (ZV hz.2).2.1 (units hz.1 hz.2) ⟨.bl _,H,I,rfl,k⟩
  ·obtain⟨a',e1,h⟩:=bO h;obtain⟨b',e2,h⟩:=bO h;split at h
   ·rename_i hz;rw[and_eq_true] at hz;cases h
    obtain⟨as,r1⟩:=UM I w _ a a' x v ra rx e1;obtain⟨bs,r2⟩:=UM I w _ b b' y u rb ry e2;cases neg with
    |false=>exact SeqAt.compareEq_reads r1 r2 (ZV hz.1).2.1 (ZV hz.2).2.1 (units hz.1 hz.2) ⟨.bl _,H,I,rfl,k⟩
    |true=>exact SeqAt.compareNe_reads r1 r2 (ZV hz.1).2.1 (ZV hz.2).2.1 (units hz.1 hz.2) ⟨.bl _,H,I,rfl,k⟩
   ·cases h
theorem U9{op:CmpOp}{p:Str->Str->Bool}(rule:∀ (i j:Str) (t u:Tok) (Q:zVP) (s:Shared),Q (.bool (p i j)) s->wpAny (model X.prog X.w) X.A (compareOp op (.str i t) (.str j u)) Q X.xe s)
  {i j:Str}{x y:V}{v u:Value}{Q:VK}(I:Inv X pins σ H s)(w:WR X.K mu H S)(rx:RelV x v)(ry:RelV y u)(ra:RD X.K mu H (.str i) x)(rb:RD X.K mu H (.str j) y)(k:Q (.bl (p i j)) H) :
  wpAny (model X.prog X.w) X.A (compareOp op v u) (EP X pins σ Q) X.xe s:=by
 cases ZU ra;cases ZU rb
 obtain⟨t,rfl⟩:=rx;obtain⟨t',rfl⟩:=ry;exact rule i j t t' _ _ ⟨.bl _,H,I,rfl,k⟩
theorem Wk{K:Frag}:∀ {ds:List D}{l:List Str}{xs:List V},ZM ds=some l->RDs K mu H ds xs->xs=l.map V.str
 |[],l,xs,h,r=>by cases h;dsimp only[RDs] at r;exact r
 | d::ds,l,xs,h,r=>by
  dsimp only[RDs] at r;obtain⟨x,t,rfl,rx,rt⟩:=r;cases d with
  | str z=>
   obtain⟨l',h1,rfl⟩:=bM (show (ZM ds).map (z::·)=some l from h);dsimp only[RD] at rx;rw[rx,Wk h1 rt];rfl
  |_=>cases h
theorem ZfN(hu:X.A.units<cLine){xs ys:List D}{l m:List Str}{x y:V}{v u:Value}{Q:VK}(I:Inv X pins σ H s)(rx:RelV x v)(ry:RelV y u)(ra:RD X.K mu H (.tup xs) x)(rb:RD X.K mu H (.tup ys) y)
  (h1:ZM xs=some l)(h2:ZM ys=some m)(k:Q (.bl (TS.lexB l m)) H):wpAny (model X.prog X.w) X.A (compareOp .Lt v u) (EP X pins σ Q) X.xe s:=by
 obtain⟨a,vs,rfl,qa,r1⟩:=ra.tup_at;obtain⟨b,us,rfl,qb,r2⟩:=rb.tup_at;cases rx;cases ry
 cases Wk h1 r1
 cases Wk h2 r2
 obtain⟨its,rv,pa,_⟩:=I.tuple qa;obtain⟨its2,rv2,pb,_⟩:=I.tuple qb;exact ZfH hu (show s.heap.IsTuple a its.toArray from pa) (show s.heap.IsTuple b its2.toArray from pb) (by simpa using V3 rv) (by simpa using V3 rv2) ⟨.bl _,H,I,rfl,k⟩
theorem Jr(hu:X.A.units+100<cLine)(op:CmpOp):OpS X (compareOp op) (fun S a b=>(cmpop S op a b).map D.bl):=by
 intro pins s σ H mu S x y v u da db d Q I w rx ry ra rb h k;replace h:(cmpop S op da db).map D.bl=some d:=h;obtain⟨b,h0,rfl⟩:=bM h;clear h;have fin:∀ {b':Bool},b'=b->Q (.bl b') H:=fun e=>by subst e;exact k _ mu H .refl w YX
 cases op with
 | Eq=>
  replace h0:eqD S da db=some b:=h0;exact Zdc hu false I w rx ry ra rb h0 (fin rfl)
 | NotEq=>
  replace h0:(eqD S da db).map not=some b:=h0;obtain⟨c,h1,h2⟩:=bM h0;exact Zdc hu true I w rx ry ra rb h1 (fin h2)
 | In=>
  replace h0:inD S da db=some b:=h0;exact Zdb hu false I w rx ry ra rb h0 (fin rfl)
 | NotIn=>
  replace h0:(inD S da db).map not=some b:=h0;obtain⟨c,h1,h2⟩:=bM h0;exact Zdb hu true I w rx ry ra rb h1 (fin h2)
 | Lt=>
  replace h0:ltC da db=some b:=h0;cases da<;>cases db<;>first | (cases h0;done) | skip
  ·exact U8 (fun _ _ _ _ _ _ h=>lt_int h) I w rx ry ra rb (fin (oAk h0))
  ·exact U9 (p:=fun x y=>TS.sLt x y) (fun _ _ _ _ _ _ h=>PySem.P.lt_str h) I w rx ry ra rb (fin (oAk h0))
  ·obtain⟨l,h1,h2⟩:=bO (show ((ZM _).bind fun l=>(ZM _).map fun m=>TS.lexB l m)=some b from h0);obtain⟨m,h3,h4⟩:=bM h2;exact ZfN (by omega) I rx ry ra rb h1 h3 (fin h4)
 | LtE=>
  replace h0:ordC _ _ da db=some b:=h0;cases da<;>cases db<;>first | (cases h0;done) | skip
  ·exact U8 (fun _ _ _ _ _ _ h=>le_int h) I w rx ry ra rb (fin (oAk h0))
  ·exact U9 (p:=fun x y=>!TS.sLt y x) (fun _ _ _ _ _ _ h=>PySem.P.le_str h) I w rx ry ra rb (fin (oAk h0))
 | Gt=>
  replace h0:ordC _ _ da db=some b:=h0;cases da<;>cases db<;>first | (cases h0;done) | skip
  ·exact U8 (fun _ _ _ _ _ _ h=>gt_int h) I w rx ry ra rb (fin (oAk h0))
  ·exact U9 (p:=fun x y=>TS.sLt y x) (fun _ _ _ _ _ _ h=>PySem.P.gt_str h) I w rx ry ra rb (fin (oAk h0))
 | GtE=>
  replace h0:ordC _ _ da db=some b:=h0;cases da<;>cases db<;>first | (cases h0;done) | skip
  ·exact U8 (fun _ _ _ _ _ _ h=>ge_int h) I w rx ry ra rb (fin (oAk h0))
  ·exact U9 (p:=fun x y=>!TS.sLt x y) (fun _ _ _ _ _ _ h=>PySem.P.ge_str h) I w rx ry ra rb (fin (oAk h0))
 |Is=>cases h0
 |IsNot=>cases h0
theorem ZcF{K:Frag}{d:D}{b:Bool}{x:V}(w:WR K mu H S)(h:truth S d=some b)(r:RD K mu H d x):TruV K x H b:=by
 have seq:∀ ds,items S d=some ds->b=!ds.isEmpty->TruV K x H b:=fun ds hi e=>by
  obtain⟨a,xs,rfl,h,r⟩:=Yr w hi r;have e2:(!ds.isEmpty)=!xs.isEmpty:=by
   have:=r.length;cases ds<;>cases xs<;>simp_all
  rcases h with h | h
  ·exact .inl ⟨xs,h,e.trans e2⟩
  ·exact .inr (.inl ⟨xs,h,e.trans e2⟩)
 cases d with
 |non=>cases JX r;exact(oAk h).symm
 |bl c=>cases YW r;exact(oAk h).symm
 |int i=>cases int_at r;exact(oAk h).symm
 | str y=>
  cases ZU r
  simp only[truth] at h;split at h
  ·rename_i hz;exact⟨by rw[ZD];exact hz,(oAk h).symm⟩
  ·cases h
 | tup ds=>
  replace h:(items S (.tup ds)).map (fun ds=>!ds.isEmpty)=some b:=h;obtain⟨es,h1,h2⟩:=bM h;exact seq es h1 h2.symm
 | lst ds=>
  replace h:(items S (.lst ds)).map (fun ds=>!ds.isEmpty)=some b:=h;obtain⟨es,h1,h2⟩:=bM h;exact seq es h1 h2.symm
 | ref n=>
  obtain⟨es,h1,h2⟩:=bM h;exact seq es h1 h2.symm
theorem Y0{Q:Bool->Hp->Prop}(I:Inv X pins σ H s)(w:WR X.K mu H S)(h:truth S d=some b)(r:RD X.K mu H d x)(rx:RelV x v)(k:Q b H) :
  wpAny (model X.prog X.w) X.A (truthy v) (TP X pins σ Q) X.xe s:=Zfq pins s σ H x v Q I rx ⟨b,ZcF w h r,k⟩
end
open PySem PySem.Spec PyProof.Rows L2
section
variable {X:Cx}{T:Tab}{W k:Nat}{pins:zPn}{σ:St}{H:Hp}{s:Shared}{mu:List Addr}{S:Sto}
theorem two(he:ER X.K mu H env σ)(hw:WR X.K mu H S)(h1:fa env S=some (da,S1))(h2:fb env S1=some (db,S2)) :
  tE X.K fa σ H fun x H1=>tE X.K fb σ H1 fun y H2=>Nx X.K mu H H2 S2 fun mu2=>RD X.K mu2 H2 da x/\RD X.K mu2 H2 db y:=
 ⟨mu,env,S,he,hw,da,S1,h1,fun x mu1 H1 e1 w1 r1=>⟨mu1,env,S1,he.mono e1,w1,db,S2,h2,fun y mu2 H2 e2 w2 r2=>⟨mu2,e1.trans e2,w2,RD.mono e2 _ _ r1,r2⟩⟩⟩
theorem Zh4(ha:PE X a (tE X.K (ev c xa)))(hb:PE X b (tE X.K (ev c xb))):PE X (.BinOp a op b pos) (tE X.K (ev c (.bin op xa xb))):=by
 intro pins s σ H Q I ⟨mu,env,S,he,hw,d,S',hf,k⟩;dsimp only[ev] at hf;obtain⟨da,S1,h1,hf⟩:=bP hf;obtain⟨db,S2,h2,hf⟩:=bP hf;obtain⟨d',h3,e⟩:=bM hf;cases e
 refine wpAny_BinOp (binT ha hb I (two he hw h1 h2) fun v u s2 x y H2 I2 rx ry ⟨mu2,e2,w2,r1,r2⟩=>?_);exact ZcE op pins s2 σ H2 mu2 S2 x y v u da db d Q I2 w2 rx ry r1 r2 h3 fun v' mu' H' e w r=>k v' mu' H' (e2.trans e) w r
theorem Zd7(ha:PE X a (tE X.K (ev c xa)))(hp:∀ whole,isTrue a X.env whole=(do let v<-whole;standAt a.pos;holding [v] (truthy v))):PT X a (tT X.K (evT c xa)):=by
 intro pins s σ H Q I ⟨mu,env,S,he,hw,d,S',hf,k⟩;dsimp only[evT] at hf;obtain⟨da,S1,h1,hf⟩:=bP hf;obtain⟨b,h2,e⟩:=bM hf;cases e
 refine isTrue_plain (thn (ha pins s σ H _ I ⟨mu,env,S,he,hw,da,S1,h1,fun v mu1 H1 e1 w1 r1=>(⟨mu1,e1,w1,r1⟩:Nx X.K mu H H1 S1 fun mu1=>RD X.K mu1 H1 da v)⟩) fun v s1 ⟨x,H1,I1,r1,mu1,e1,w1,r⟩=>?_) (hp _);exact Y0 I1 w1 h2 r r1 (k mu1 H1 e1 w1)
theorem Zh5(ha:PE X a (tE X.K (ev c xa))):PE X (.UnaryOp .Not a pos) (tE X.K (ev c (.not xa))):=by
 intro pins s σ H Q I ⟨mu,env,S,he,hw,d,S',hf,k⟩;dsimp only[ev] at hf;obtain⟨da,S1,h1,hf⟩:=bP hf;obtain⟨b,h2,e⟩:=bM hf;cases e
 refine UnaryOp_ (thn (ha pins s σ H _ I ⟨mu,env,S,he,hw,da,S1,h1,fun v mu1 H1 e1 w1 r1=>(⟨mu1,e1,w1,r1⟩:Nx X.K mu H H1 S1 fun mu1=>RD X.K mu1 H1 da v)⟩) fun v s1 ⟨x,H1,I1,r1,mu1,e1,w1,r⟩=>?_);refine not_of (thn (Y0 (Q:=fun b' H'=>b'=b/\H'=H1) I1 w1 h2 r r1 ⟨rfl,rfl⟩) fun b' s2 ⟨H2,I2,q⟩=>?_);obtain⟨rfl,rfl⟩:=q;exact⟨.bl (!b'),H2,I2,rfl,k _ mu1 _ e1 w1 YX⟩
theorem ZfO(ha:PT X a (tT X.K (evT c xa))):PT X (.UnaryOp .Not a pos) (tT X.K (evT c (.not xa))):=by
 intro pins s σ H Q I ⟨mu,env,S,he,hw,d,S',hf,k⟩;dsimp only[evT,ev] at hf;obtain⟨db,S2,h1,hf⟩:=bP hf;obtain⟨da,S1,h0,h1⟩:=bP h1;obtain⟨b,h2,e⟩:=bM h1;cases e
 obtain⟨b',h3,e⟩:=bM hf;cases e
 cases h3
 refine isTrue_not (thn (ha pins s σ H (fun c H1=>Q (!c) H1) I ⟨mu,env,S,he,hw,b,S1,?_,fun mu1 H1 e1 w1=>k mu1 H1 e1 w1⟩) fun _ _ ⟨H1,i,q⟩=>⟨H1,i,q⟩);dsimp only[evT];rw[h0]
 show (truth S1 da).map _=_;rw[h2];rfl
theorem Zh6(ha:PE X a (tE X.K (ev c xa)))(hb:PE X (.BoolOp .And (b::r) pos) (tE X.K (ev c xb))):PE X (.BoolOp .And (a::b::r) pos) (tE X.K (ev c (.and xa xb))):=by
 intro pins s σ H Q I ⟨mu,env,S,he,hw,d,S',hf,k⟩;dsimp only[ev] at hf;obtain⟨da,S1,h1,hf⟩:=bP hf;obtain⟨t,h2,hf⟩:=bO hf;refine BoolOp_and (thn (ha pins s σ H _ I ⟨mu,env,S,he,hw,da,S1,h1,fun v mu1 H1 e1 w1 r1=>(⟨mu1,e1,w1,r1⟩:Nx X.K mu H H1 S1 fun mu1=>RD X.K mu1 H1 da v)⟩) fun v s1 ⟨x,H1,I1,r1,mu1,e1,w1,r⟩=>?_);refine thn (Y0 (Q:=fun b' H'=>b'=t/\H'=H1) I1 w1 h2 r r1 ⟨rfl,rfl⟩) fun b' s2 ⟨H2,I2,q⟩=>?_;obtain⟨rfl,rfl⟩:=q;cases b' with
 |true=>exact hb pins s2 σ H2 Q I2 ⟨mu1,env,S1,he.mono e1,w1,d,S',hf,fun v' mu' H' e w r=>k v' mu' H' (e1.trans e) w r⟩
 | false=>
  cases hf
  exact⟨x,H2,I2,r1,k x mu1 H2 e1 w1 r⟩
theorem s_or(ha:PE X a (tE X.K (ev c xa)))(hb:PE X (.BoolOp .Or (b::r) pos) (tE X.K (ev c xb))):PE X (.BoolOp .Or (a::b::r) pos) (tE X.K (ev c (.or xa xb))):=by
 intro pins s σ H Q I ⟨mu,env,S,he,hw,d,S',hf,k⟩;dsimp only[ev] at hf;obtain⟨da,S1,h1,hf⟩:=bP hf;obtain⟨t,h2,hf⟩:=bO hf;refine BoolOp_or (thn (ha pins s σ H _ I ⟨mu,env,S,he,hw,da,S1,h1,fun v mu1 H1 e1 w1 r1=>(⟨mu1,e1,w1,r1⟩:Nx X.K mu H H1 S1 fun mu1=>RD X.K mu1 H1 da v)⟩) fun v s1 ⟨x,H1,I1,r1,mu1,e1,w1,r⟩=>?_);refine thn (Y0 (Q:=fun b' H'=>b'=t/\H'=H1) I1 w1 h2 r r1 ⟨rfl,rfl⟩) fun b' s2 ⟨H2,I2,q⟩=>?_;obtain⟨rfl,rfl⟩:=q;cases b' with
 |false=>exact hb pins s2 σ H2 Q I2 ⟨mu1,env,S1,he.mono e1,w1,d,S',hf,fun v' mu' H' e w r=>k v' mu' H' (e1.trans e) w r⟩
 | true=>
  cases hf
  exact⟨x,H2,I2,r1,k x mu1 H2 e1 w1 r⟩
theorem Yi(h:ev c x env S=some (d,S1))(h2:truth S1 d=some b):evT c x env S=some (b,S1):=by
 dsimp only[evT];rw[h]
 show (truth S1 d).map _=_;rw[h2];rfl
theorem ZfP(ha:PT X a (tT X.K (evT c xa)))(hb:PW X (.BoolOp .And (b::r) pos) (tT X.K (evT c xb))):PW X (.BoolOp .And (a::b::r) pos) (tT X.K (evT c (.and xa xb))):=by
 intro wh pins s σ H Q I ⟨mu,env,S,he,hw,d,S',hf,k⟩;dsimp only[evT,ev] at hf;obtain⟨db,S2,h1,hf⟩:=bP hf;obtain⟨da,S1,h0,h1⟩:=bP h1;obtain⟨t,h2,h1⟩:=bO h1;obtain⟨b',h3,e⟩:=bM hf;cases e
 refine isTrue_and (thn (ha pins s σ H (fun b' H'=>b'=t/\Ny X.K mu H H' S1) I ⟨mu,env,S,he,hw,t,S1,Yi h0 h2,fun mu1 H1 e1 w1=>⟨rfl,mu1,e1,w1⟩⟩) fun b' s1 ⟨H1,I1,q1⟩=>?_);obtain⟨rfl,mu1,e1,w1⟩:=q1;cases b' with
 |true=>exact hb wh pins s1 σ H1 Q I1 ⟨mu1,env,S1,he.mono e1,w1,d,S2,Yi h1 h3,fun mu' H' e w=>k mu' H' (e1.trans e) w⟩
 | false=>
  cases h1
  rw[h2] at h3;cases h3
  exact⟨H1,I1,k mu1 H1 e1 w1⟩
theorem Zh7(ha:PT X a (tT X.K (evT c xa)))(hb:PW X (.BoolOp .Or (b::r) pos) (tT X.K (evT c xb))):PW X (.BoolOp .Or (a::b::r) pos) (tT X.K (evT c (.or xa xb))):=by
 intro wh pins s σ H Q I ⟨mu,env,S,he,hw,d,S',hf,k⟩;dsimp only[evT,ev] at hf;obtain⟨db,S2,h1,hf⟩:=bP hf;obtain⟨da,S1,h0,h1⟩:=bP h1;obtain⟨t,h2,h1⟩:=bO h1;obtain⟨b',h3,e⟩:=bM hf;cases e
 refine isTrue_or (thn (ha pins s σ H (fun b' H'=>b'=t/\Ny X.K mu H H' S1) I ⟨mu,env,S,he,hw,t,S1,Yi h0 h2,fun mu1 H1 e1 w1=>⟨rfl,mu1,e1,w1⟩⟩) fun b' s1 ⟨H1,I1,q1⟩=>?_);obtain⟨rfl,mu1,e1,w1⟩:=q1;cases b' with
 |false=>exact hb wh pins s1 σ H1 Q I1 ⟨mu1,env,S1,he.mono e1,w1,d,S2,Yi h1 h3,fun mu' H' e w=>k mu' H' (e1.trans e) w⟩
 | true=>
  cases h1
  rw[h2] at h3;cases h3
  exact⟨H1,I1,k mu1 H1 e1 w1⟩
theorem Zh8(ht:PT X t (tT X.K (evT c xt)))(ha:PE X a (tE X.K (ev c xa)))(hb:PE X b (tE X.K (ev c xb))):PE X (.IfExp t a b pos) (tE X.K (ev c (.ite xt xa xb))):=by
 intro pins s σ H Q I ⟨mu,env,S,he,hw,d,S',hf,k⟩;dsimp only[ev] at hf;obtain⟨da,S1,h1,hf⟩:=bP hf;obtain⟨b',h2,hf⟩:=bO hf;refine wpAny_IfExp (thn (ht pins s σ H (fun b'' H'=>b''=b'/\Ny X.K mu H H' S1) I ⟨mu,env,S,he,hw,b',S1,Yi h1 h2,fun mu1 H1 e1 w1=>⟨rfl,mu1,e1,w1⟩⟩) fun b'' s1 ⟨H1,I1,q1⟩=>?_);obtain⟨rfl,mu1,e1,w1⟩:=q1;cases b'' with
 |true=>exact ha pins s1 σ H1 Q I1 ⟨mu1,env,S1,he.mono e1,w1,d,S',hf,fun v' mu' H' e w r=>k v' mu' H' (e1.trans e) w r⟩
 |false=>exact hb pins s1 σ H1 Q I1 ⟨mu1,env,S1,he.mono e1,w1,d,S',hf,fun v' mu' H' e w r=>k v' mu' H' (e1.trans e) w r⟩
theorem UN{d:D}(h:cmpop S op da db=some b):(cmpop S op da db).map D.bl=some (.bl b):=by rw[h];rfl
theorem s_pc(hu:X.A.units+100<cLine)(ha:PE X a (tE X.K (ev c xa)))(hb:PE X b (tE X.K (ev c xb))):PC X op a b (tE X.K (ev c (.cmp op xa xb))):=by
 intro pins s σ H Q I ⟨mu,env,S,he,hw,d,S',hf,k⟩;dsimp only[ev] at hf;obtain⟨da,S1,h1,hf⟩:=bP hf;obtain⟨db,S2,h2,hf⟩:=bP hf;obtain⟨b,h3,e⟩:=bM hf;cases e
 refine binT ha hb I (two he hw h1 h2) fun v u s2 x y H2 I2 rx ry ⟨mu2,e2,w2,r1,r2⟩=>?_;exact Jr hu op pins s2 σ H2 mu2 S2 x y v u da db _ Q I2 w2 rx ry r1 r2 (UN (d:=.non) h3) fun v' mu' H' e w r=>k v' mu' H' (e2.trans e) w r
theorem Zdd(ha:PE X a (tE X.K (ev c xa))):PC X .Is a (.Constant .none j pos') (tE X.K (ev c (.isN xa))):=by
 intro pins s σ H Q I ⟨mu,env,S,he,hw,d,S',hf,k⟩;dsimp only[ev] at hf;obtain⟨⟨da,S1⟩,h1,e⟩:=bM hf;cases e
 refine Zfb ha pins s σ H Q I ⟨mu,env,S,he,hw,da,_,h1,fun v mu1 H1 e1 w1 r1=>?_⟩;have e:decide (v=.non)=decide (da=.non):=by cases da<;>dsimp only[RD] at r1<;>first | (subst r1;rfl) | (obtain⟨_,_,rfl,_⟩:=r1;rfl) | (obtain⟨_,_,rfl⟩:=r1;rfl)
 show Q (.bl (decide (v=.non))) H1;rw[e];exact k _ mu1 H1 e1 w1 YX
theorem ZbC(ha:PE X a (tE X.K (ev c xa))):PC X .IsNot a (.Constant .none j pos') (tE X.K (ev c (.notN xa))):=by
 intro pins s σ H Q I ⟨mu,env,S,he,hw,d,S',hf,k⟩;dsimp only[ev] at hf;obtain⟨⟨da,S1⟩,h1,e⟩:=bM hf;cases e
 refine ZdB ha pins s σ H Q I ⟨mu,env,S,he,hw,da,_,h1,fun v mu1 H1 e1 w1 r1=>?_⟩;have e:decide (v=.non)=decide (da=.non):=by cases da<;>dsimp only[RD] at r1<;>first | (subst r1;rfl) | (obtain⟨_,_,rfl,_⟩:=r1;rfl) | (obtain⟨_,_,rfl⟩:=r1;rfl)
 show Q (.bl (!decide (v=.non))) H1;rw[e];exact k _ mu1 H1 e1 w1 YX
theorem UO(h:PC X op a b (tE X.K (ev c x)))(hb:behindInMarks op b=false):PT X (.Compare a [op] [b] pos) (tT X.K (evT c x)):=by
 intro pins s σ H Q I ⟨mu,env,S,he,hw,d,S',hf,k⟩;dsimp only[evT] at hf;obtain⟨da,S1,h1,hf⟩:=bP hf;obtain⟨b',h2,e⟩:=bM hf;cases e
 refine wpAny_isTrue_Compare1 (thn (h pins s σ H _ I ⟨mu,env,S,he,hw,da,S1,h1,fun v mu1 H1 e1 w1 r1=>(⟨mu1,e1,w1,r1⟩:Nx X.K mu H H1 S1 fun mu1=>RD X.K mu1 H1 da v)⟩) fun v s1 q1=>thn q1 fun u s2 q2=>thn q2 fun c s3 ⟨x,H1,I1,r1,mu1,e1,w1,r⟩=>?_) hb;exact Y0 I1 w1 h2 r r1 (k mu1 H1 e1 w1)
end
open PySem PySem.Spec PyProof.Rows L2
section
variable {X:Cx}{T:Tab}{W k:Nat}{pins:zPn}{σ:St}{H:Hp}{s:Shared}{mu:List Addr}{S:Sto}{c:Cl}
theorem ZZ(h:ZE x=true):(x==("__debug__":Str))=false/\(x==("__classdict__":Str))=false/\x≠"__name__":=by
 unfold ZE at h;simp only[not_eq_true',Bool.or_eq_false_iff,decide_eq_false_iff_not] at h;refine⟨?_,?_,h.2⟩
 ·exact beq_eq_false_iff_ne.2 h.1.1
 ·exact beq_eq_false_iff_ne.2 h.1.2
theorem Zh9(hn:ZE x=true)(hi:slot x X.N=some i)(hv:Vis X.env.scope x):PE X (.Name x pos) (tE X.K (ev c (.var i))):=by
 intro pins s σ H Q I ⟨mu,env,S,he,hw,d,S',hf,k⟩;dsimp only[ev] at hf;obtain⟨h1,h2,_⟩:=ZZ hn;refine Ze8 (slot_get hi) hv h1 h2 pins s σ H Q I ?_;cases q:env[i]? with
 |none=>rw[q] at hf;cases hf
 | some o=>
  rw[q] at hf;cases o with
  |none=>cases hf
  | some d'=>
   cases hf
   obtain⟨v,h1,h2⟩:=he.get i _ q;exact⟨v,h1,k v mu H .refl hw h2⟩
theorem Zd8(h:(match cc with
        |.none=>some Ex.non
        |.bool b=>some (.bl b)
        |.int i=>some (.int i)
        |.str x=>some (.str x)
        |_=>none)=some x):PE X (.Constant cc j pos) (tE X.K (ev c x)):=by
  intro pins s σ H Q I ⟨mu,env,S,he,hw,d,S',hf,k⟩;cases cc<;>first | contradiction | skip
  · cases h;dsimp only[ev] at hf;cases hf
    exact Zfa pins s σ H Q I (k _ mu H .refl hw UK)
  · cases h;dsimp only[ev] at hf;cases hf
    exact ZhM pins s σ H Q I (k _ mu H .refl hw YX)
  · cases h;dsimp only[ev] at hf;cases hf
    exact Ze9 pins s σ H Q I (k _ mu H .refl hw ZK)
  · cases h;dsimp only[ev] at hf;cases hf
    exact Zbb pins s σ H Q I (k _ mu H .refl hw qF)
theorem ZfQ(hu:X.A.units+100<cLine)(ha:PE X a (tE X.K (ev c xa)))(hb:PE X b (tE X.K (ev c xb)))(he':PE X e (tE X.K (ev c xe)))
  (hm:lastMarks [op,op'] [b,e]=false):PE X (.Compare a [op,op'] [b,e] pos) (tE X.K (ev c (.cmp2 op op' xa xb xe))):=by
 intro pins s σ H Q I ⟨mu,env,S,he,hw,d,S',hf,k⟩;dsimp only[ev] at hf;obtain⟨da,S1,h1,hf⟩:=bP hf;obtain⟨db,S2,h2,hf⟩:=bP hf;obtain⟨t,h3,hf⟩:=bO hf;refine Compare_chain (thn (ha pins s σ H _ I (two he hw h1 h2)) fun v s1 ⟨x,H1,I1,r1,q1⟩=>chain_link (thn (hb pins s1 σ H1 _ I1 q1) fun u s2 ⟨y,H2,I2,r2,mu2,e2,w2,ra,rb⟩=>
  thn (Jr hu op pins s2 σ H2 mu2 S2 x y v u da db _ (fun z H3=>z=.bl t/\Ny X.K mu2 H2 H3 S2) I2 w2 r1 r2 ra rb (UN (d:=.non) h3) fun v' mu' H' e w r=>⟨YW r,mu',e,w⟩) fun d s3 ⟨z,H3,I3,r3,ez,mu3,e3,w3⟩=>?_)) hm
 subst ez;cases r3
 refine wpAny_truthy_bool ?_;cases t with
 | false=>
  cases hf
  exact ite_ff ⟨.bl false,H3,I3,rfl,k _ mu3 H3 (e2.trans e3) w3 YX⟩
 | true=>
  rw[if_pos rfl] at hf;obtain⟨dc,S3,h4,hf⟩:=bP hf;obtain⟨b',h5,e⟩:=bM hf;cases e
  refine ite_tt (chain_last (thn (he' pins s3 σ H3 _ I3 ⟨mu3,env,S2,he.mono (e2.trans e3),w3,dc,S3,h4,fun v mu4 H4 e4 w4 r4=>(⟨mu4,e4,w4,r4⟩:Nx X.K mu3 H3 H4 S3 fun mu4=>RD X.K mu4 H4 dc v)⟩) fun w' s4 ⟨z',H4,I4,r4,mu4,e4,w4,rc⟩=>?_));exact Jr hu op' pins s4 σ H4 mu4 S3 y z' u w' db dc _ Q I4 w4 r2 r4 (RD.mono (e3.trans e4) _ _ rb) rc (UN (d:=.non) h5) fun v' mu' H' e w r=>k v' mu' H' ((e2.trans e3).trans (e4.trans e)) w r
theorem Zd9(hu:X.A.units+100<cLine)(ha:PE X a (tE X.K (ev c xa)))(hb:PE X b (tE X.K (ev c xb)))(he':PE X e (tE X.K (ev c xe)))
  (hm:lastMarks [op,op'] [b,e]=false):PT X (.Compare a [op,op'] [b,e] pos) (tT X.K (evT c (.cmp2 op op' xa xb xe))):=by
 intro pins s σ H Q I ⟨mu,env,S,he,hw,d,S',hf,k⟩;dsimp only[evT,ev] at hf;obtain⟨dz,S5,hf,hz⟩:=bP hf;obtain⟨da,S1,h1,hf⟩:=bP hf;obtain⟨db,S2,h2,hf⟩:=bP hf;obtain⟨t,h3,hf⟩:=bO hf;obtain⟨b9,hz,e⟩:=bM hz;cases e
 refine isTrue_chain (thn (ha pins s σ H _ I (two he hw h1 h2)) fun v s1 ⟨x,H1,I1,r1,q1⟩=>test_link (thn (hb pins s1 σ H1 _ I1 q1) fun u s2 ⟨y,H2,I2,r2,mu2,e2,w2,ra,rb⟩=>
  thn (Jr hu op pins s2 σ H2 mu2 S2 x y v u da db _ (fun z H3=>z=.bl t/\Ny X.K mu2 H2 H3 S2) I2 w2 r1 r2 ra rb (UN (d:=.non) h3) fun v' mu' H' e w r=>⟨YW r,mu',e,w⟩) fun d s3 ⟨z,H3,I3,r3,ez,mu3,e3,w3⟩=>?_)) hm
 subst ez;cases r3
 refine wpAny_truthy_bool ?_;cases t with
 | false=>
  cases hf
  cases hz
  exact ite_ff ⟨H3,I3,k mu3 H3 (e2.trans e3) w3⟩
 | true=>
  rw[if_pos rfl] at hf;obtain⟨dc,S3,h4,hf⟩:=bP hf;obtain⟨b',h5,e⟩:=bM hf;cases e
  cases hz
  refine ite_tt (test_last (thn (he' pins s3 σ H3 _ I3 ⟨mu3,env,S2,he.mono (e2.trans e3),w3,dc,S3,h4,fun v mu4 H4 e4 w4 r4=>(⟨mu4,e4,w4,r4⟩:Nx X.K mu3 H3 H4 S3 fun mu4=>RD X.K mu4 H4 dc v)⟩) fun w' s4 ⟨z',H4,I4,r4,mu4,e4,w4,rc⟩=>
   thn (Jr hu op' pins s4 σ H4 mu4 S3 y z' u w' db dc _ (fun z H5=>z=.bl d/\Ny X.K mu4 H4 H5 S3) I4 w4 r2 r4 (RD.mono (e3.trans e4) _ _ rb) rc (UN (d:=.non) h5) fun v' mu' H' e w r=>⟨YW r,mu',e,w⟩) fun d' s5 ⟨z2,H5,I5,r5,ez,mu5,e5,w5⟩=>?_))
  subst ez;cases r5
  exact wpAny_truthy_bool ⟨H5,I5,k mu5 H5 ((e2.trans e3).trans (e4.trans e5)) w5⟩
theorem ZfR{K:Frag}{ds:List D}{xs:List V}{i:Int}{d:D}(r:RDs K mu H ds xs)(h:atI ds i=some d):∃ v,atI xs i=some v/\RD K mu H d v:=by
 unfold atI at h ⊢;obtain⟨j,h1,h2⟩:=bO h;obtain⟨v,h3,h4⟩:=r.get h2;exact⟨v,by rw[<- r.length,h1];exact h3,h4⟩
theorem Jb(h:Yb i=true):ZdS i:=by
 intro o v;cases i<;>first | rfl | (exact absurd h (show ¬ (false=true) from oAg))
theorem Zia{a i:Expr}{pos:Pos}{xa xi:Ex}(ha:PE X a (tE X.K (ev c xa)))(hi:PE X i (tE X.K (ev c xi)))(hp:Yb i=true):PE X (.Subscript a i pos) (tE X.K (ev c (.sub xa xi))):=by
 intro pins s σ H Q I ⟨mu,env,S,he,hw,d,S',hf,k⟩;dsimp only[ev] at hf;obtain⟨da,S1,h1,hf⟩:=bP hf;obtain⟨db,S2,h2,hf⟩:=bP hf;obtain⟨d',h3,e⟩:=bM hf;cases e
 refine Subscript_ (binT ha hi I (two he hw h1 h2) fun v u s2 x y H2 I2 rx ry ⟨mu2,e2,w2,r1,r2⟩=>?_);cases db with
 | int i0=>
  by_cases hst:∃ z,da=.str z
  ·obtain⟨z,rfl⟩:=hst;replace h3:(if z.length<=line then (L2.atI z.cps.toList i0).map fun c=>D.str ⟨#[c]⟩ else none)=some d:=h3;split at h3
   ·rename_i hz;obtain⟨cc,h4,rfl⟩:=bM h3;cases ZU r1
    cases int_at r2
    exact Zfx a i pins s2 σ H2 _ _ v u Q I2 rx ry ⟨z,i0,cc,rfl,rfl,by rw[ZD];exact hz,h4,k _ mu2 H2 e2 w2 (by dsimp only[RD])⟩ (Jb hp _ _)
   ·cases h3
  have h3':(items S2 da).bind (fun ds=>L2.atI ds i0)=some d:=by
   cases da with
   |str z=>exact absurd ⟨z,rfl⟩ hst
   |_=>exact h3
  obtain⟨ds,h4,h5⟩:=bO h3';obtain⟨p,xs,rfl,hq,rs⟩:=Yr w2 h4 r1;obtain⟨z,h6,h7⟩:=ZfR rs h5;cases int_at r2
  rcases hq with hq | hq
  ·exact ZdT a i pins s2 σ H2 _ _ v u Q I2 rx ry ⟨p,xs,i0,z,rfl,rfl,hq,h6,k z mu2 H2 e2 w2 h7⟩ (Jb hp _ _)
  ·exact Zfw a i pins s2 σ H2 _ _ v u Q I2 rx ry ⟨p,xs,i0,z,rfl,rfl,hq,h6,k z mu2 H2 e2 w2 h7⟩ (Jb hp _ _)
 |_=>cases h3
theorem qI(w:WR X.K mu H S)(hp:H p=none)(r:RDs X.K mu H ds xs):RD X.K mu (upd H p (.tup xs)) (.tup ds) (.ref p):=by
 dsimp only[RD];exact⟨p,xs,rfl,.inl ⟨w.fresh hp,Zv⟩,RDs.mono (Ext.new w hp) _ _ r⟩
theorem qJ(w:WR X.K mu H S)(hp:H p=none)(r:RDs X.K mu H ds xs):RD X.K mu (upd H p (.lst xs)) (.lst ds) (.ref p):=by
 dsimp only[RD];exact⟨p,xs,rfl,.inl ⟨w.fresh hp,.inl Zv⟩,RDs.mono (Ext.new w hp) _ _ r⟩
theorem ZbD(w:WR X.K mu H S):RD X.K (mu++[p]) (upd H p o) (.ref S.length) (.ref p):=by
 dsimp only[RD];exact⟨p,by rw[<- w.len];simp,rfl⟩
theorem ZbE{K:Frag}{ds:List D}{xs:List V}(lo hi:Option Int)(r:RDs K mu H ds xs):RDs K mu H (cutD ds lo hi) (cutV xs lo hi):=by
 unfold cutD cutV;rw[r.length];exact(r.drop _).take _
theorem Zib(h:PA X es (tA X.K (evs c xs))):PE X (.Tuple es x1 pos) (tE X.K (ev c (.tup xs))):=by
 intro pins s σ H Q I ⟨mu,env,S,he,hw,d,S',hf,k⟩;dsimp only[ev] at hf;obtain⟨ds,S1,h1,hf⟩:=bP hf;split at hf
 ·rename_i hz;cases hf
  refine ql h pins s σ H Q I ⟨mu,env,S,he,hw,ds,_,h1,fun vs mu1 H1 e1 w1 r1=>⟨by rw[ZD,<-r1.length];exact hz,fun p hp=>?_⟩⟩
  exact k _ mu1 _ (e1.trans (Ext.new w1 hp)) (w1.keep hp) (qI w1 hp r1)
 ·cases hf
theorem s_lv(h:PE X e (tN X.K f)):PE X e (tE X.K (fun env S=>(f env S).map fun r=>(.lst r.1,r.2))):=by
 intro pins s σ H Q I ⟨mu,env,S,he,hw,d,S',hf,k⟩;obtain⟨⟨ds,S1⟩,h1,e'⟩:=bM hf;cases e'
 exact h pins s σ H Q I ⟨mu,env,S,he,hw,ds,_,h1,fun vs p mu1 H1 e1 w1 hp r1=>k _ mu1 _ (e1.trans (Ext.new w1 hp)) (w1.keep hp) (qJ w1 hp r1)⟩
theorem s_lr(h:PE X e (tN X.K f)):PE X e (tE X.K (fun env S=>(f env S).map fun r=>(.ref r.2.length,r.2++[.lst r.1]))):=by
 intro pins s σ H Q I ⟨mu,env,S,he,hw,d,S',hf,k⟩;obtain⟨⟨ds,S1⟩,h1,e'⟩:=bM hf;cases e'
 exact h pins s σ H Q I ⟨mu,env,S,he,hw,ds,_,h1,fun vs p mu1 H1 e1 w1 hp r1=>k _ _ _ (e1.trans (Ext.alloc w1 hp)) (w1.alloc hp r1) (ZbD w1)⟩
theorem Uo(b:Bool)(h:PE X e (tN X.K (evL c l))):PE X e (tE X.K (ev c (asL b l))):=by
 cases b with
 | false=>
  have e1:(fun env S=>(evL c l env S).map fun r=>(D.lst r.1,r.2))=ev c (asL false l):=by funext env S;show _=ev c (.lv l) env S;dsimp only[ev]
  rw[<- e1];exact s_lv h
 | true=>
  have e1:(fun env S=>(evL c l env S).map fun r=>(D.ref r.2.length,r.2++[Ob.lst r.1]))=ev c (asL true l):=by funext env S;show _=ev c (.lr l) env S;dsimp only[ev]
  rw[<- e1];exact s_lr h
theorem Zde(h:PA X es (tA X.K (evs c xs))):PE X (.List es pos) (tN X.K (evL c (.dsp xs))):=by
 intro pins s σ H Q I ⟨mu,env,S,he,hw,ds,S',hf,k⟩;dsimp only[evL] at hf;obtain⟨ds,S1,h1,hf⟩:=bP hf;split at hf
 ·rename_i hz;cases hf
  exact Zft h pins s σ H Q I ⟨mu,env,S,he,hw,ds,_,h1,fun vs mu1 H1 e1 w1 r1=>⟨by rw[ZD,<-r1.length];exact hz,fun p hp=>k vs p mu1 H1 e1 w1 hp r1⟩⟩
 ·cases hf
theorem s_gl(hn:ZE x=true)(hg:X.env.scope.names.lookup x=some .globalImplicit)(hm:X.mg x=some u)(rv:RelV v u)(rd:∀ mu H,RD X.K mu H d v)(hc:c.gl x=some d):PE X (.Name x pos) (tE X.K (ev c (.gl x))):=by
 intro pins s σ H Q I ⟨mu,env,S,he,hw,d',S',hf,k⟩;dsimp only[ev] at hf;rw[hc] at hf
 cases hf
 have nm:=ZZ hn;exact YF I hg hm ⟨v,H,I,rv,k v mu H .refl hw (rd mu H)⟩ nm.1
theorem Zdf{K:Frag}{x:Str}:∀ {fs:List (Str×D)}{us:List (Str×V)}{d:D},us.map (·.1)=fs.map (·.1)->RDs K mu H (fs.map (·.2)) (us.map (·.2))->fs.lookup x=some d->∃ v,us.lookup x=some v/\RD K mu H d v
 |[],us,d,_,_,h=>by cases h
 |(g,y)::fs,[],d,e,_,_=>by cases e
 | (g,y)::fs,(g',u)::us,d,e,r,h=>by
  simp only[map_cons,List.cons.injEq] at e;obtain⟨e1,e2⟩:=e;subst e1;obtain⟨w,t,e3,r1,r2⟩:=r.cases_cons;cases e3
  rw[lookup_cons] at h ⊢;cases q:x==g' with
  |true=>rw[q] at h;cases h;exact⟨_,rfl,r1⟩
  |false=>rw[q] at h;exact Zdf e2 r2 h
theorem qK(w:WR X.K mu H S)(h:S[n]?=some (.ins C fs))(r:RD X.K mu H (.ref n) v):∃ a Ca dx us,v=.ref a/\mu[n]?=some a/\H a=some (.ins Ca dx us)/\PySem.W.nsIn X.K mainGlobals C=some (some (.ref Ca))/\us.map (·.1)=fs.map (·.1)/\RDs X.K mu H (fs.map (·.2)) (us.map (·.2)):=by
 dsimp only[RD] at r;obtain⟨a,e,rfl⟩:=r;obtain⟨b,e1,Ca,dx,us,e2,e3,e4,e5⟩:=w.get h;rw[e] at e1;cases e1
 exact⟨a,Ca,dx,us,rfl,e,e2,e3,e4,e5⟩
theorem Zic{a:Expr}{x:Str}{pos:Pos}{xa:Ex}(cf:∀ (C:Str) (Ca:Addr),c.fd C x=true->PySem.W.nsIn X.K mainGlobals C=some (some (.ref Ca))->Cls X.K Ca/\Yq X.K Ca x)
  (ha:PE X a (tE X.K (ev c xa)))(hb:attributeBase a x X.env (eval a X.env)=eval a X.env):PE X (.Attribute a x pos) (tE X.K (ev c (.fld xa x))):=by
 intro pins s σ H Q I ⟨mu,env,S,he,hw,d,S',hf,k⟩;dsimp only[ev] at hf;obtain⟨da,S1,h1,hf⟩:=bP hf;cases da with
 | ref n=>
  dsimp only at hf;cases q9:S1[n]? with
  |none=>rw[q9] at hf;cases hf
  | some ob=>
   rw[q9] at hf;cases ob with
   | ins C fs=>
    dsimp only at hf;split at hf
    ·rename_i hc;obtain⟨d',h2,e⟩:=bM hf;cases e
     refine Zfr ha hb pins s σ H Q I ⟨mu,env,S,he,hw,_,_,h1,fun v mu1 H1 e1 w1 r1=>?_⟩;obtain⟨b,Ca,dx,us,rfl,g1,g2,g3,g4,g5⟩:=qK w1 q9 r1;obtain⟨v',l1,l2⟩:=Zdf g4 g5 h2;obtain⟨cc,na⟩:=cf C Ca hc g3;exact⟨b,Ca,dx,us,v',rfl,g2,cc,na,l1,k v' mu1 H1 e1 w1 l2⟩
    ·cases hf
   |_=>cases hf
 |_=>cases hf
theorem ZbF{K:Frag}{x:Str}{d:D}{v:V}:∀ {fs:List (Str×D)}{us:List (Str×V)},us.map (·.1)=fs.map (·.1)->RDs K mu H (fs.map (·.2)) (us.map (·.2))->RD K mu H d v->(putF x v us).map (·.1)=(putN x d fs).map (·.1)/\RDs K mu H ((putN x d fs).map (·.2)) ((putF x v us).map (·.2))
 |[],[],_,_,hd=>⟨rfl,.cons hd .nil⟩
 |[],_::_,e,_,_=>by cases e
 |_::_,[],e,_,_=>by cases e
 | (g,y)::fs,(g',u)::us,e,r,hd=>by
  simp only[map_cons,List.cons.injEq] at e;obtain⟨e1,e2⟩:=e;subst e1;obtain⟨w,t,e3,r1,r2⟩:=r.cases_cons;cases e3
  rw[putF,putN];by_cases q:g'=x
  ·rw[if_pos q,if_pos q];exact⟨by rw[map_cons,map_cons,e2],.cons hd r2⟩
  ·rw[if_neg q,if_neg q];obtain⟨i1,i2⟩:=ZbF (x:=x) e2 r2 hd;exact⟨by rw[map_cons,map_cons,i1],.cons r1 i2⟩
theorem Zdg(hn:ZE x=true)(hg:X.env.scope.names.lookup x=some .globalImplicit)(g:GdF X.K X.w X.mg x kvs)(hc:c.gd x=some kvs)(ha:PE X a (tE X.K (ev c xa))) :
  PC X .In a (.Name x p) (tE X.K (ev c (.gin x xa))):=by
 intro pins s σ H Q I ⟨mu,env,S,he,hw,d,S',hf,k⟩;dsimp only[ev] at hf;obtain⟨da,S1,h1,hf⟩:=bP hf;cases da with
 | str y=>
  replace hf:(c.gd x).map (fun kvs=>(D.bl (kvs.lookup y).isSome,S1))=some (d,S'):=hf;rw[hc] at hf;cases hf
  obtain⟨b,es,n,hm,hl,hk,hs,hy⟩:=g;obtain⟨r,e1,e2⟩:=hy y;refine thn (ha pins s σ H (fun x H1=>Nx X.K mu H H1 S' fun mu1=>RD X.K mu1 H1 (.str y) x) I ⟨mu,env,S,he,hw,_,_,h1,fun v mu1 H1 e1 w1 r1=>⟨mu1,e1,w1,r1⟩⟩) fun v s1 ⟨xv,H1,I1,rx,mu1,ex1,w1,r1⟩=>?_;cases ZU r1
  obtain⟨t,rfl⟩:=rx;refine YF I1 hg hm ?_ (ZZ hn).1;refine wpAny_in_of (strKind_is X.prog X.w y t) hs (PySem.W.mapOf_K (prog:=X.prog) I1.kIn hl hk) ?_;rw[PySem.W.find_K hl e1];have er:r.isSome=(kvs.lookup y).isSome:=by
   cases q:kvs.lookup y with
   |none=>rw[q] at e2;have e3:r=none:=e2;rw[e3];rfl
   |some i=>rw[q] at e2;obtain⟨t,e⟩:=e2;rw[e];rfl
  rw[er];exact⟨.bl _,H1,I1.tok _,rfl,k _ mu1 H1 ex1 w1 YX⟩
 |_=>cases hf
theorem ZbG(hn:ZE x=true)(hg:X.env.scope.names.lookup x=some .globalImplicit)(g:GdF X.K X.w X.mg x kvs)(hc:c.gd x=some kvs)(ha:PE X a (tE X.K (ev c xa))) :
  PC X .NotIn a (.Name x p) (tE X.K (ev c (.not (.gin x xa)))):=by
 intro pins s σ H Q I ⟨mu,env,S,he,hw,d,S',hf,k⟩;dsimp only[ev] at hf;obtain⟨d1,S0,h0,hf⟩:=bP hf
 skip
 obtain⟨da,S1,h1,h0⟩:=bP h0;cases da with
 | str y=>
  replace h0:(c.gd x).map (fun kvs=>(D.bl (kvs.lookup y).isSome,S1))=some (d1,S0):=h0;rw[hc] at h0;cases h0
  cases hf
  obtain⟨b,es,n,hm,hl,hk,hs,hy⟩:=g;obtain⟨r,e1,e2⟩:=hy y;refine thn (ha pins s σ H (fun x H1=>Nx X.K mu H H1 S0 fun mu1=>RD X.K mu1 H1 (.str y) x) I ⟨mu,env,S,he,hw,_,_,h1,fun v mu1 H1 e1 w1 r1=>⟨mu1,e1,w1,r1⟩⟩) fun v s1 ⟨xv,H1,I1,rx,mu1,ex1,w1,r1⟩=>?_;cases ZU r1
  obtain⟨t,rfl⟩:=rx;refine YF I1 hg hm ?_ (ZZ hn).1;refine wpAny_notIn_of (strKind_is X.prog X.w y t) hs (PySem.W.mapOf_K (prog:=X.prog) I1.kIn hl hk) ?_;rw[PySem.W.find_K hl e1];have er:r.isSome=(kvs.lookup y).isSome:=by
   cases q:kvs.lookup y with
   |none=>rw[q] at e2;have e3:r=none:=e2;rw[e3];rfl
   |some i=>rw[q] at e2;obtain⟨t,e⟩:=e2;rw[e];rfl
  rw[er];exact⟨.bl _,H1,I1.tok _,rfl,k _ mu1 H1 ex1 w1 YX⟩
 |_=>cases h0
theorem Zid(hn:ZE x=true)(hg:X.env.scope.names.lookup x=some .globalImplicit)(g:GdF X.K X.w X.mg x kvs)(hc:c.gd x=some kvs)(ha:PE X a (tE X.K (ev c xa)))(hp:Yb a=true) :
  PE X (.Subscript (.Name x p) a pos) (tE X.K (ev c (.gsb x xa))):=by
 intro pins s σ H Q I ⟨mu,env,S,he,hw,d,S',hf,k⟩;dsimp only[ev] at hf;obtain⟨da,S1,h1,hf⟩:=bP hf;cases da with
 | str y=>
  replace hf:((c.gd x).bind fun kvs=>(kvs.lookup y).map fun i=>(D.int i,S1))=some (d,S'):=hf;rw[hc] at hf;replace hf:(kvs.lookup y).map (fun i=>(D.int i,S1))=some (d,S'):=hf;obtain⟨i,hi,e⟩:=bM hf;cases e
  obtain⟨b,es,n,hm,hl,hk,hs,hy⟩:=g;obtain⟨r,e1,e2⟩:=hy y;rw[hi] at e2;obtain⟨t2,rfl⟩:=e2;refine Subscript_ ?_;refine YF I hg hm ?_ (ZZ hn).1;refine thn (ha pins s σ H (fun x H1=>Nx X.K mu H H1 S' fun mu1=>RD X.K mu1 H1 (.str y) x) I ⟨mu,env,S,he,hw,_,_,h1,fun v mu1 H1 e1 w1 r1=>⟨mu1,e1,w1,r1⟩⟩) fun v s1 ⟨xv,H1,I1,rx,mu1,ex1,w1,r1⟩=>?_;cases ZU r1
  obtain⟨t,rfl⟩:=rx;have hm':=PySem.W.mapOf_K (prog:=X.prog) (w:=X.w) I1.kIn hl hk;refine tail_any hm'.typeIs slot_dict_getitem.lookup (wpAny_getItem_of (strKind_is X.prog X.w y t) hm' (PySem.W.find_K hl e1) ?_) (Jb hp _ _);exact⟨.int i,H1,I1.tok _,⟨t2,rfl⟩,k _ mu1 H1 ex1 w1 ZK⟩
 |_=>cases hf
theorem Zz(h:notStar e=true):starEach (e::es) env=(false,eval e env)::starEach es env:=by
 cases e<;>first | rfl | (exact absurd h (show ¬ (false=true) from oAg))
theorem Zie:PA X [] (tA X.K (evs c .nil)):=by
 intro pos pins s σ H Q I ⟨mu,env,S,he,hw,d,S',hf,k⟩;dsimp only[evs] at hf;cases hf
 exact JR pos pins s σ H Q I (k _ mu H .refl hw .nil)
theorem ZfS(ha:PE X e (tE X.K (ev c x)))(hb:PA X es (tA X.K (evs c xs)))(hs:notStar e=true):PA X (e::es) (tA X.K (evs c (.cons x xs))):=by
 intro pos pins s σ H Q I ⟨mu,env,S,he,hw,d,S',hf,k⟩;dsimp only[evs] at hf;obtain⟨da,S1,h1,hf⟩:=bP hf;obtain⟨⟨ds,S2⟩,h2,e⟩:=bM hf;cases e
 exact Yu ha hb (Zz hs) pos pins s σ H Q I ⟨mu,env,S,he,hw,da,S1,h1,fun x mu1 H1 e1 w1 r1=>⟨mu1,env,S1,he.mono e1,w1,ds,S2,h2,fun vs mu2 H2 e2 w2 r2=>k _ mu2 H2 (e1.trans e2) w2 (.cons (RD.mono e2 _ _ r1) r2)⟩⟩
theorem s_no:PO X none (tO X.K (evO c .no)):=by
 intro pins s σ H Q I ⟨mu,env,S,he,hw,d,S',hf,k⟩;dsimp only[evO] at hf;cases hf
 exact ZdP pins s σ H Q I (k mu H .refl hw)
theorem Zif(ha:PE X e (tE X.K (ev c x))):PO X (some e) (tO X.K (evO c (.yes x))):=by
 intro pins s σ H Q I ⟨mu,env,S,he,hw,d,S',hf,k⟩;dsimp only[evO] at hf;obtain⟨da,S1,h1,hf⟩:=bP hf;cases da with
 | int i=>
  cases hf
  refine ZdQ ha pins s σ H Q I ⟨mu,env,S,he,hw,_,_,h1,fun x mu1 H1 e1 w1 r1=>?_⟩;cases int_at r1
  exact⟨i,rfl,k mu1 H1 e1 w1⟩
 |_=>cases hf
theorem ZI{pos:Pos}{env:Env}:∀ {es:List Expr},es.all notStar=true->(backTo pos (starEach es env)).any (·.1)=false
 |[],_=>rfl
 | e::es,h=>by
  rw[all_cons,and_eq_true] at h;rw[Zz h.1];have:=ZI (pos:=pos) (env:=env) h.2;simpa [backTo] using this
end
open PySem PySem.Spec PyProof.Rows L2
section
variable {X:Cx}{T:Tab}{W k:Nat}{nm:List (Str×NameKind)}{pins:zPn}{σ:St}{H:Hp}{s:Shared}{mu:List Addr}{S:Sto}{c:Cl}
theorem YM(K:Frag)(ht:t="NoneType"\/t="bool"\/t="int"\/t="str"\/t="tuple"\/t="list"\/t="dict")(hu:u="int"\/u="bool"\/u="str"\/u="tuple"\/u="list") :
  PySem.W.kitOne K (.type t) (.type u)=some (decide (t=u)||(decide (t="bool")&&decide (u="int"))):=by
 rcases ht with rfl | rfl | rfl | rfl | rfl | rfl | rfl<;>rcases hu with rfl | rfl | rfl | rfl | rfl<;>first | rfl | (with_unfolding_all rfl)
theorem ZfT(I:Inv X pins σ H s)(w:WR X.K mu H S)(h:tyD S d=some t)(r:RD X.K mu H d x)(rx:RelV x v)(hu:u="int"\/u="bool"\/u="str"\/u="tuple"\/u="list")
  (k:Q (.bl (decide (t=u)||(decide (t="bool")&&decide (u="int")))) H):wpAny (model X.prog X.w) X.A (call (.builtin "isinstance") [v,.type u]) (EP X pins σ Q) X.xe s:=by
 have fin:∀ {b:Bool},b=(decide (t=u)||(decide (t="bool")&&decide (u="int")))->∀ tk,EP X pins σ Q (.bool b) { s with toks:=tk }:=fun e tk=>by subst e;exact⟨.bl _,H,I.tok _,rfl,k⟩
 cases d with
 |non=>cases h;cases JX r;exact YG I rx .non (YM X.K (by decide) hu) (fin rfl)
 |bl y=>cases h;cases YW r;exact YG I rx (.bl y) (YM X.K (by decide) hu) (fin rfl)
 |int y=>cases h;cases int_at r;exact YG I rx (.int y) (YM X.K (by decide) hu) (fin rfl)
 |str y=>cases h;cases ZU r;exact YG I rx (.str y) (YM X.K (by decide) hu) (fin rfl)
 | tup ds=>
  cases h
  obtain⟨a,xs,rfl,hq,_⟩:=r.tup_at;cases (show v=Value.ref a from rx)
  obtain⟨its,_,⟨o,h1,h2,_⟩,_⟩:=I.tuple hq;exact PySem.W.kia_one PySem.W.kitx_tuple I.kIn ⟨o,h1,h2⟩ (YM X.K (by decide) hu) (fun z=>nomatch z) (fin rfl)
 | lst ds=>
  cases h
  obtain⟨a,xs,rfl,hq,_⟩:=r.lst_at;cases (show v=Value.ref a from rx)
  obtain⟨its,_,⟨o,n,h1,h2,_,_⟩,_⟩:=I.list hq;exact PySem.W.kia_one PySem.W.kitx_list I.kIn ⟨o,h1,h2⟩ (YM X.K (by decide) hu) (fun z=>nomatch z) (fin rfl)
 | ref n=>
  rw[tyD] at h;cases q:S[n]? with
  |none=>rw[q] at h;cases h
  | some o=>
   rw[q] at h;cases o with
   | dk es=>
    cases h
    obtain⟨a,e1,xs,e2,_⟩:=w.get q;dsimp only[RD] at r;obtain⟨b,e3,rfl⟩:=r;rw[e1] at e3;cases e3
    exact YG I rx (.dK e2) (YM X.K (by decide) hu) (fin rfl)
   | dt es=>
    cases h
    obtain⟨a,e1,xs,e2,_⟩:=w.get q;dsimp only[RD] at r;obtain⟨b,e3,rfl⟩:=r;rw[e1] at e3;cases e3
    exact YG I rx (.dT e2) (YM X.K (by decide) hu) (fin rfl)
   |ins _ _=>cases h
   |dtf _=>cases h
   | lst es=>
    cases h
    obtain⟨a,e1,xs,e2,_⟩:=w.get q;dsimp only[RD] at r;obtain⟨b,e3,rfl⟩:=r;rw[e1] at e3;cases e3
    cases (show v=Value.ref a from rx)
    obtain⟨its,_,⟨o,n,h1,h2,_,_⟩,_⟩:=I.list (SqL.of e2);exact PySem.W.kia_one PySem.W.kitx_list I.kIn ⟨o,h1,h2⟩ (YM X.K (by decide) hu) (fun z=>nomatch z) (fin rfl)
theorem ZfU{Q:zVP}(I:Inv X pins σ H s)(hn:ZE x=true)(hg:X.env.scope.names.lookup x=some .globalImplicit)(hm:X.mg x=none)(hv:bootBuiltins x=some u)(h:Q u s) :
  wpAny (model X.prog X.w) X.A (eval (.Name x pos) X.env) Q X.xe s:=Ji I hg hm hv h (ZZ hn).2.2 (ZZ hn).1
theorem VL:bootBuiltins "isinstance"=some (.builtin "isinstance"):=by decide +kernel
theorem Zea:bootBuiltins "int"=some (.type "int")/\bootBuiltins "bool"=some (.type "bool")/\bootBuiltins "str"=some (.type "str")/\bootBuiltins "tuple"=some (.type "tuple")/\bootBuiltins "list"=some (.type "list"):=by
 refine⟨?_,?_,?_,?_,?_⟩<;>decide +kernel
theorem ZbH(h:Z9.lookup ty=some u):ty∈blts/\ZE ty=true/\bootBuiltins ty=some (.type u)/\(u="int"\/u="bool"\/u="str"\/u="tuple"\/u="list"):=by
 have hm:=PySem.mem_of_lookup h;obtain⟨b1,b2,b3,b4,b5⟩:=Zea;simp only[Z9,mem_cons,Prod.mk.injEq,not_mem_nil,or_false] at hm
 rcases hm with ⟨rfl,rfl⟩ | ⟨rfl,rfl⟩ | ⟨rfl,rfl⟩ | ⟨rfl,rfl⟩ | ⟨rfl,rfl⟩
 ·exact⟨by decide +kernel,by decide +kernel,b1,by decide⟩
 ·exact⟨by decide +kernel,by decide +kernel,b2,by decide⟩
 ·exact⟨by decide +kernel,by decide +kernel,b3,by decide⟩
 ·exact⟨by decide +kernel,by decide +kernel,b4,by decide⟩
 ·exact⟨by decide +kernel,by decide +kernel,b5,by decide⟩
theorem Zig(ok:XOk X T W k nm)(ha:PE X a (tE X.K (ev c xa)))(hs:notStar a=true)(hg:X.env.scope.names.lookup ("isinstance":Str)=some .globalImplicit)
  (hg2:X.env.scope.names.lookup ty=some .globalImplicit)(hu:Z9.lookup ty=some u):PE X (.Call (.Name "isinstance" p) [a,.Name ty p2] [] pos) (tE X.K (ev c (.isi xa ty))):=by
 obtain⟨h1,h2,h3,h4⟩:=ZbH hu;have pty:PE X (.Name ty p2) (fun _ H Q=>Q (.ty u) H):=fun pins s σ H Q I q=>ZfU I h2 hg2 (ok.bl ty h1) h3 ⟨.ty u,H,I,rfl,q⟩;intro pins s σ H Q I ⟨mu,env,S,he,hw,d,S',hf,k⟩;dsimp only[ev] at hf;obtain⟨da,S1,e1,hf⟩:=bP hf;obtain⟨b,e2,e⟩:=bM hf;cases e
 rw[isiD,hu] at e2;obtain⟨t,e2,e3⟩:=bM (show (tyD S1 da).map _=some b from e2);have cr:YB X (.builtin "isinstance") (fun xs H Q=>∃ x mu1,xs=[x,.ty u]/\WR X.K mu1 H S1/\RD X.K mu1 H da x/\Q (.bl b) H):=by
  intro pins s σ H xs us Q I r q;obtain⟨x,mu1,rfl,w1,r1,q⟩:=q;obtain⟨v,w',rfl,rx,rt⟩:=vals2 r;cases (show w'=Value.type u from rt)
  exact ZfT I w1 e2 r1 rx h4 (by rw[e3];exact q)
 refine VF cr hg (ok.bl _ (by decide +kernel)) VL (Yu ha (Yu pty JR rfl) (Zz hs)) (by decide) (by decide) (Zz hs) rfl pins s σ H Q I ?_;exact⟨mu,env,S,he,hw,da,S1,e1,fun x mu1 H1 x1 w1 r1=>⟨x,mu1,rfl,w1,r1,k _ mu1 H1 x1 w1 YX⟩⟩
theorem WH{K:Frag}:∀ {ds:List D}{bs:List Bool}{xs:List V},YZ ds=some bs->RDs K mu H ds xs->xs=bs.map V.bl
 |[],is,xs,h,r=>by cases h;rw[r.cases_nil];rfl
 | d::ds,is,xs,h,r=>by
  obtain⟨x,xr,rfl,r1,r2⟩:=r.cases_cons;cases d with
  | bl i=>
   obtain⟨js,h1,rfl⟩:=bM h;cases YW r1
   rw[WH h1 r2];rfl
  |_=>cases h
theorem V5:∀ {bs:List Bool}{us:List Value},Vals (bs.map V.bl) us->us=bs.map Value.bool
 |[],_,h=>by cases h;rfl
 | b::bs,_,h=>by
  cases h with
  |cons r t=>rw[V5 t];cases r;rfl
theorem all_range(bs:List Bool):∀ (g:Nat->Bool),(∀ (i:Nat) (h:i<bs.length),g i=bs[i])->(List.range bs.length).all g=bs.all id/\(List.range bs.length).any g=bs.any id:=by
 intro g hg;have e:(List.range bs.length).map g=bs:=by
  apply List.ext_getElem
  ·simp
  ·intro i h1 h2;simp at h1 ⊢;exact hg i h1
 constructor
 ·have:((List.range bs.length).map g).all id=(List.range bs.length).all g:=by rw[all_map];rfl
  rw[<- this,e]
 ·have:((List.range bs.length).map g).any id=(List.range bs.length).any g:=by rw[List.any_map];rfl
  rw[<- this,e]
theorem zC(calm:X.calm=true){l:Addr}{bs:List Bool}{Q:VK}(I:Inv X pins σ H s)(hq:SqL X.K H l (bs.map V.bl)) :
  (Q (.bl (bs.all id)) H->wpAny (model X.prog X.w) X.A (call (.builtin "all") [.ref l]) (EP X pins σ Q) X.xe s)/\(Q (.bl (bs.any id)) H->wpAny (model X.prog X.w) X.A (call (.builtin "any") [.ref l]) (EP X pins σ Q) X.xe s):=by
 obtain⟨its,rv,pl,hz⟩:=I.list hq;have ei:=V5 rv;subst ei;have hl:=pl.isList;have hne:l≠s.heap.objs.size:=by obtain⟨o,e,_⟩:=hl;exact oAp (oAf e)
 have hlen:(bs.map Value.bool).toArray.size=bs.length:=by simp
 have old:∀ h':Heap,(∀ b o,b∉[s.heap.objs.size]->(s.heap.push { cls:=.type "list_iterator",data:=.fields #[.ref l,.int 0 0] }).get? b=some o->h'.get? b=some o)->∀ b o,s.heap.get? b=some o->h'.get? b=some o:=
  fun h' hk b o e=>hk b o (by simpa using oAp (oAf e)) (oAd _ e)
 have tr:TruthOf X.prog X.w X.A.in1 (fun i v=>(bs.map Value.bool).toArray[i]?=some v) (fun i=>(bs[i]?).getD false):=fun i v s Q E hp hQ=>by
  simp only[List.getElem?_toArray,getElem?_map] at hp;obtain⟨b,h1,h2⟩:=bM hp;subst h2;have e:(fun i=>(bs[i]?).getD false) i=b:=by show (bs[i]?).getD false=b;rw[h1];rfl
  rw[e] at hQ;exact wpAny_truthy_bool hQ
 obtain⟨r1,r2⟩:=all_range bs (fun i=>(bs[i]?).getD false) (fun i h=>by simp[h]);have st0:(s.heap.push { cls:=.type "list_iterator",data:=.fields #[.ref l,.int 0 0] }).IsListIter s.heap.objs.size l 0/\(s.heap.push { cls:=.type "list_iterator",data:=.fields #[.ref l,.int 0 0] }).IsList l (bs.map Value.bool).toArray:=⟨⟨_,oAe _ rfl,rfl,rfl⟩,hl.push _⟩;refine⟨fun q=>?_,fun q=>?_⟩
 ·refine call_all_walk (wpAny_pyIter_list hl ⟨_,_,_,_,_,_,_,rfl,Walks.list (A:=X.A.in1) (I.ok.hd calm) _ l hne _,st0,tr,fun h' tk hk=>?_⟩);rw[hlen,r1];exact⟨.bl _,H,I.kept (old h' hk),rfl,q⟩
 ·refine call_any_walk (wpAny_pyIter_list hl ⟨_,_,_,_,_,_,_,rfl,Walks.list (A:=X.A.in1) (I.ok.hd calm) _ l hne _,st0,tr,fun h' tk hk=>?_⟩);rw[hlen,r2];exact⟨.bl _,H,I.kept (old h' hk),rfl,q⟩
noncomputable def biV:Bi->Value
 |.len=>.builtin "len"
 |.abs=>.builtin "abs"
 |.min=>.builtin "min"
 |.int=>.type "int"
 |.tuple=>.type "tuple"
 |.all=>.builtin "all"
theorem Zeb(h:biOf.lookup f=some b):bootBuiltins f=some (biV b)/\f∈blts:=by
 have hm:=PySem.mem_of_lookup h;simp only[biOf,mem_cons,Prod.mk.injEq,not_mem_nil,or_false] at hm
 rcases hm with ⟨rfl,rfl⟩ | ⟨rfl,rfl⟩ | ⟨rfl,rfl⟩ | ⟨rfl,rfl⟩ | ⟨rfl,rfl⟩ | ⟨rfl,rfl⟩<;>exact⟨by decide +kernel,by decide +kernel⟩
theorem Zih(b:Bi):(∃ i,biV b=.builtin i)\/∃ t,biV b=.type t:=by
 cases b<;>first | exact .inl ⟨_,rfl⟩ | exact .inr ⟨_,rfl⟩
theorem ZfV(calm:X.calm=true){b:Bi}{ds:List D}{d:D}(h:bltD S b ds=some d) :
  YB X (biV b) (fun xs H Q=>∃ mu1,WR X.K mu1 H S/\RDs X.K mu1 H ds xs/\∀ v mu' H',Ext mu1 H mu' H'->WR X.K mu' H' S->RD X.K mu' H' d v->Q v H'):=by
 intro pins s σ H xs us Q I r ⟨mu1,w,rs,q⟩;have q0:∀ v,RD X.K mu1 H d v->Q v H:=fun v rv=>q v mu1 H .refl w rv;have lenS:∀ {d0:D}{ls:List D},ds=[d0]->items S d0=some ls->d=.int ls.length->wpAny (model X.prog X.w) X.A (call (.builtin "len") us) (EP X pins σ Q) X.xe s:=fun {d0 ls} e0 hi e=>by
  subst e0;obtain⟨x,r',rfl,rx,rn⟩:=rs.cases_cons;cases rn.cases_nil
  obtain⟨a,ys,rfl,hq,r2⟩:=Yr w hi rx;refine qr pins s σ H _ us Q I r ⟨a,ys,rfl,hq,q0 _ ?_⟩;rw[e,r2.length];exact ZK
 have one:∀ {d0:D},ds=[d0]->∃ x u,xs=[x]/\us=[u]/\RD X.K mu1 H d0 x/\RelV x u:=fun {d0} e=>by
  subst e;obtain⟨x,r',rfl,rx,rn⟩:=rs.cases_cons;cases rn.cases_nil
  obtain⟨u,rfl,ru⟩:=vals1 r;exact⟨x,u,rfl,rfl,rx,ru⟩
 have ints2:∀ {i j:Int},ds=[.int i,.int j]->xs=[.int i,.int j]:=fun {i j} e=>by
  subst e;obtain⟨x,r',rfl,rx,rn⟩:=rs.cases_cons;obtain⟨y,r',rfl,ry,rn⟩:=rn.cases_cons;cases rn.cases_nil
  cases int_at rx
  cases int_at ry
  rfl
 match ds with
 |[]=>cases h
 | [d0,d1]=>
  match d0,d1 with
  | .int i,.int j=>
   cases ints2 rfl
   cases b<;>first | (exfalso;cases h;done) | skip
   ·cases h;exact Zbg calm pins s σ H _ us Q I r ⟨i,j,rfl,q0 _ ZK⟩
  |.int i,.non=>cases h
  |.int i,.bl _=>cases h
  |.int i,.str _=>cases h
  |.int i,.tup _=>cases h
  |.int i,.lst _=>cases h
  |.int i,.ref _=>cases h
  |.non,_=>cases h
  |.bl _,_=>cases h
  |.str _,_=>cases h
  |.tup _,_=>cases h
  |.lst _,_=>cases h
  |.ref _,_=>cases h
 |d0::d1::d2::r3=>cases h
 | [d0]=>
  obtain⟨x,u,rfl,rfl,rx,ru⟩:=one rfl;cases b with
  | len=>
   cases d0 with
   | str y=>
    replace h:(if y.length<=line then some (D.int y.length) else none)=some d:=h;cases ZU rx
    split at h
    ·rename_i hz;cases h
     exact qt pins s σ H _ _ Q I r ⟨y,rfl,by rw[ZD];exact hz,q0 _ ZK⟩
    ·cases h
   |tup l=>cases h;exact lenS rfl rfl rfl
   |lst l=>cases h;exact lenS rfl rfl rfl
   | ref l=>
    replace h:(match S[l]? with
     |some (.lst ds)=>some (D.int ds.length)
     |_=>none)=some d:=h
    cases q9:S[l]? with
    |none=>rw[q9] at h;cases h
    | some ob=>
     rw[q9] at h;cases ob with
     |ins _ _=>cases h
     |dtf _=>cases h
     | lst ls=>
      cases h
      exact lenS rfl (by rw[items,q9]) rfl
     |dt kvs=>cases h
     |dk kvs=>cases h
   |_=>cases h
  | abs=>
   cases d0 with
   | int i=>
    cases h
    cases int_at rx
    exact Zci pins s σ H _ _ Q I r ⟨i,rfl,q0 _ ZK⟩
   |_=>cases h
  | int=>
   cases d0 with
   | int i=>
    cases h
    cases int_at rx
    exact Wx pins s σ H _ _ Q I r (.inl ⟨i,rfl,q0 _ ZK⟩)
   | bl i=>
    cases h
    cases YW rx
    exact Wx pins s σ H _ _ Q I r (.inr ⟨i,rfl,q0 _ ZK⟩)
   |_=>cases h
  | tuple=>
   by_cases ht:∃ es,d0=.tup es
   ·obtain⟨es,rfl⟩:=ht;cases h
    obtain⟨a,ys,rfl,hq,r2⟩:=id rx.tup_at;exact Ux pins s σ H _ _ Q I r ⟨a,ys,rfl,.inr ⟨hq,q0 _ rx⟩⟩
   ·replace h:(lsOf S d0).map D.tup=some d:=by
     cases d0<;>first | exact h | (exact absurd ⟨_,rfl⟩ ht)
    obtain⟨ls,h1,h2⟩:=bM h;subst h2;obtain⟨a,ys,rfl,hq,r2⟩:=Yc w h1 rx;exact Ux pins s σ H _ _ Q I r ⟨a,ys,rfl,.inl ⟨hq,fun l hl=>q _ mu1 _ (Ext.new w hl) (w.keep hl) (qI w hl r2)⟩⟩
  |min=>cases d0<;>cases h
  | all=>
   replace h:((lsOf S d0).bind fun ds=>(YZ ds).map fun bs=>D.bl (bs.all id))=some d:=by cases d0<;>exact h
   obtain⟨ls,h1,h⟩:=bO h;obtain⟨bs,h2,h3⟩:=bM h;rw[<- h3] at q0;obtain⟨a,ys,rfl,hq,r2⟩:=Yc w h1 rx;cases ru
   rw[WH h2 r2] at hq;exact(zC calm I hq).1 (q0 _ YX)
noncomputable def blV:Bl->Value
 |.list=>.type "list"
 |.sorted=>.builtin "sorted"
theorem Zec(h:blOf.lookup f=some b):bootBuiltins f=some (blV b)/\f∈blts:=by
 have hm:=PySem.mem_of_lookup h;simp only[blOf,mem_cons,Prod.mk.injEq,not_mem_nil,or_false] at hm
 rcases hm with ⟨rfl,rfl⟩ | ⟨rfl,rfl⟩<;>exact⟨by decide +kernel,by decide +kernel⟩
theorem UP(x:List Str):∀ l,(insR x l).Perm (x::l)
 |[]=>.refl _
 | y::r=>by
  rw[insR];split
  ·exact((UP x r).cons y).trans (List.Perm.swap x y r)
  ·exact .refl _
theorem Uq:∀ l,(Z4 l).Perm l
 |[]=>.refl _
 |x::r=>by rw[Z4];exact(UP x _).trans ((Uq r).cons x)
theorem Vx(x:List Str):∀ l:List (List Str),(l.Pairwise fun a b=>TS.lexB b a=false)->(insR x l).Pairwise fun a b=>TS.lexB b a=false
 |[],_=>by rw[insR];exact List.pairwise_singleton _ _
 | y::r,h=>by
  rw[insR];rw[pairwise_cons] at h;split
  ·rename_i hy;rw[pairwise_cons];refine⟨fun z hz=>?_,Vx x r h.2⟩
   rcases List.mem_cons.1 ((UP x r).mem_iff.1 hz) with rfl | hz
   ·cases q:TS.lexB z y with
    |false=>rfl
    |true=>have:=TS.JU hy q;rw[TS.U6] at this;cases this
   ·exact h.1 z hz
  ·rename_i hy;have hy':TS.lexB y x=false:=by simpa using hy
   rw[pairwise_cons,pairwise_cons];refine⟨fun z hz=>?_,h.1,h.2⟩
   rcases List.mem_cons.1 hz with rfl | hz
   ·exact hy'
   ·cases q:TS.lexB z x with
    |false=>rfl
    | true=>
     have hzy:=h.1 z hz;cases q2:TS.lexB x y with
     |true=>rw[TS.JU q q2] at hzy;cases hzy
     |false=>rw[TS.U7 hy' q2,q] at hzy;cases hzy
theorem Js:∀ l,(Z4 l).Pairwise fun a b=>TS.lexB b a=false
 |[]=>List.Pairwise.nil
 |x::r=>by rw[Z4];exact Vx x _ (Js r)
theorem WI:∀ {l m:List (List Str)},l.Perm m->(l.Pairwise fun a b=>TS.lexB b a=false)->(m.Pairwise fun a b=>TS.lexB b a=false)->l=m
 |[],m,p,_,_=>(List.Perm.nil_eq p)
 |x::l,[],p,_,_=>absurd p.length_eq (by simp)
 | x::l,y::m,p,h,g=>by
  rw[pairwise_cons] at h g;have e:x=y:=by
   have hx:x∈y::m:=p.mem_iff.1 (oAn ..);have hy:y∈x::l:=p.mem_iff.2 (oAn ..)
   rcases List.mem_cons.1 hx with e | hx
   ·exact e
   ·rcases List.mem_cons.1 hy with e | hy
    ·exact e.symm
    ·exact TS.U7 (g.1 x hx) (h.1 y hy)
  subst e;rw[WI (List.Perm.cons_inv p) h.2 g.2]
theorem Ur{K:Frag}:∀ {ds:List D}{l:List Str}{xs:List V},ZM ds=some l->RDs K mu H ds xs->xs=l.map V.str/\ds=l.map D.str
 |[],l,xs,h,r=>by cases h;rw[r.cases_nil];exact⟨rfl,rfl⟩
 | d::ds,l,xs,h,r=>by
  obtain⟨x,t,rfl,rx,rt⟩:=r.cases_cons;cases d with
  | str z=>
   obtain⟨l',h1,rfl⟩:=bM (show (ZM ds).map (z::·)=some l from h);obtain⟨e1,e2⟩:=Ur h1 rt;dsimp only[RD] at rx;rw[rx,e1,e2];exact⟨rfl,rfl⟩
  |_=>cases h
theorem qL{K:Frag}:∀ {ds:List D}{ls:List (List Str)}{xs:List V},Y9 ds=some ls->RDs K mu H ds xs->Rows (fun p l=>SqT K H p (l.map V.str)/\RD K mu H (rowD l) (.ref p)) xs ls
 |[],ls,xs,h,r=>by cases h;rw[r.cases_nil];exact .nil
 | d::ds,ls,xs,h,r=>by
  obtain⟨x,t,rfl,rx,rt⟩:=r.cases_cons;cases d with
  | tup es=>
   obtain⟨l,h1,h⟩:=bO (show ((ZM es).bind fun l=>if l.isEmpty then none else (Y9 ds).map (l::·))=some ls from h);split at h
   ·cases h
   ·rename_i hne;obtain⟨ls',h2,rfl⟩:=bM h;obtain⟨a,xs',e,hq,rs⟩:=rx.tup_at;obtain⟨e1,e2⟩:=Ur h1 rs;subst e e1 e2;exact .cons ⟨hq,rx⟩ (fun z=>hne (by rw[z];rfl)) (qL h2 rt)
  |_=>cases h
theorem qM{G:Addr->List Str->Prop}:∀ {xs:List V}{ls:List (List Str)},Rows G xs ls->xs.length=ls.length
 |_,_,.nil=>rfl
 |_,_,.cons _ _ t=>by rw[length_cons,length_cons,qM t]
theorem qN{K:Frag}:∀ {xs:List V}{ls:List (List Str)},Rows (fun p l=>SqT K H p (l.map V.str)/\RD K mu H (rowD l) (.ref p)) xs ls->RDs K mu H (ls.map rowD) xs
 |_,_,.nil=>.nil
 |_,_,.cons a _ t=>.cons a.2 (qN t)
theorem Zed{b:Bl}{ds es:List D}(h:bltL S b ds=some es) :
  YB X (blV b) (fun xs H Q=>∃ mu1,WR X.K mu1 H S/\RDs X.K mu1 H ds xs/\∀ vs p,H p=none->RDs X.K mu1 H es vs->Q (.ref p) (upd H p (.lst vs))):=by
 intro pins s σ H xs us Q I r ⟨mu1,w,rs,q⟩;cases b with
 | list=>
  match ds with
  |[]=>cases h
  |_::_::_=>cases h
  | [d0]=>
   obtain⟨x,r',rfl,rx,rn⟩:=rs.cases_cons;cases rn.cases_nil
   obtain⟨a,ys,rfl,hq,r2⟩:=Yr w (show items S d0=some es from h) rx;exact qu pins s σ H _ us Q I r ⟨a,ys,rfl,hq,fun l hl=>q _ l hl r2⟩
 | sorted=>
  match ds with
  |[]=>cases h
  |_::_::_=>cases h
  | [d0]=>
   obtain⟨x,r',rfl,rx,rn⟩:=rs.cases_cons;cases rn.cases_nil
   obtain⟨ls,h1,h⟩:=bO (show ((lsOf S d0).bind fun ds=>(Y9 ds).bind fun ls=>if ls.length<64 then some ((Z4 ls).map rowD) else none)=some es from h);obtain⟨a,ys,rfl,hq,r2⟩:=Yc w h1 rx;obtain⟨u,rfl,ru⟩:=vals1 r;cases ru
   obtain⟨ms,h3,h⟩:=bO h;split at h
   ·rename_i hz;cases h
    have rr:=qL h3 r2;refine ZaF (fun p l g=>g.1) I hq rr (by rw[qM rr];exact hz) (fun p zs ns hp e1 e2 e3 e4=>q zs p hp ?_)
    rw[<- WI (e3.trans (Uq ms).symm) e4 (Js ms)];exact qN e2
   ·cases h
end
end PF
namespace HT
open PySem PyProof.Rows
section
variable {prog:Program}{w:World}{A:Around}{E:zVP}{s:Shared}
theorem W2{Q:Bool->Shared->Prop}(ht:IsTup s.heap t items)(h:Q true s):wpAny (model prog w) A (Builtin.Tuple.tupleIsExact (.ref t)) Q E s:=by
 unfold Builtin.Tuple.tupleIsExact;exact oAa (wpAny_typeOf ht.typeIs (oAb h))
theorem Uz{t sl:Addr}{items:Array Value}{vl vu:Value}{lo hi:Option Int}{Q:zVP}(ht:IsTup s.heap t items)(hs:s.heap.IsSliceOf sl vl vu .none)(pl:IsPart vl lo)(pu:IsPart vu hi)
  (hw:sIx items.size 0 lo=0/\sIx items.size items.size hi=items.size)(h:Q (.ref t) s):wpAny (model prog w) A (getItem (.ref t) (.ref sl)) Q E s:=by
 obtain⟨os,hos,hcs,hds⟩:=id hs;have hTs:s.TypeIs (.ref sl) "slice":=⟨os,hos,hcs⟩;unfold getItem
 try with_reducible refine wpAny_holding ?_
 first | refine oAa (oAb ?_) | skip
 refine oAa (wpAny_sequenceKey ht.typeIs (by decide) ?_);refine oAa (wpAny_callSpecial?_slot (name:=Str.ofString "__getitem__") ht.typeIs PyProof.Rows.slot_tuple_getitem
  (wpAny_call_entry PyProof.Rows.slot_tuple_getitem ht.typeIs entry_tuple_getitem ?_ (args_tuple_getitem _ _)))
 show wpAny _ _ (Builtin.Tuple.tupleItemsOf (.ref t)>>=_) _ _ s;refine oAa (tupleItemsOf_ ht ?_);refine oAa (wpAny_typeOf hTs ?_);rw[if_pos (by decide)];refine oAa (Jj hs pl pu ?_);have hyes:(((sIx items.size 0 lo:Nat):Int)==0&&(1:Int)==1&&(sIx items.size items.size hi - sIx items.size 0 lo)==items.size)=true:=by
  rw[hw.1,hw.2];simp
 show wpAny _ _ (if (((sIx items.size 0 lo:Nat):Int)==0&&(1:Int)==1&&(sIx items.size items.size hi - sIx items.size 0 lo)==items.size)=true then _ else _) _ _ s;rw[if_pos hyes];refine oAa (W2 ht ?_);rw[if_pos rfl];exact oAa (wpAny_rule (oAb ⟨_,rfl,oAb h⟩))
end
end HT
namespace PF
open PySem PySem.Spec PyProof.Rows L2
section
variable {X:Cx}{T:Tab}{W k:Nat}{nm:List (Str×NameKind)}{pins:zPn}{σ:St}{H:Hp}{s:Shared}{mu:List Addr}{S:Sto}{c:Cl}
theorem ZcG:SlR X (fun x lo hi H Q=>∃ mu1,WR X.K mu1 H S/\RD X.K mu1 H da x/\Z2 S da lo hi=some d/\∀ v mu' H',Ext mu1 H mu' H'->WR X.K mu' H' S->RD X.K mu' H' d v->Q v H'):=by
 intro pins s σ H x v vl vu lo hi sl Q I rx hs pl pu ⟨mu1,w,r,h,q⟩;have lst:∀ {a:Addr}{xs:List V}{ds:List D},x=.ref a->SqL X.K H a xs->RDs X.K mu1 H ds xs->d=.lst (cutD ds lo hi)->∃ T id,typeLookup (.type T) "__getitem__"=pure (some (.builtin id))/\s.TypeIs v T/\wpAny (model X.prog X.w) X.A (getItem v (.ref sl)) (EP X pins σ Q) X.xe s:=fun {a xs ds} ex hq rs ed=>by
  refine ZdU pins s σ H x v vl vu lo hi sl Q I rx hs pl pu ⟨a,xs,ex,hq,fun p hp=>?_⟩;subst ed;exact q _ mu1 _ (Ext.new w hp) (w.keep hp) (qJ w hp (ZbE lo hi rs))
 cases da with
 | lst ds=>
  obtain⟨a,xs,e,hq,rs⟩:=r.lst_at;exact lst e hq rs (oAk h).symm
 | ref n=>
  obtain⟨ds,h1,h2⟩:=bM (show (items S (.ref n)).map _=some d from h);obtain⟨a,xs,e,hq,rs⟩:=Yr w h1 r
  rcases hq with hq | hq
  ·exact lst e hq rs h2.symm
  ·-- a list of the store is no tuple
   dsimp only[RD] at r;obtain⟨b,e1,e2⟩:=r;rw[e] at e2;cases e2
   rw[items] at h1;cases q9:S[n]? with
   |none=>rw[q9] at h1;cases h1
   | some o=>
    rw[q9] at h1;cases o with
    |dk es=>cases h1
    |dt es=>cases h1
    |ins _ _=>cases h1
    |dtf _=>cases h1
    | lst es=>
     cases h1
     obtain⟨b,e3,ys,e4,rs'⟩:=w.get q9;rw[e1] at e3;cases e3
     exact lst e (SqL.of e4) rs' h2.symm
 | tup ds=>
  obtain⟨a,xs,e,hq,rs⟩:=r.tup_at;simp only[Z2] at h;split at h
  ·rename_i hz;cases h
   subst e;cases rx
   obtain⟨its,rv,ht,hz2⟩:=I.tuple hq;have hlen:its.toArray.size=ds.length:=by rw[size_toArray,rs.length];exact rv.length.symm
   refine⟨"tuple",_,PyProof.Rows.slot_tuple_getitem.lookup,ht.typeIs,?_⟩;refine HT.Uz ht hs pl pu (by rw[hlen];exact hz) ?_
   exact⟨.ref a,H,I,rfl,q _ mu1 H .refl w r⟩
  ·rename_i hz;cases h
   refine Zfv pins s σ H x v vl vu lo hi sl Q I rx hs pl pu ⟨a,xs,e,hq,by rw[<- rs.length];exact hz,fun p hp=>?_⟩
   exact q _ mu1 _ (Ext.new w hp) (w.keep hp) (qI w hp (ZbE lo hi rs))
 | str z=>
  simp only[Z2] at h;split at h
  ·rename_i hz;cases h
   cases ZU r
   obtain⟨t,rfl⟩:=(show ∃ t,v=Value.str z t from rx);have part:∀ {u:Value}{o:Option Int},IsPart u o->∃ p:Option (Int×Tok),u=partValue p/\p.map (·.1)=o:=fun {u o} hp=>by
    cases hp with
    |none=>exact⟨none,rfl,rfl⟩
    |int i t=>exact⟨some (i,t),rfl,rfl⟩
   obtain⟨pl',rfl,el⟩:=part pl;obtain⟨pu',rfl,eu⟩:=part pu;obtain⟨o,ho,hc,hd⟩:=hs;refine⟨"str",_,slot_str_getitem.lookup,typeIs_str s z t,wpAny_getItem_str_slice (l:=pl') (u:=pu') (st:=none) ⟨o,ho,hc,hd⟩ rfl ?_⟩;have ep:slicePicked z pl' pu' none=Builtin.Str.strSliceIndices lo hi 1 z.length:=by
    unfold slicePicked;rw[el,eu];rfl
   unfold sliceMade;rw[ep];unfold StrLaws.sliceText at q hz;by_cases c1:((1:Int)==1&&(Builtin.Str.strSliceIndices lo hi 1 z.length).length==z.length)=true
   ·rw[if_pos c1] at q hz;rw[if_pos (show (((Option.map (fun x:Int×Tok=>x.fst) none).getD 1==1)&&(Builtin.Str.strSliceIndices lo hi 1 z.length).length==z.length)=true from c1)];exact⟨.str z,H,I,⟨t,rfl⟩,q _ mu1 H .refl w (by dsimp only[RD])⟩
   ·rw[if_neg c1] at q hz;rw[if_neg (show ¬ (((Option.map (fun x:Int×Tok=>x.fst) none).getD 1==1)&&(Builtin.Str.strSliceIndices lo hi 1 z.length).length==z.length)=true from c1)];exact⟨by rw[ZD];exact hz,.str _,H,I.tok _,⟨_,rfl⟩,q _ mu1 H .refl w (by dsimp only[RD])⟩
  ·cases h
 |_=>cases h
theorem Zii{a:Expr}{lo hi:Option Expr}{pos p2:Pos}{xa:Ex}{xl xh:Ox}(ha:PE X a (tE X.K (ev c xa)))(hl:PO X lo (tO X.K (evO c xl)))(hh:PO X hi (tO X.K (evO c xh))) :
  PE X (.Subscript a (.Slice lo hi none p2) pos) (tE X.K (ev c (.slc xa xl xh))):=by
 intro pins s σ H Q I ⟨mu,env,S,he,hw,d,S',hf,k⟩;dsimp only[ev] at hf;obtain⟨da,S1,h1,hf⟩:=bP hf;obtain⟨l,S2,h2,hf⟩:=bP hf;obtain⟨u,S3,h3,hf⟩:=bP hf;obtain⟨d',h4,e⟩:=bM hf;cases e
 refine Zcp (ZcG (S:=S3) (da:=da) (d:=d)) ha hl hh pins s σ H Q I ?_;exact⟨mu,env,S,he,hw,da,S1,h1,fun x mu1 H1 e1 w1 r1=>⟨mu1,env,S1,he.mono e1,w1,l,S2,h2,fun mu2 H2 e2 w2=>⟨mu2,env,S2,he.mono (e1.trans e2),w2,u,S3,h3,fun mu3 H3 e3 w3=>
  ⟨mu3,w3,RD.mono (e2.trans e3) _ _ r1,h4,fun v mu' H' e w r=>k v mu' H' ((e1.trans e2).trans (e3.trans e)) w r⟩⟩⟩⟩
theorem Zij(ok:XOk X T W k nm)(hn:ZE f=true)(hg:X.env.scope.names.lookup f=some .globalImplicit)(hf:biOf.lookup f=some b)(hs:(e::es).all notStar=true)
  (ha:PA X (e::es) (tA X.K (evs c xs))):PE X (.Call (.Name f p) (e::es) [] pos) (tE X.K (ev c (.blt b xs))):=by
 intro pins s σ H Q I ⟨mu,env,S,he,hw,d,S',h,k⟩;dsimp only[ev] at h;obtain⟨ds,S1,h1,h⟩:=bP h;obtain⟨d',h2,e'⟩:=bM h;cases e'
 have hs1:notStar e=true:=by rw[all_cons,and_eq_true] at hs;exact hs.1
 have hs2:es.all notStar=true:=by rw[all_cons,and_eq_true] at hs;exact hs.2
 obtain⟨hb,hm⟩:=Zeb hf;have cr:=ZfV (X:=X) ok.calm h2;have arg:tA X.K (evs c xs) σ H fun vs H1=>∃ mu1,WR X.K mu1 H1 S1/\RDs X.K mu1 H1 ds vs/\∀ v mu' H',Ext mu1 H1 mu' H'->WR X.K mu' H' S1->RD X.K mu' H' d v->Q v H':=
  ⟨mu,env,S,he,hw,ds,S1,h1,fun vs mu1 H1 e1 w1 r1=>⟨mu1,w1,r1,fun v mu' H' e2 w2 r=>k v mu' H' (e1.trans e2) w2 r⟩⟩
 have nm:=ZZ hn
 rcases Zih b with ⟨i,hv⟩ | ⟨t,hv⟩
 ·rw[hv] at cr hb;exact VF cr hg (ok.bl f hm) hb ha nm.2.2 nm.1 (Zz hs1) (ZI hs2) pins s σ H Q I arg
 ·rw[hv] at cr hb;exact WC cr hg (ok.bl f hm) hb ha nm.2.2 nm.1 (Zz hs1) (ZI hs2) pins s σ H Q I arg
theorem boot_set:bootBuiltins "set"=some (.type "set"):=by decide +kernel
theorem ZbI(ok:XOk X T W k nm)(hn:ZE f=true)(hg:X.env.scope.names.lookup f=some .globalImplicit)(hf:blOf.lookup f=some b)(hs:(e::es).all notStar=true)
  (ha:PA X (e::es) (tA X.K (evs c xs))):PE X (.Call (.Name f p) (e::es) [] pos) (tN X.K (evL c (.blt b xs))):=by
 intro pins s σ H Q I ⟨mu,env,S,he,hw,ds',S',h,k⟩;dsimp only[evL] at h;obtain⟨ds,S1,h1,h⟩:=bP h;obtain⟨d',h2,e'⟩:=bM h;cases e'
 have hs1:notStar e=true:=by rw[all_cons,and_eq_true] at hs;exact hs.1
 have hs2:es.all notStar=true:=by rw[all_cons,and_eq_true] at hs;exact hs.2
 obtain⟨hb,hm⟩:=Zec hf;have cr:=Zed (X:=X) h2;have arg:tA X.K (evs c xs) σ H fun vs H1=>∃ mu1,WR X.K mu1 H1 S1/\RDs X.K mu1 H1 ds vs/\∀ us p,H1 p=none->RDs X.K mu1 H1 ds' us->Q (.ref p) (upd H1 p (.lst us)):=
  ⟨mu,env,S,he,hw,ds,S1,h1,fun vs mu1 H1 e1 w1 r1=>⟨mu1,w1,r1,fun us p hp r=>k us p mu1 H1 e1 w1 hp r⟩⟩
 have nm:=ZZ hn;cases b with
 |list=>exact WC cr hg (ok.bl f hm) hb ha nm.2.2 nm.1 (Zz hs1) (ZI hs2) pins s σ H Q I arg
 |sorted=>exact VF cr hg (ok.bl f hm) hb ha nm.2.2 nm.1 (Zz hs1) (ZI hs2) pins s σ H Q I arg
noncomputable def mtId:Mt->String
 |.append=>"list.append"
 |.extend=>"list.extend"
theorem WR.lst_at(w:WR X.K mu H S)(h:items S (.ref n)=some ds)(r:RD X.K mu H (.ref n) v):∃ a xs,v=.ref a/\mu[n]?=some a/\H a=some (.lst xs)/\RDs X.K mu H ds xs:=by
 rw[items] at h;dsimp only[RD] at r;obtain⟨a,e,rfl⟩:=r;cases q:S[n]? with
 |none=>rw[q] at h;cases h
 | some o=>
  rw[q] at h;cases o with
  |dk es=>cases h
  |dt es=>cases h
  |ins _ _=>cases h
  |dtf _=>cases h
  | lst es=>
   cases h
   obtain⟨b,e1,xs,e2,r⟩:=w.get q;rw[e] at e1;cases e1
   exact⟨a,xs,rfl,e,e2,r⟩
theorem qO(l b:Addr)(cb:Value)(its its2:Array Value)(n n2:Nat)(db:Option Addr)(sb:Array (Option Value))(hcb:cb=.type "list"\/cb=.type "tuple")(hlong:¬(!its.isEmpty&&Builtin.List.listTooLong (its.size+its2.size))=true)(hz:its.size<=sizeLine)(hz2:(its++its2).size<=sizeLine+1) :
  Meets (Builtin.«list.extend» ⟨[.ref l,.ref b],[]⟩) (fun _ R s=>s.heap.get? l=some { cls:=.type "list",dict:=none,data:=.seq its n,slots:=#[] }/\s.heap.get? b=some { cls:=cb,dict:=db,data:=.seq its2 n2,slots:=sb } /\
   R (.ok (.ret Value.none)) { s with heap:=s.heap.update l (Obj.mapSeq fun x=>x++its2),toks:=s.toks }):=
 .of_wp fun prog w A R s h=>by
  obtain⟨hp,g,d,tk,os⟩:=s;obtain⟨hl,hb,h⟩:=h;have f1:=AutoSeq1.idx_int;have f2:=AutoSeq1.sub_tuple_tuple;have f3:=AutoSeq1.sub_list_list;have f4:=AutoSeq1.sub_tuple_list;have f5:=AutoSeq1.sub_list_tuple
  rcases hcb with rfl | rfl
  ·wp_walk using (wpAny_updateSeq hl rfl (hz:=hz) (_hz':=hz2)),wpAny_loadPart' hl,wpAny_loadPart' hb
   exact⟨_,rfl,h⟩
  ·wp_walk using (wpAny_updateSeq hl rfl (hz:=hz) (_hz':=hz2)),wpAny_loadPart' hl,wpAny_loadPart' hb
   exact⟨_,rfl,h⟩
theorem ZbJ(I:Inv X pins σ H s)(hl:H l=some (.lst xs))(hb:SqL X.K H b ys\/SqT X.K H b ys)(hz:xs.length+ys.length<=sizeLine)(q:Q .non (upd H l (.lst (xs++ys)))) :
  wpAny (model X.prog X.w) X.A (call (.builtin "list.extend") [.ref l,.ref b]) (EP X pins σ Q) X.xe s:=by
 obtain⟨z,its,n,r,hlen,e⟩:=I.lstM hl;obtain⟨i2,r2,ob,n2,e2,hc2,hd2⟩:∃ (i2:List Value) (_:Vals ys i2) (ob:Obj) (n2:Nat),s.heap.get? b=some ob/\(ob.cls=.type "list"\/ob.cls=.type "tuple")/\ob.data=.seq i2.toArray n2:=by
  rcases hb with hb | hb
  ·obtain⟨i2,r2,⟨o,m,a1,a2,_,a3⟩,_⟩:=I.list hb;exact⟨i2,r2,o,m,a1,.inl a2,a3⟩
  ·obtain⟨i2,r2,⟨o,a1,a2,m,a3⟩,_⟩:=I.tuple hb;exact⟨i2,r2,o,m,a1,.inr a2,a3⟩
 obtain⟨cb,db,tb,sb⟩:=ob;cases hd2
 have hl2:=r2.length;have hsz:its.toArray.size+i2.toArray.size<=sizeLine:=by rw[size_toArray,size_toArray];lia
 have hlong:¬ (!its.toArray.isEmpty&&Builtin.List.listTooLong (its.toArray.size+i2.toArray.size))=true:=by
  rw[notLongL hsz,Bool.and_false];exact oAg
 refine call_meets PySem.F.slot_list_extend ⟨_,e,rfl⟩ PySem.F.entry_list_extend (PySem.F.args_list_extend_2 _ _)
  (qO l b cb its.toArray i2.toArray n n2 db sb hc2 hlong (by rw[size_toArray];lia) (by rw[Array.size_append];lia)) ⟨e,e2,?_⟩
 refine⟨.non,_,I.lset (its':=its++i2) hl e (by simp) (r.append r2) ?_,rfl,q⟩;rw[length_append];lia
theorem ZbK{m:Mt}{o:D}{ds:List D}{d:D}{S':Sto}(h:mthD S m o ds=some (d,S')):MtM X (mtId m) (fun x xs H Q=>∃ mu1,WR X.K mu1 H S/\RD X.K mu1 H o x/\RDs X.K mu1 H ds xs/\∀ v mu' H',Ext mu1 H mu' H'->WR X.K mu' H' S'->RD X.K mu' H' d v->Q v H'):=by
 intro pins s σ H x xs v us Q I rx rs ⟨mu1,w,ro,rds,q⟩;have hsl:=ZD;cases o with
 | ref n=>
  cases m with
  | append=>
   match ds with
   |[]=>cases h
   |_::_::_=>cases h
   | [d0]=>
    replace h:((items S (.ref n)).bind fun es=>if es.length<line then some (D.non,S.set n (.lst (es++[d0]))) else none)=some (d,S'):=h;obtain⟨es,h1,h⟩:=bO h;split at h
    ·rename_i hz;cases h
     obtain⟨a,ys,rfl,hm,ha,r2⟩:=w.lst_at h1 ro;obtain⟨y,r',rfl,ry,rn⟩:=rds.cases_cons;cases rn.cases_nil
     refine Zbn pins s σ H _ _ v us Q I rx rs ⟨a,ys,y,rfl,rfl,ha,by rw[hsl,<-r2.length];exact hz,?_⟩
     exact q _ mu1 _ (Ext.write w hm (ZY ha)) (w.write hm (ZY ha) (r2.append (.cons ry .nil))) UK
    ·cases h
  | extend=>
   match ds with
   |[]=>cases h
   |_::_::_=>cases h
   | [d0]=>
    replace h:((items S (.ref n)).bind fun es=>(items S d0).bind fun fs=>if es.length+fs.length<=line/\d0≠.ref n then some (D.non,S.set n (.lst (es++fs))) else none)=some (d,S'):=h;obtain⟨es,h1,h⟩:=bO h;obtain⟨fs,h2,h⟩:=bO h;split at h
    ·rename_i hz;cases h
     obtain⟨a,ys,rfl,hm,ha,r2⟩:=w.lst_at h1 ro;obtain⟨y,r',rfl,ry,rn⟩:=rds.cases_cons;cases rn.cases_nil
     obtain⟨b,zs,rfl,hb,r3⟩:=Yr w h2 ry;cases rx
     obtain⟨u,rfl,ru⟩:=rs.one;cases ru
     refine ZbJ I ha hb (by rw[hsl,<-r2.length,<-r3.length];exact hz.1) ?_
     exact q _ mu1 _ (Ext.write w hm (ZY ha)) (w.write hm (ZY ha) (r2.append r3)) UK
    ·cases h
 |_=>cases m<;>cases ds<;>cases h
theorem ZcH(h:mtOf.lookup m=some t):Slot "list" m (mtId t)/\typeOf (.builtin (mtId t))=pure (.type "method_descriptor"):=by
 have hm:=PySem.mem_of_lookup h;simp only[mtOf,mem_cons,Prod.mk.injEq,not_mem_nil,or_false] at hm
 rcases hm with ⟨rfl,rfl⟩ | ⟨rfl,rfl⟩
 ·exact⟨PySem.F.slot_list_append,PySem.F.type_list_append⟩
 ·exact⟨PySem.F.slot_list_extend,PySem.F.type_list_extend⟩
theorem MtM.toR{id:String}{r:V->List V->Hp->VK->Prop}(h:MtM X id r):MtR X id r:=fun pins s σ H x xs v us Q I rx rs q=>h pins s σ H x xs v us Q I rx rs q
theorem UQ(h:baseOk o=true):attributeBase o m X.env (eval o X.env)=eval o X.env:=by
 cases o with
 |Call f es ks p=>cases f<;>first | rfl | (exact absurd h oAg)
 |_=>rfl
theorem Zik{o:Expr}{m:Str}{t:Mt}{es:List Expr}{ap pos:Pos}{xo:Ex}{xs:Exs}(hm:mtOf.lookup m=some t)(ho:PE X o (tE X.K (ev c xo)))(ha:PA X es (tA X.K (evs c xs)))(hx:es=[]->xs=.nil)(hs:es.all notStar=true)(hl:JW ap pos=true)(hn:es.length<=8)(hbo:baseOk o=true) :
  PE X (.Call (.Attribute o m ap) es [] pos) (tE X.K (ev c (.mth xo t xs))):=by
 intro pins s σ H Q I ⟨mu,env,S,he,hw,d,S',hf,k⟩;dsimp only[ev] at hf;obtain⟨do',S1,h1,hf⟩:=bP hf;dsimp only at hf;split at hf
 ·rename_i hls;obtain⟨ds,S2,h2,hf⟩:=bP hf;dsimp only at hf;obtain⟨sl,ty⟩:=ZcH hm;have tyl:∀ {mu1:List Addr}{H1:Hp}{x:V},WR X.K mu1 H1 S1->RD X.K mu1 H1 do' x->tyV X.K "list" x H1:=fun {mu1 H1 x} w r=>by
   obtain⟨es,hes⟩:=Option.isSome_iff_exists.1 (show (lsOf S1 do').isSome=true from hls);obtain⟨a,ys,rfl,hq,_⟩:=Yc w hes r;exact .inl ⟨rfl,ys,hq⟩
  have hb:=UQ (X:=X) (o:=o) (m:=m) hbo;cases es with
  | nil=>
   cases hx rfl
   dsimp only[evs] at h2;cases h2
   refine Zfz PySem.F.plainAttrs_list sl ty (MtM.toR (ZbK (X:=X) hf)) ho hb hl pins s σ H Q I ⟨mu,env,S,he,hw,do',S1,h1,fun x mu1 H1 e1 w1 r1=>⟨tyl w1 r1,mu1,w1,r1,.nil,fun v mu' H' e w r=>k v mu' H' (e1.trans e) w r⟩⟩
  | cons e es=>
   have hs1:notStar e=true:=by rw[all_cons,and_eq_true] at hs;exact hs.1
   have hs2:es.all notStar=true:=by rw[all_cons,and_eq_true] at hs;exact hs.2
   refine Zc8 PySem.F.plainAttrs_list sl ty (MtM.toR (ZbK (X:=X) hf)) ho ha hb ?_ hl (Zz hs1) (ZI hs2) pins s σ H Q I ⟨mu,env,S,he,hw,do',S1,h1,fun x mu1 H1 e1 w1 r1=>⟨tyl w1 r1,
    mu1,env,S1,he.mono e1,w1,ds,S2,h2,fun vs mu2 H2 e2 w2 r2=>⟨mu2,w2,RD.mono e2 _ _ r1,r2,fun v mu' H' e w r=>k v mu' H' ((e1.trans e2).trans e) w r⟩⟩⟩
   have a1:(backTo pos (starEach (e::es) X.env)).all (fun x=>!x.1)=true:=by
    have:=ZI (pos:=pos) (env:=X.env) hs;rw[List.all_eq_not_any_not];simpa using this
   rw[a1];show (true&&true&&decide ((e::es).length+0+0<30))=true;simp only[Bool.true_and,decide_eq_true_eq];lia
 ·cases hf
theorem ZbL(h:(Za T W k).fn f ds S=some r):∃ fi,T.lookup f=some fi/\ds.length=fi.ps:=by
 cases k with
 |zero=>cases h
 | succ k=>
  obtain⟨fi,h1,h2⟩:=bO (show ((T.lookup f).bind fun fi=>if ds.length=fi.ps then (evSs (Za T W k) W fi.body (ZQ fi.nn ds) S).bind fin else none)=some r from h);split at h2
  ·rename_i hl;exact⟨fi,h1,hl⟩
  ·cases h2
theorem s_call(ok:XOk X T W k nm)(hn:ZE f=true)(hg:X.env.scope.names.lookup f=some .globalImplicit)(hs:es.all notStar=true)(hx:es=[]->xs=.nil)
  (ha:PA X es (tA X.K (evs (Za T W k) xs))):PE X (.Call (.Name f p) es [] pos) (tE X.K (ev (Za T W k) (.call f xs))):=by
 intro pins s σ H Q I ⟨mu,env,S,he,hw,d,S',h,q⟩;dsimp only[ev] at h;obtain⟨ds,S1,h1,h⟩:=bP h;obtain⟨fi,hl,hd⟩:=ZbL h;obtain⟨fa,fd,ps,hps,hm,hk,hb,F⟩:=ok.fs f fi hl;have nm:=ZZ hn;have arg:tA X.K (evs (Za T W k) xs) σ H fun vs H1=>spOf X.K T W k f (vs++[]) H1 Q E0:=
  ⟨mu,env,S,he,hw,ds,S1,h1,fun vs mu1 H1 e1 w1 r1=>⟨mu1,S1,ds,w1,by rw[append_nil];exact r1,⟨fi,hl,hd⟩,d,S',h,fun v mu' H' e w r=>q v mu' H' (e1.trans e) w r⟩⟩
 cases es with
 | nil=>
  obtain⟨mu',env',S2,he',hw',ds',S3,h1',k'⟩:=arg;refine Zcl F ok.room hg hm hk hb .nil pass0 nm.1 pins s σ H Q I ?_;rw[hx rfl] at h1';dsimp only[evs] at h1'
  cases h1'
  exact k' [] mu' H .refl hw' .nil
 | cons e es=>
  have hs1:notStar e=true:=by rw[all_cons,and_eq_true] at hs;exact hs.1
  have hs2:es.all notStar=true:=by rw[all_cons,and_eq_true] at hs;exact hs.2
  exact ZdJ F ok.room hg hm hk hb .nil pass0 ha nm.1 (Zz hs1) (ZI hs2) pins s σ H Q I arg
theorem WJ(h:(Za T W k).mt f ds S=some r):∃ fi,T.mts.lookup f=some fi/\ds.length=fi.ps:=by
 cases k with
 |zero=>cases h
 | succ k=>
  obtain⟨fi,h1,h2⟩:=bO (show ((T.mts.lookup f).bind fun fi=>if ds.length=fi.ps then (evSs (Za T W k) W fi.body (ZQ fi.nn ds) S).bind fin else none)=some r from h);split at h2
  ·rename_i h3;exact⟨fi,h1,h3⟩
  ·cases h2
theorem WL{m:Str}:∀ {fs:List (Str×D)}{us:List (Str×V)},us.map (·.1)=fs.map (·.1)->(fs.lookup m).isNone=true->us.lookup m=none
 |[],[],_,_=>rfl
 |[],_::_,e,_=>by cases e
 |_::_,[],e,_=>by cases e
 | (g,y)::fs,(g',u)::us,e,h=>by
  simp only[map_cons,List.cons.injEq] at e;obtain⟨e1,e2⟩:=e;subst e1;rw[lookup_cons] at h ⊢;cases q:m==g' with
  |true=>rw[q] at h;cases h
  |false=>rw[q] at h;exact WL e2 h
theorem Zil{o:Expr}{m:Str}{es:List Expr}{ap pos:Pos}{xo:Ex}{xs:Exs}{pl:Sem Bool}(ok:XOk X T W k nm)(hmi:m≠"__init__")(ho:PE X o (tE X.K (ev (Za T W k) xo)))(ha:PA X es (tA X.K (evs (Za T W k) xs)))(hx:es=[]->xs=.nil)(hs:es.all notStar=true)
  (ht:eval (.Call (.Attribute o m ap) es [] pos) X.env=(do
   let ov<-eval o X.env
   standAt ap.atName
   let (f,first)<-holding [ov] (getMethod ov m pl)
   callWith pos f first (backTo pos (starEach es X.env)) (backToKw pos (keywordEach [] X.env)))) :
  PE X (.Call (.Attribute o m ap) es [] pos) (tE X.K (ev (Za T W k) (.mcl xo m xs))):=by
 intro pins s σ H Q I ⟨mu,env,S,he,hw,d,S',h,q⟩;dsimp only[ev] at h;obtain⟨da,S1,h1,h⟩:=bP h;cases da with
 | ref n=>
  dsimp only at h;cases q9:S1[n]? with
  |none=>rw[q9] at h;cases h
  | some ob=>
   rw[q9] at h;cases ob with
   | ins C fs=>
    dsimp only at h;split at h
    ·rename_i hnone;obtain⟨ds,S2,h2,h⟩:=bP h;dsimp only at h;obtain⟨fi,hl,hd⟩:=WJ h;obtain⟨Ca,fa,fd,ps,hps,hCa,cc,hm,hb,F⟩:=ok.ms C m fi hmi hl;have at1:∀ {mu1:List Addr}{H1:Hp}{x:V},WR X.K mu1 H1 S1->RD X.K mu1 H1 (.ref n) x->∃ a dx us,x=.ref a/\H1 a=some (.ins Ca dx us)/\us.lookup m=none:=fun {mu1 H1 x} w r=>by
      obtain⟨b,Cb,dx,us,rfl,g1,g2,g3,g4,g5⟩:=qK w q9 r;rw[hCa] at g3;cases g3
      exact⟨b,dx,us,rfl,g2,WL g4 hnone⟩
     cases es with
     | nil=>
      cases hx rfl
      dsimp only[evs] at h2;cases h2
      refine Zcm (pl:=pl) ho cc hm F ok.room hb .nil pass0 ht pins s σ H Q I ⟨mu,env,S,he,hw,_,_,h1,fun x mu1 H1 e1 w1 r1=>?_⟩;obtain⟨a,dx,us,e2,e3,e4⟩:=at1 w1 r1;refine⟨a,dx,us,e2,e3,e4,?_⟩;exact⟨mu1,_,[.ref n],w1,.cons r1 .nil,⟨fi,hl,hd⟩,d,S',h,fun v mu' H' e w r=>q v mu' H' (e1.trans e) w r⟩
     | cons e es=>
      have hs1:notStar e=true:=by rw[all_cons,and_eq_true] at hs;exact hs.1
      have hs2:es.all notStar=true:=by rw[all_cons,and_eq_true] at hs;exact hs.2
      refine ZdK (pl:=pl) ho cc hm F ok.room hb .nil pass0 ha (Zz hs1) (ZI hs2) ht pins s σ H Q I ⟨mu,env,S,he,hw,_,_,h1,fun x mu1 H1 e1 w1 r1=>?_⟩;obtain⟨a,dx,us,e2,e3,e4⟩:=at1 w1 r1;refine⟨a,dx,us,e2,e3,e4,mu1,env,S1,he.mono e1,w1,ds,S2,h2,fun vs mu2 H2 e5 w2 r2=>?_⟩;refine⟨mu2,S2,.ref n::ds,w2,.cons (RD.mono e5 _ _ r1) (by rw[append_nil];exact r2),⟨fi,hl,hd⟩,d,S',h,fun v mu' H' e w r=>q v mu' H' ((e1.trans e5).trans e) w r⟩
    ·cases h
   |_=>cases h
 |_=>cases h
theorem Zim(ok:XOk X T W k nm)(hn:ZE C=true)(hg:X.env.scope.names.lookup C=some .globalImplicit)(hs:es.all notStar=true)(hx:es=[]->xs=.nil)
  (ha:PA X es (tA X.K (evs (Za T W k) xs))):PE X (.Call (.Name C p) es [] pos) (tE X.K (ev (Za T W k) (.new C xs))):=by
 intro pins s σ H Q I ⟨mu,env,S,he,hw,d,S',h,q⟩;dsimp only[ev] at h;obtain⟨ds,S1,h1,h⟩:=bP h;obtain⟨dd,S2,h2,h⟩:=bP h;cases dd with
 | non=>
  cases h
  cases k with
  |zero=>cases h2
  | succ j=>
   replace h2:(Za T W j).mt (Zh C "__init__") (.ref S1.length::ds) (S1++[.ins C []])=some (.non,S2):=h2;obtain⟨fi,hl,hd⟩:=WJ h2;obtain⟨Ca,fa,fd,ps,hps,hCa,hmg,M,hb,F⟩:=ok.mk' j rfl C fi hl;have nm:=ZZ hn;have arg:tA X.K (evs (Za T W (j+1)) xs) σ H fun vs H1=>∀ x dx,H1 x=none->H1 dx=none->dx≠x ->
     spM X.K T W j (Zh C "__init__") (.ref x::(vs++[])) (upd (upd H1 dx (.own x)) x (.ins Ca dx [])) (fun v H2=>v=.non/\Q (.ref x) H2) E0:=
    ⟨mu,env,S,he,hw,ds,S1,h1,fun vs mu1 H1 e1 w1 r1=>fun x dx hxn hdn hne=>by
     have w2:=w1.keep (o:=.own x) hdn;have x2:Ext mu1 H1 mu1 (upd H1 dx (.own x)):=Ext.new w1 hdn;have hx2:(upd H1 dx (.own x)) x=none:=by rw[Zi (Ne.symm hne)];exact hxn
     have x3:Ext mu1 (upd H1 dx (.own x)) (mu1++[x]) (upd (upd H1 dx (.own x)) x (.ins Ca dx [])):=Ext.alloc w2 hx2;have w3:WR X.K (mu1++[x]) (upd (upd H1 dx (.own x)) x (.ins Ca dx [])) (S1++[.ins C []]):=w2.allocO hx2 ⟨Ca,dx,[],Zv,hCa,rfl,.nil⟩;have rx:RD X.K (mu1++[x]) (upd (upd H1 dx (.own x)) x (.ins Ca dx [])) (.ref S1.length) (.ref x):=by
      dsimp only[RD];exact⟨x,by rw[<- w1.len];simp,rfl⟩
     refine⟨mu1++[x],S1++[.ins C []],.ref S1.length::ds,w3,.cons rx (by rw[append_nil];exact RDs.mono (x2.trans x3) _ _ r1),⟨fi,hl,hd⟩,.non,S2,h2,fun v mu' H' e w r=>⟨JX r,?_⟩⟩
     exact q _ mu' H' (((e1.trans x2).trans x3).trans e) w (RD.mono e _ _ rx)⟩
   cases es with
   | nil=>
    obtain⟨mu',env',S2,he',hw',ds',S3,h1',k'⟩:=arg;refine Zcn M F ok.room hg hmg hb .nil pass0 nm.1 pins s σ H Q I ?_;rw[hx rfl] at h1';dsimp only[evs] at h1'
    cases h1'
    exact k' [] mu' H .refl hw' .nil
   | cons e es=>
    have hs1:notStar e=true:=by rw[all_cons,and_eq_true] at hs;exact hs.1
    have hs2:es.all notStar=true:=by rw[all_cons,and_eq_true] at hs;exact hs.2
    exact ZdL M F ok.room hg hmg hb .nil pass0 ha nm.1 (Zz hs1) (ZI hs2) pins s σ H Q I arg
 |_=>cases h
end
section
variable {X:Cx}{T:Tab}{W k:Nat}{nm:List (Str×NameKind)}{pins:zPn}{σ:St}{H:Hp}{s:Shared}{mu:List Addr}{S:Sto}{c:Cl}
theorem ZfW:PE X (.Dict [] [] pos) (tE X.K (ev c .dnew)):=by
 intro pins s σ H Q I ⟨mu,env,S,he,hw,d,S',hf,k⟩;dsimp only[ev] at hf;cases hf
 refine Zcs pins s σ H Q I fun p hp=>?_;exact k _ _ _ (Ext.alloc hw hp) (hw.allocO hp ⟨[],Zv,rfl,.nil⟩) (ZbD hw)
end
end PF
namespace PFZ
open PySem PySem.Spec PyProof.Rows
section
variable {prog:Program}{w:World}{A:Around}{E:zVP}{s:Shared}
theorem tupNext{Q:zVP}(a:s.heap.IsTupleIter j c k)(b:s.heap.IsTuple c its)(e:its[k]?=some x)
  (q:∀ g,g.IsTupleIter j c (k+1)->SameBut j s.heap g->Q x { s with heap:=g }):wpAny (model prog w) A (Builtin.SmallTypes.nextOf (.ref j)) Q E s:=by
 obtain⟨oj,gj,cj,dj⟩:=id a;obtain⟨oc,gc,_,nc,dc⟩:=b;unfold Builtin.SmallTypes.nextOf;refine oAa (wpAny_callSpecial?_slot (name:=Str.ofString "__next__") a.typeIs PySem.F.slot_tuple_iterator_next (wpAny_call_entry PySem.F.slot_tuple_iterator_next a.typeIs PySem.F.entry_tuple_iterator_next ?_ (PySem.F.args_tuple_iterator_next_1 _)));show wpAny _ _ (field (.ref j) 0>>=_) _ _ s;refine oAa (wpAny_field gj dj (x:=.ref c) rfl ?_);show wpAny _ _ (if (Value.ref c==Value.none)=true then _ else _) _ _ s;rw[if_neg (show ¬ ((Value.ref c==Value.none)=true) by exact oAg)];show wpAny _ _ (field (.ref j) 1>>=_) _ _ s;refine oAa (wpAny_field gj dj (x:=.int k 0) rfl ?_);show wpAny _ _ (seqItems? (.ref c)>>=_) _ _ s;refine oAa (wpAny_seqItems gc dc ?_);simp only[toNat_natCast,e];refine oAa (wpAny_setField gj dj (by simp) (oAb ⟨x,rfl,oAb (q _ ⟨_,get?_update_self _ gj (Obj.isFreed_of_fields (Obj.data_mapFields dj _)),(Obj.cls_mapFields ..).trans cj,?_⟩ (Heap.SameBut.update ..))⟩));rw[Obj.data_mapFields dj];simp[rawInt]
theorem tupEnd{Q:zVP}(hh:A.handled=none)(a:s.heap.IsTupleIter j c k)(b:s.heap.IsTuple c its)(e:its[k]?=none)
  (q:∀ g x,ExtBut j s.heap g->(∃ o,g.get? x=some o/\o.cls=.type "StopIteration")->E (.ref x) { s with heap:=g }):wpAny (model prog w) A (Builtin.SmallTypes.nextOf (.ref j)) Q E s:=by
 obtain⟨oj,gj,cj,dj⟩:=id a;obtain⟨oc,gc,_,nc,dc⟩:=b;unfold Builtin.SmallTypes.nextOf;refine oAa (wpAny_callSpecial?_slot (name:=Str.ofString "__next__") a.typeIs PySem.F.slot_tuple_iterator_next (wpAny_call_entry PySem.F.slot_tuple_iterator_next a.typeIs PySem.F.entry_tuple_iterator_next ?_ (PySem.F.args_tuple_iterator_next_1 _)));show wpAny _ _ (field (.ref j) 0>>=_) _ _ s;refine oAa (wpAny_field gj dj (x:=.ref c) rfl ?_);show wpAny _ _ (if (Value.ref c==Value.none)=true then _ else _) _ _ s;rw[if_neg (show ¬ ((Value.ref c==Value.none)=true) by exact oAg)];show wpAny _ _ (field (.ref j) 1>>=_) _ _ s;refine oAa (wpAny_field gj dj (x:=.int k 0) rfl ?_);show wpAny _ _ (seqItems? (.ref c)>>=_) _ _ s;refine oAa (wpAny_seqItems gc dc ?_);simp only[toNat_natCast,e];refine oAa (wpAny_rule (oAa (wpAny_setField gj dj (by simp) ?_)));show wpAny _ _ (newExc (.type "StopIteration") []>>=_) _ _ _;refine oAa ?_;simp only[newExc,newTuple];refine oAa (wpAny_newObj_type ?_ (by size_fits));refine oAa (m:=firstArgMember _ _) (wpAny_of_eq (a:=Value.none) (by first | rfl | (simp only[firstArgMember];rfl)) ?_)
 refine wpAny_newObj_type ?_ (by size_fits);simp only[raiseNew];refine oAa (wpAny_handled ?_)
 first | rw[show A.in1.handled=none from hh] | rw[hh]
 exact oAa (oAb (wpAny_throw (q _ _ (((Heap.SameBut.update ..).extBut.push _).push _) ⟨_,oAe _ rfl,rfl⟩)))
end
theorem drawsTup(hh:A.handled=none)(j c:Addr)(hne:c≠j)(its:Array Value) :
  Draws prog w A j [j,c] its.size (fun i v=>its[i]?=some v) (fun i h=>h.IsTupleIter j c i/\h.IsTuple c its) where
 live:=fun _ _ st=>by obtain⟨o,ho,_⟩:=st.1;exact⟨o,ho⟩
 frame:=fun _ _ _ st k=>⟨by obtain⟨o,a,r⟩:=st.1;exact⟨o,k j (by simp) o a,r⟩,by obtain⟨o,a,r⟩:=st.2;exact⟨o,k c (by simp) o a,r⟩⟩
 item:=fun i s Q E hi st q=>tupNext st.1 st.2 (x:=its[i]) (by simp[hi]) fun g a b=>q _ g s.toks (by simp[hi]) ⟨a,by obtain⟨o,e,r⟩:=st.2;exact⟨o,(b.2 c hne).trans e,r⟩⟩ b
 done:=fun s Q E st q=>tupEnd hh st.1 st.2 (by simp) fun g x a b=>q g x a b
structure Zap(z TI TO i1 i2:Addr)(f1 f2:List Addr):Prop where
 a1:i1∈f1
 a2:i2∈f2
 z1:z∉f1
 z2:z∉f2
 o1:TO∉f1
 o2:TO∉f2
 x1:i1∉f2
 x2:i2∉f1
 tz:TI≠z
 tO:TI≠TO
 t1:TI≠i1
 t2:TI≠i2
 oz:TO≠z
theorem Yz{α:Type}{a b:α}{l:List α}(h:a∈l)(n:b∉l):a≠b:=fun e=>n (e ▸ h)
section
variable {prog:Program}{w:World}{A:Around}{E:zVP}{s:Shared}
variable {z TI TO i1 i2:Addr}{f1 f2:List Addr}{n1 n2:Nat}{P1 P2:Nat->Value->Prop}{S1 S2:Nat->Heap->Prop}
theorem Draws.at{prog:Program}{w:World}{A:Around}{it:Addr}{fp:List Addr}{n:Nat}{P:Nat->Value->Prop}{St:Nat->Heap->Prop}(D:Draws prog w A it fp n P St){i:Nat}{b:Addr}{h h':Heap}(st:St i h)(hs:ExtBut b h h')(nb:b∉fp):St i h':=
 D.frame i h h' st fun c hc o e=>hs c o (Yz hc nb) e
theorem zipItem(Z:Zap z TI TO i1 i2 f1 f2)(D1:Draws prog w A i1 f1 n1 P1 S1)(D2:Draws prog w A i2 f2 n2 P2 S2){k:Nat}{a b:Value}{Q:zVP}(hz:IsZip s.heap z TI TO .none)(hi:IsPair s.heap TI (.ref i1) (.ref i2))(ho:IsPair s.heap TO a b)
  (st1:S1 k s.heap)(st2:S2 k s.heap)(l1:k<n1)(l2:k<n2)
  (q:∀ g tk x y,P1 k x->P2 k y->IsZip g z TI TO (rawInt s.heap.objs.size)->IsPair g TO x y->S1 (k+1) g->S2 (k+1) g->IsPair g s.heap.objs.size x y->g.objs.size=s.heap.objs.size+1 ->
   (∀ c o,c≠z->c≠TO->c≠i1->c≠i2->s.heap.get? c=some o->g.get? c=some o)->Q (.ref s.heap.objs.size) { s with heap:=g,toks:=tk }) :
  wpAny (model prog w) A (Builtin.«zip.__next__» ⟨[.ref z],[]⟩) (fun fin s'=>∃ v,fin=.done (.ret v)/\Q v s') E s:=by
 show wpAny _ _ (field (.ref z) 2>>=_) _ _ _;refine oAa (wpAny_field hz rfl (x:=.bool false) rfl ?_);show wpAny _ _ (field (.ref z) 3>>=_) _ _ _;refine oAa (wpAny_field hz rfl (x:=.ref TI) rfl (oAa (wpAny_seqItems hi rfl ?_)));show wpAny _ _ (Builtin.SmallTypes.ownedTupleIsFree (.ref z)>>=_) _ _ _;refine oAa ?_;unfold Builtin.SmallTypes.ownedTupleIsFree;refine oAa (wpAny_field hz rfl (x:=.none) rfl (oAb ?_));simp only[if_true];refine oAa (wpAny_rule (oAa (wpAny_field hz rfl (x:=.ref TO) rfl ?_)));refine oAa (wpAny_setField_rec hz (by simp) fun g1 y1 m1=>?_);replace y1:IsZip g1 z TI TO .ellipsis:=y1;refine oAa ?_;simp only[List.zipIdx_cons,List.zipIdx_nil,List.forIn_cons,List.forIn_nil];refine oAa (oAa (wpAny_onRaise ?_));show wpAny _ _ (Builtin.SmallTypes.nextOf (.ref i1)>>=_) _ _ _;have zi1:i1≠z:=Yz Z.a1 Z.z1;have zi2:i2≠z:=Yz Z.a2 Z.z2;have oi1:TO≠i1:=(Yz Z.a1 Z.o1).symm;have oi2:TO≠i2:=(Yz Z.a2 Z.o2).symm;have i12:i1≠i2:=fun e=>Z.x1 (e ▸ Z.a2);refine oAa (D1.item k _ _ _ l1 (Draws.at D1 st1 m1.extBut Z.z1) fun x g2 tk2 p1 u2 m2=>oAb ?_);have v2:IsPair g2 TO a b:=m2.extBut _ _ oi1 (m1.extBut _ _ Z.oz ho);refine oAa (wpAny_seqItems v2 rfl (oAa (wpAny_updateSeq_pair v2 fun g3 v3 m3=>?_)));replace v3:IsPair g3 TO x b:=v3;refine oAa (wpAny_letGo (oAb (oAa (oAa (wpAny_onRaise ?_)))));show wpAny _ _ (Builtin.SmallTypes.nextOf (.ref i2)>>=_) _ _ _;refine oAa (D2.item k _ _ _ l2 (Draws.at D2 (Draws.at D2 (Draws.at D2 st2 m1.extBut Z.z2) m2.extBut Z.x1) m3.extBut Z.o2) fun y g4 tk4 p2 u4 m4=>oAb ?_);have v4:IsPair g4 TO x b:=m4.extBut _ _ oi2 v3;refine oAa (wpAny_seqItems v4 rfl (oAa (wpAny_updateSeq_pair v4 fun g5 v5 m5=>?_)));replace v5:IsPair g5 TO x y:=v5;refine oAa (wpAny_letGo (oAb (oAb (oAa (wpAny_seqItems v5 rfl (oAa (wpAny_newTuple ?_)))))));have ez:g5.objs.size=s.heap.objs.size:=by rw[m5.1,m4.1,m3.1,m2.1,m1.1]
 have y5:IsZip g5 z TI TO .ellipsis:=m5.extBut _ _ Z.oz.symm (m4.extBut _ _ zi2.symm (m3.extBut _ _ Z.oz.symm (m2.extBut _ _ zi1.symm y1)));have k5:∀ c o,c≠z->c≠TO->c≠i1->c≠i2->s.heap.get? c=some o->g5.get? c=some o:=fun c o c1 c2 c3 c4 e=>m5.extBut _ _ c2 (m4.extBut _ _ c4 (m3.extBut _ _ c2 (m2.extBut _ _ c3 (m1.extBut _ _ c1 e))));have u5:S1 (k+1) g5:=Draws.at D1 (Draws.at D1 (Draws.at D1 u2 m3.extBut Z.o1) m4.extBut Z.x2) m5.extBut Z.o1;have t5:S2 (k+1) g5:=Draws.at D2 u4 m5.extBut Z.o2;have zl:z<g5.objs.size:=oAf y5;show wpAny _ _ (Builtin.SmallTypes.ownedTupleHandOut (.ref z) (.ref g5.objs.size)>>=_) _ _ _;refine oAa ?_;unfold Builtin.SmallTypes.ownedTupleHandOut;have y6:IsZip (g5.push { cls:=.type "tuple",data:=.seq #[x,y] }) z TI TO .ellipsis:=oAd _ y5;refine oAa (wpAny_setField_rec y6 (by simp) fun g7 y7 m7=>?_);replace y7:IsZip g7 z TI TO (rawInt g5.objs.size):=y7;refine wpAny_setField_rec y7 (by simp) fun g8 y8 m8=>?_;replace y8:IsZip g8 z TI TO (rawInt g5.objs.size):=y8;have up:∀ c o,c≠z->g5.get? c=some o->g8.get? c=some o:=fun c o c1 e=>m8.extBut _ _ c1 (m7.extBut _ _ c1 (oAd _ e));have T8:IsPair g8 g5.objs.size x y:=m8.extBut _ _ (ne_of_gt zl) (m7.extBut _ _ (ne_of_gt zl) (oAe _ rfl));have s8:g8.objs.size=g5.objs.size+1:=by rw[m8.1,m7.1,size_push]
 rw[ez] at y8 T8 s8;refine oAb ⟨_,rfl,?_⟩;show Q (.ref g5.objs.size) _;rw[ez];exact q g8 tk4 x y p1 p2 y8 (up _ _ Z.oz v5) (D1.frame _ _ _ u5 fun c hc o e=>up c o (Yz hc Z.z1) e) (D2.frame _ _ _ t5 fun c hc o e=>up c o (Yz hc Z.z2) e) T8 s8 fun c o c1 c2 c3 c4 e=>up c o c1 (k5 c o c1 c2 c3 c4 e)
theorem zipEnd(Z:Zap z TI TO i1 i2 f1 f2)(D1:Draws prog w A i1 f1 n1 P1 S1)(D2:Draws prog w A i2 f2 n2 P2 S2){k:Nat}{a b:Value}{Q:Fin->Shared->Prop}(hz:IsZip s.heap z TI TO .none)(hi:IsPair s.heap TI (.ref i1) (.ref i2))(ho:IsPair s.heap TO a b)
  (st1:S1 k s.heap)(st2:S2 k s.heap)(l:k=n1\/(k<n1/\k=n2))
  (q:∀ g e tk,(∀ c o,c≠z->c≠TO->c≠i1->c≠i2->s.heap.get? c=some o->g.get? c=some o)->(∃ o,g.get? e=some o/\o.cls=.type "StopIteration")->E (.ref e) { s with heap:=g,toks:=tk }) :
  wpAny (model prog w) A (Builtin.«zip.__next__» ⟨[.ref z],[]⟩) Q E s:=by
 show wpAny _ _ (field (.ref z) 2>>=_) _ _ _;refine oAa (wpAny_field hz rfl (x:=.bool false) rfl ?_);show wpAny _ _ (field (.ref z) 3>>=_) _ _ _;refine oAa (wpAny_field hz rfl (x:=.ref TI) rfl (oAa (wpAny_seqItems hi rfl ?_)));show wpAny _ _ (Builtin.SmallTypes.ownedTupleIsFree (.ref z)>>=_) _ _ _;refine oAa ?_;unfold Builtin.SmallTypes.ownedTupleIsFree;refine oAa (wpAny_field hz rfl (x:=.none) rfl (oAb ?_));simp only[if_true];refine oAa (wpAny_rule (oAa (wpAny_field hz rfl (x:=.ref TO) rfl ?_)));refine oAa (wpAny_setField_rec hz (by simp) fun g1 y1 m1=>?_);replace y1:IsZip g1 z TI TO .ellipsis:=y1;refine oAa ?_;simp only[List.zipIdx_cons,List.zipIdx_nil,List.forIn_cons,List.forIn_nil];refine oAa (oAa (wpAny_onRaise ?_));show wpAny _ _ (Builtin.SmallTypes.nextOf (.ref i1)>>=_) _ _ _;have zi1:i1≠z:=Yz Z.a1 Z.z1;have zi2:i2≠z:=Yz Z.a2 Z.z2;have oi1:TO≠i1:=(Yz Z.a1 Z.o1).symm
 rcases l with l | ⟨l1,l2⟩
 ·subst l;refine oAa (D1.done _ _ _ (Draws.at D1 st1 m1.extBut Z.z1) fun g2 e m2 he=>?_);obtain⟨oe,hoe,hce⟩:=he;have y2:IsZip g2 z TI TO .ellipsis:=m2 _ _ zi1.symm y1;have hez:e≠z:=fun x=>by subst x;rw[y2] at hoe;cases hoe;simp at hce
  refine wpAny_setField_rec y2 (by simp) fun g3 _ m3=>q g3 e s.toks (fun c o c1 _ c3 _ x=>m3.extBut _ _ c1 (m2 _ _ c3 (m1.extBut _ _ c1 x))) ⟨oe,m3.extBut _ _ hez hoe,hce⟩
 ·subst l2;refine oAa (D1.item k _ _ _ l1 (Draws.at D1 st1 m1.extBut Z.z1) fun x g2 tk2 p1 u2 m2=>oAb ?_);have v2:IsPair g2 TO a b:=m2.extBut _ _ oi1 (m1.extBut _ _ Z.oz ho);refine oAa (wpAny_seqItems v2 rfl (oAa (wpAny_updateSeq_pair v2 fun g3 v3 m3=>?_)));refine oAa (wpAny_letGo (oAb (oAa (oAa (wpAny_onRaise ?_)))));show wpAny _ _ (Builtin.SmallTypes.nextOf (.ref i2)>>=_) _ _ _;refine oAa (D2.done _ _ _ (Draws.at D2 (Draws.at D2 (Draws.at D2 st2 m1.extBut Z.z2) m2.extBut Z.x1) m3.extBut Z.o2) fun g4 e m4 he=>?_);obtain⟨oe,hoe,hce⟩:=he;have y4:IsZip g4 z TI TO .ellipsis:=m4 _ _ zi2.symm (m3.extBut _ _ Z.oz.symm (m2.extBut _ _ zi1.symm y1));have hez:e≠z:=fun x=>by subst x;rw[y4] at hoe;cases hoe;simp at hce
  refine wpAny_setField_rec y4 (by simp) fun g5 _ m5=>q g5 e tk2 (fun c o c1 c2 c3 c4 x=>m5.extBut _ _ c1 (m4 _ _ c4 (m3.extBut _ _ c2 (m2.extBut _ _ c3 (m1.extBut _ _ c1 x))))) ⟨oe,m5.extBut _ _ hez hoe,hce⟩
theorem walksZip(Z:Zap z TI TO i1 i2 f1 f2)(D1:Draws prog w A.in1 i1 f1 n1 P1 S1)(D2:Draws prog w A.in1 i2 f2 n2 P2 S2) :
  WalksT prog w A z (z::TI::TO::(f1++f2)) [z,TO,i1,i2] (min n1 n2) (fun i vals=>∃ x y,P1 i x/\P2 i y/\vals=#[x,y])
   (fun i h=>IsZip h z TI TO .none/\IsPair h TI (.ref i1) (.ref i2)/\(∃ a b,IsPair h TO a b)/\S1 i h/\S2 i h)
   (fun i T h=>IsZip h z TI TO (rawInt T)/\IsPair h TI (.ref i1) (.ref i2)/\(∃ a b,IsPair h TO a b)/\S1 (i+1) h/\S2 (i+1) h/\T≠z/\T≠TO/\T≠i1/\T≠i2) where
 sub:=fun c hc=>by
  simp only[mem_cons,not_mem_nil,or_false] at hc
  rcases hc with rfl | rfl | rfl | rfl<;>simp[Z.a1,Z.a2]
 frame:=fun i h h' hst k=>by
  obtain⟨a1,a2,⟨x,y,a3⟩,a4,a5⟩:=hst;exact⟨k z (by simp) _ a1,k TI (by simp) _ a2,⟨x,y,k TO (by simp) _ a3⟩,D1.frame _ _ _ a4 fun b hb o e=>k b (by simp[hb]) o e,D2.frame _ _ _ a5 fun b hb o e=>k b (by simp[hb]) o e⟩
 item:=fun i s Q E hi hst q=>by
  obtain⟨a1,a2,⟨x,y,a3⟩,a4,a5⟩:=hst;have hT:s.TypeIs (.ref z) "zip":=⟨_,a1,rfl⟩;unfold pyNext;refine oAa (wpAny_attempt (wpAny_callSpecial?_slot (name:=Str.ofString "__next__") hT PySem.F.slot_zip_next (wpAny_call_entry PySem.F.slot_zip_next hT PySem.F.entry_zip_next (zipItem Z D1 D2 a1 a2 a3 a4 a5 (by lia) (by lia) fun g tk u v p1 p2 b1 b2 b3 b4 b5 b6 b7=>oAb ?_) (PySem.F.args_zip_next_1 _))));have lt:∀ {c o},s.heap.get? c=some o->s.heap.objs.size≠c:=fun e=>ne_of_gt (oAf e);obtain⟨o1,e1⟩:=D1.live _ _ a4;obtain⟨o2,e2⟩:=D2.live _ _ a5;exact q s.heap.objs.size #[u,v] g tk ⟨u,v,p1,p2,rfl⟩ (oAl _) ⟨_,b5,rfl,_,rfl⟩ ⟨b1,b7 _ _ Z.tz Z.tO Z.t1 Z.t2 a2,⟨_,_,b2⟩,b3,b4,lt a1,lt a3,lt e1,lt e2⟩
   fun c o hc e=>b7 c o (fun x=>hc (by simp[x])) (fun x=>hc (by simp[x])) (fun x=>hc (by simp[x])) (fun x=>hc (by simp[x])) e
 go:=fun elts k pos i T s Q E hm q=>by
  obtain⟨a1,a2,⟨x,y,a3⟩,a4,a5,_⟩:=hm;exact wpAny_letOwnedTupleGo_zip a1 fun g b1 m=>q g ⟨b1,m.extBut _ _ Z.tz a2,⟨x,y,m.extBut _ _ Z.oz a3⟩,Draws.at D1 a4 m.extBut Z.z1,Draws.at D2 a5 m.extBut Z.z2⟩ fun c o hc e=>m.extBut _ _ (fun x=>hc (by simp[x])) e
 apart:=fun i T h hm hT=>by
  obtain⟨_,_,_,_,_,t1,t2,t3,t4⟩:=hm;simp only[mem_cons,not_mem_nil,or_false] at hT
  rcases hT with h | h | h | h
  ·exact t1 h
  ·exact t2 h
  ·exact t3 h
  ·exact t4 h
 done:=fun s Q E hst q=>by
  obtain⟨a1,a2,⟨x,y,a3⟩,a4,a5⟩:=hst;have hT:s.TypeIs (.ref z) "zip":=⟨_,a1,rfl⟩;unfold pyNext;refine oAa (wpAny_attempt (wpAny_callSpecial?_slot (name:=Str.ofString "__next__") hT PySem.F.slot_zip_next (wpAny_call_entry PySem.F.slot_zip_next hT PySem.F.entry_zip_next (zipEnd Z D1 D2 a1 a2 a3 a4 a5 (by lia) fun g e tk hk he=>?_) (PySem.F.args_zip_next_1 _))));obtain⟨o,ho,hc⟩:=he;refine oAa (wpAny_isInstance (T:="StopIteration") (b:=true) ⟨o,ho,hc⟩ isSubtype_stop (oAb (q _ tk fun c o hc e=>?_)));exact hk c o (fun x=>hc (by simp[x])) (fun x=>hc (by simp[x])) (fun x=>hc (by simp[x])) (fun x=>hc (by simp[x])) e
 self:=fun i s Q E hst q=>wpAny_pyIter_zip hst.1 q
end
noncomputable def ItO(k:Bool)(l:Addr):Obj:={ cls:=.type (if k then "tuple_iterator" else "list_iterator"),data:=.fields #[.ref l,.int 0 0] }
def Sq(k:Bool)(h:Heap)(l:Addr)(its:Array Value):Prop:=match k with
 |true=>h.IsTuple l its
 |false=>h.IsList l its
def It(k:Bool)(h:Heap)(j l:Addr)(i:Nat):Prop:=match k with
 |true=>h.IsTupleIter j l i
 |false=>h.IsListIter j l i
theorem Sq.keep(a:Sq k h l its)(e:∀ o,h.get? l=some o->h'.get? l=some o):Sq k h' l its:=by
 cases k<;>(obtain⟨o,x,r⟩:=a;exact⟨o,e o x,r⟩)
theorem Sq.lt(a:Sq k h l its):l<h.objs.size:=by
 cases k<;>(obtain⟨o,x,r⟩:=a;exact oAf x)
theorem drawsSq(hh:A.handled=none)(k:Bool)(j c:Addr)(hne:c≠j)(its:Array Value):Draws prog w A j [j,c] its.size (fun i v=>its[i]?=some v) (fun i h=>It k h j c i/\Sq k h c its):=by
 cases k with
 |true=>exact drawsTup hh j c hne its
 |false=>exact Draws.list hh j c hne its
section
variable {prog:Program}{w:World}{A:Around}{E:zVP}{s:Shared}
theorem iterSq{Q:zVP}(a:Sq k s.heap l its)(q:Q (.ref s.heap.objs.size) { s with heap:=s.heap.push (ItO k l) }):wpAny (model prog w) A (pyIter (.ref l)) Q E s:=by
 cases k with
 |true=>exact wpAny_pyIter_tuple a q
 |false=>exact wpAny_pyIter_list a q
theorem it0{k:Bool}{h:Heap}{l:Addr}:It k (h.push (ItO k l)) h.objs.size l 0:=by
 cases k<;>exact⟨_,oAe _ rfl,rfl,rfl⟩
theorem It.keep(a:It k h j l i)(e:∀ o,h.get? j=some o->h'.get? j=some o):It k h' j l i:=by
 cases k<;>(obtain⟨o,x,r⟩:=a;exact⟨o,e o x,r⟩)
end
noncomputable def zh(h:Heap)(k1 k2:Bool)(l1 l2:Addr):Heap:=
 ((((h.push (ItO k1 l1)).push (ItO k2 l2)).push { cls:=.type "tuple",data:=.seq #[.ref h.objs.size,.ref (h.push (ItO k1 l1)).objs.size] }).push { cls:=.type "tuple",data:=.seq #[.none,.none] }).push
  { cls:=.type "zip",data:=.fields #[.none,.bool false,.bool false,.ref ((h.push (ItO k1 l1)).push (ItO k2 l2)).objs.size,.ref (((h.push (ItO k1 l1)).push (ItO k2 l2)).push { cls:=.type "tuple",data:=.seq #[.ref h.objs.size,.ref (h.push (ItO k1 l1)).objs.size] }).objs.size] }
theorem zipNew(k1 k2:Bool)(l1 l2:Addr)(xs ys:Array Value):Meets (Builtin.«zip.__new__» ⟨[.type "zip",.ref l1,.ref l2],[]⟩) (fun _ R s=>Sq k1 s.heap l1 xs/\Sq k2 s.heap l2 ys /\
      R (.ok (.ret (.ref (s.heap.objs.size+4)))) { s with heap:=zh s.heap k1 k2 l1 l2 }):=
  .of_wp fun prog w A R s h=>by
    obtain⟨hp,g,d,tk,os⟩:=s;obtain⟨b1,b2,h⟩:=h;have hsub:=sub_zip;have c1:Sq k1 (Shared.heap ⟨hp,g,d,tk,os⟩) l1 xs:=b1;have c2:Sq k2 (Shared.heap ⟨hp.push (ItO k1 l1),g,d,tk,os⟩) l2 ys:=b2.keep fun o e=>oAd _ e
    wp_walk using iterSq c1,iterSq c2
    refine⟨_,rfl,?_⟩;have e:∀ (h:Heap) (o:Obj),(h.push o).objs.size=h.objs.size+1:=fun h o=>size_push ..;simp only[zh,e] at h ⊢;exact h
section
variable {prog:Program}{w:World}{A:Around}{E:zVP}{s:Shared}
theorem callZip{k1 k2:Bool}{l1 l2:Addr}{xs ys:Array Value}{Q:zVP}(a1:Sq k1 s.heap l1 xs)(a2:Sq k2 s.heap l2 ys)
  (q:∀ g,IsZip g (s.heap.objs.size+4) (s.heap.objs.size+2) (s.heap.objs.size+3) .none->IsPair g (s.heap.objs.size+2) (.ref s.heap.objs.size) (.ref (s.heap.objs.size+1))->IsPair g (s.heap.objs.size+3) .none .none ->
   It k1 g s.heap.objs.size l1 0->It k2 g (s.heap.objs.size+1) l2 0->(∀ c o,s.heap.get? c=some o->g.get? c=some o)->Q (.ref (s.heap.objs.size+4)) { s with heap:=g }) :
  wpAny (model prog w) A (call (.type "zip") [.ref l1,.ref l2]) Q E s:=by
 refine callType_new PySem.F.called_zip (by decide) (PySem.F.typeCall_zip_2 _ _) (PySem.F.newCall_zip_2 _ _) (fun obj=>PySem.F.args_object_init_3 obj _ _) PySem.F.entry_zip_new (zipNew k1 k2 l1 l2 xs ys) ⟨a1,a2,?_⟩;have e:∀ (h:Heap) (o:Obj),(h.push o).objs.size=h.objs.size+1:=fun h o=>size_push ..;have up:∀ c o,s.heap.get? c=some o->(zh s.heap k1 k2 l1 l2).get? c=some o:=fun c o x=>oAd _ (oAd _ (oAd _ (oAd _ (oAd _ x))));have b5:(zh s.heap k1 k2 l1 l2).get? (s.heap.objs.size+4)=some { cls:=.type "zip",data:=.fields #[.none,.bool false,.bool false,.ref (s.heap.objs.size+2),.ref (s.heap.objs.size+3)] }:=by
  unfold zh;simp only[e]
  have:=oAe ((((s.heap.push (ItO k1 l1)).push (ItO k2 l2)).push { cls:=.type "tuple",data:=.seq #[.ref s.heap.objs.size,.ref (s.heap.objs.size+1)] }).push { cls:=.type "tuple",data:=.seq #[.none,.none] }) (o:={ cls:=.type "zip",data:=.fields #[.none,.bool false,.bool false,.ref (s.heap.objs.size+2),.ref (s.heap.objs.size+3)] }) rfl;simp only[e] at this;exact this
 have b4:(zh s.heap k1 k2 l1 l2).get? (s.heap.objs.size+3)=some { cls:=.type "tuple",data:=.seq #[.none,.none] }:=by
  unfold zh;simp only[e]
  refine oAd _ ?_;have:=oAe (((s.heap.push (ItO k1 l1)).push (ItO k2 l2)).push { cls:=.type "tuple",data:=.seq #[.ref s.heap.objs.size,.ref (s.heap.objs.size+1)] }) (o:={ cls:=.type "tuple",data:=.seq #[.none,.none] }) rfl;simp only[e] at this;exact this
 have b3:(zh s.heap k1 k2 l1 l2).get? (s.heap.objs.size+2)=some { cls:=.type "tuple",data:=.seq #[.ref s.heap.objs.size,.ref (s.heap.objs.size+1)] }:=by
  unfold zh;simp only[e]
  refine oAd _ (oAd _ ?_);have:=oAe ((s.heap.push (ItO k1 l1)).push (ItO k2 l2)) (o:={ cls:=.type "tuple",data:=.seq #[.ref s.heap.objs.size,.ref (s.heap.objs.size+1)] }) rfl;simp only[e] at this;exact this
 have b2:It k2 (zh s.heap k1 k2 l1 l2) (s.heap.objs.size+1) l2 0:=by
  have:=it0 (k:=k2) (h:=s.heap.push (ItO k1 l1)) (l:=l2);rw[e] at this;exact this.keep fun o x=>oAd _ (oAd _ (oAd _ x))
 have b1:It k1 (zh s.heap k1 k2 l1 l2) s.heap.objs.size l1 0:=(it0 (k:=k1) (h:=s.heap) (l:=l1)).keep fun o x=>oAd _ (oAd _ (oAd _ (oAd _ x)));exact⟨⟨_,b5,rfl⟩,q _ b5 b3 b4 b1 b2 up⟩
end
end PFZ
namespace PF
open PySem PySem.Spec PyProof.Rows L2
section
variable {X:Cx}{T:Tab}{W k:Nat}{pins:zPn}{σ:St}{H:Hp}{s:Shared}{mu:List Addr}{S:Sto}{c:Cl}
theorem UR{h':Heap}{ch:List Addr}{t':Nat}(I:Inv X pins σ H s)(hf:∀ b∈ch,FpOk X pins H b)(k:∀ b o,b∉ch->s.heap.get? b=some o->h'.get? b=some o):Inv X pins σ H { s with heap:=h',toks:=t' }:=by
 refine I.step (g':=s.gens) (d':=s.drawn) (ch:=ch) (fun b hb=>?_) (fun b o _ _ hc e _=>k b o hc e) (fun b o _ _ hc e _=>⟨o.slots,k b o hc e⟩) (fun _ _ _ _ n=>n)
  (fun b o hc e=>⟨o,k b o hc e⟩) (fun _ _ e=>e) (fun _ _ _ e=>e) (fun b ps e=>⟨#[],by rw[e];simp⟩) (fun m hm=>?_) (fun b u e=>?_) I.bare
 ·obtain⟨f0,f1,f2,f3,f4,f5⟩:=hf b hb;exact⟨f3,f1,f4,f5⟩
 ·obtain⟨o,es,ep,ho,r⟩:=hm;exact⟨o,es,ep,k _ o (fun z=>(hf _ z).2.1 rfl) ho,r⟩
 ·have nt:∀ c u,H c=some u->c∉ch:=fun c u e z=>by rw[(hf c z).1] at e;cases e
  refine(I.hok b u e).stay (fun c v hc q=>k c v ?_ q) (fun _ q=>q) fun _ _ q=>q
  rcases hc with z | z
  ·rw[z];exact nt b u e
  ·exact nt c _ z
theorem Zee{h':Heap}{ch:List Addr}{t':Nat}{T:Addr}{xs:List V}(I:Inv X pins σ H s)(hf:∀ b∈ch,FpOk X pins H b)(k:∀ b o,b∉ch->s.heap.get? b=some o->h'.get? b=some o)(hT:s.heap.objs.size<=T)
  (new:ZC X.prog X.w (upd H T (.tup xs)) h' T (.tup xs)):Inv X pins σ (upd H T (.tup xs)) { s with heap:=h',toks:=t' }:=by
 have hn:H T=none:=I.hok.fresh hT;have old:∀ b o,s.heap.get? b=some o->b≠T:=fun b o e=>oAp (oAo (oAf e) hT);refine I.step (g':=s.gens) (d':=s.drawn) (ch:=ch) (fun b hb=>?_) (fun b o _ _ hc e _=>k b o hc e) (fun b o _ _ hc e _=>⟨o.slots,k b o hc e⟩) (fun b o _ e n=>by rw[Zi (old b o e)];exact n)
  (fun b o hc e=>⟨o,k b o hc e⟩) (fun b xs e=>by rw[Zi (Zr e hn)];exact e) (fun b o u e=>by rw[Zi (Zr e hn)];exact e) (fun b ps e=>⟨#[],by rw[Zi (Zr e hn),e];simp⟩) (fun m hm=>?_) (fun b u e=>?_) I.bare
 ·obtain⟨f0,f1,f2,f3,f4,f5⟩:=hf b hb;exact⟨f3,f1,f4,f5⟩
 ·obtain⟨o,es,ep,ho,r⟩:=hm;exact⟨o,es,ep,k _ o (fun z=>(hf _ z).2.1 rfl) ho,r⟩
 ·by_cases hb:b=T
  ·subst hb;rw[Zv] at e;cases e;exact new
  ·rw[Zi hb] at e;have nt:∀ c u,H c=some u->c∉ch:=fun c u e z=>by rw[(hf c z).1] at e;cases e
   refine(I.hok b u e).stay (fun c v hc q=>k c v ?_ q) (fun c q=>by rw[Zi (Zr q hn)];exact q) fun c xs q=>by rw[Zi (Zr q hn)];exact q
   rcases hc with z | z
   ·rw[z];exact nt b u e
   ·exact nt c _ z
def SqK(k:Bool)(K:Frag)(H:Hp)(l:Addr)(xs:List V):Prop:=if k then SqT K H l xs else SqL K H l xs
theorem Inv.sq{k:Bool}{l:Addr}{xs:List V}(I:Inv X pins σ H s)(h:SqK k X.K H l xs):∃ its:List Value,Vals xs its/\PFZ.Sq k s.heap l its.toArray:=by
 cases k with
 |true=>obtain⟨its,r,p,_⟩:=I.tuple (show SqT X.K H l xs from h);exact⟨its,r,p⟩
 |false=>obtain⟨its,r,p,_⟩:=I.list (show SqL X.K H l xs from h);exact⟨its,r,p.isList⟩
theorem Inv.sq_inj{k:Bool}{l:Addr}{xs ys:List V}(I:Inv X pins σ H s)(h:SqK k X.K H l xs)(h':SqK k X.K H l ys):xs=ys:=by
 cases k with
 |true=>exact I.tuple_inj (show SqT X.K H l xs from h) h'
 |false=>exact I.list_inj (show SqL X.K H l xs from h) h'
theorem z3{K:Frag}{d:D}{ds:List D}{v:V}(h:vals d=some ds)(r:RD K mu H d v):∃ k a xs,v=.ref a/\SqK k K H a xs/\RDs K mu H ds xs/\(d=.lst ds/\k=false\/d=.tup ds/\k=true):=by
 cases d with
 | lst es=>
  cases h
  obtain⟨a,xs,e,q,r⟩:=r.lst_at;exact⟨false,a,xs,e,q,r,.inl ⟨rfl,rfl⟩⟩
 | tup es=>
  cases h
  obtain⟨a,xs,e,q,r⟩:=r.tup_at;exact⟨true,a,xs,e,q,r,.inr ⟨rfl,rfl⟩⟩
 |_=>cases h
theorem z5{K:Frag}{d:D}{ds:List D}{a:Addr}{k:Bool}(h:d=.lst ds/\k=false\/d=.tup ds/\k=true)(r:RD K mu H d (.ref a)):∃ xs,SqK k K H a xs/\RDs K mu H ds xs:=by
 rcases h with ⟨rfl,rfl⟩ | ⟨rfl,rfl⟩
 ·obtain⟨b,xs,e,q,r⟩:=r.lst_at;cases e;exact⟨xs,q,r⟩
 ·obtain⟨b,xs,e,q,r⟩:=r.tup_at;cases e;exact⟨xs,q,r⟩
noncomputable def Itz(K:Frag)(k1 k2:Bool)(l1 l2:Addr):It:=
  ⟨fun i H=>∃ xs ys x y,SqK k1 K H l1 xs/\SqK k2 K H l2 ys/\xs[i]?=some x/\ys[i]?=some y,
   fun i H x H'=>∃ p u v,(∀ xs,SqK k1 K H l1 xs->xs[i]?=some u)/\(∀ ys,SqK k2 K H l2 ys->ys[i]?=some v)/\H p=none/\H'=upd H p (.tup [u,v])/\x=.ref p,
   fun i H=>∃ xs ys,SqK k1 K H l1 xs/\SqK k2 K H l2 ys/\min xs.length ys.length=i⟩
theorem ZcI{P:Program}{w:World}{K:Frag}{es:List Expr}{j:Nat}{pos:Pos}(k1 k2:Bool)(l1 l2 z TI TO i1 i2:Addr)(h1:l1≠i1)(h2:l2≠i2)(Z:PFZ.Zap z TI TO i1 i2 [i1,l1] [i2,l2]) :
  Turn P w K (.Tuple es j pos) (Itz K k1 k2 l1 l2) [z,TO,TI,i1,i2] z (fun i h=>IsZip h z TI TO .none/\IsPair h TI (.ref i1) (.ref i2)/\(∃ a b,IsPair h TO a b)/\PFZ.It k1 h i1 l1 i/\PFZ.It k2 h i2 l2 i) where
 mem:=by simp
 obj:=fun i h st b hb=>by
  obtain⟨a1,a2,⟨x,y,a3⟩,a4,a5⟩:=st;simp only[mem_cons,not_mem_nil,or_false] at hb
  rcases hb with rfl | rfl | rfl | rfl | rfl
  ·exact⟨_,a1,fun v z=>by cases z⟩
  ·exact⟨_,a3,fun v z=>by cases z⟩
  ·exact⟨_,a2,fun v z=>by cases z⟩
  ·cases k1<;>(obtain⟨o,e,c,d⟩:=a4;exact⟨o,e,fun v z=>by rw[d] at z;cases z⟩)
  ·cases k2<;>(obtain⟨o,e,c,d⟩:=a5;exact⟨o,e,fun v z=>by rw[d] at z;cases z⟩)
 keep:=fun i h h' st k=>by
  obtain⟨a1,a2,⟨x,y,a3⟩,a4,a5⟩:=st;exact⟨k z (by simp) _ a1,k TI (by simp) _ a2,⟨x,y,k TO (by simp) _ a3⟩,a4.keep fun o x=>k i1 (by simp) o x,a5.keep fun o x=>k i2 (by simp) o x⟩
 item:=by
  intro X hP hw hK hc i pins s σ H E I hf st hg;subst hP hw hK;obtain⟨xs,ys,x,y,q1,q2,hx,hy⟩:=hg;obtain⟨its1,rv1,p1⟩:=Inv.sq I q1;obtain⟨its2,rv2,p2⟩:=Inv.sq I q2;obtain⟨u,hu,ru⟩:=rv1.get hx;obtain⟨v,hv,rv⟩:=rv2.get hy;have W:=PFZ.walksZip (prog:=X.prog) (w:=X.w) (A:=X.A) Z (PFZ.drawsSq (A:=X.A.in1) (I.ok.hd hc) k1 i1 l1 h1 its1.toArray) (PFZ.drawsSq (A:=X.A.in1) (I.ok.hd hc) k2 i2 l2 h2 its2.toArray);have hi:i<min its1.toArray.size its2.toArray.size:=by
   have a:=(List.getElem?_eq_some_iff.1 hu).1;have b:=(List.getElem?_eq_some_iff.1 hv).1;simp only[size_toArray];omega
  obtain⟨a1,a2,a3,a4,a5⟩:=st;refine W.item i s _ _ hi ⟨a1,a2,a3,⟨a4,p1⟩,⟨a5,p2⟩⟩ fun T vals h' tk hP hT hTup hM hk=>?_;obtain⟨u',v',hu',hv',rfl⟩:=hP;have eu:u'=u:=by
   have z1:its1.toArray[i]?=some u:=by simpa using hu
   rw[z1] at hu';exact(oAk hu').symm
  have ev:v'=v:=by
   have z1:its2.toArray[i]?=some v:=by simpa using hv
   rw[z1] at hv';exact(oAk hv').symm
  subst eu ev;refine⟨.ref T,rfl,?_⟩;refine W.go es j pos i T { s with heap:=h',toks:=tk } _ _ hM fun h3 st3 hk3=>?_;have hTw:T∉[z,TO,i1,i2]:=W.apart i T _ hM;obtain⟨oT,hoT,hcT,nT,hdT⟩:=hTup;have sub:∀ b∈[z,TO,i1,i2],b∈[z,TO,TI,i1,i2]:=fun b hb=>by
   simp only[mem_cons,not_mem_nil,or_false] at hb ⊢
   rcases hb with h | h | h | h<;>simp[h]
  have hf2:∀ b∈[z,TO,i1,i2],FpOk X pins H b:=fun b hb=>hf b (sub b hb);have I1:Inv X pins σ (upd H T (.tup [x,y])) { s with heap:=h3,toks:=tk }:=by
   refine Zee (ch:=[z,TO,i1,i2]) I hf2 (fun b o hb q=>hk3 b o hb (hk b o hb q)) hT ?_;exact⟨by rw[ZD];show 2<=line;decide,[u',v'],.cons ru (.cons rv .nil),⟨oT,hk3 T oT hTw hoT,hcT,nT,by simpa using hdT⟩⟩
  obtain⟨b1,b2,b3,b4,b5⟩:=st3;refine⟨.ref T,_,I1,rfl,⟨T,x,y,fun zs hz=>by rw[Inv.sq_inj I hz q1];exact hx,fun zs hz=>by rw[Inv.sq_inj I hz q2];exact hy,I.hok.fresh hT,rfl,rfl⟩,⟨b1,b2,b3,b4.1,b5.1⟩,fun b hb=>?_⟩
  rw[Zi]
  ·exact(hf b hb).1
  ·intro e;subst e;have hTI:b≠TI:=fun e=>by
    have h9:=oAf a2;rw[<- e] at h9;exact oAr _ (oAo h9 hT)
   simp only[mem_cons,not_mem_nil,or_false] at hb hTw
   rcases hb with h | h | h | h | h
   ·exact hTw (.inl h)
   ·exact hTw (.inr (.inl h))
   ·exact hTI h
   ·exact hTw (.inr (.inr (.inl h)))
   ·exact hTw (.inr (.inr (.inr h)))
 done:=by
  intro X hP hw hK hc i pins s σ H E I hf st hg;subst hP hw hK;obtain⟨xs,ys,q1,q2,hx⟩:=hg;obtain⟨its1,rv1,p1⟩:=Inv.sq I q1;obtain⟨its2,rv2,p2⟩:=Inv.sq I q2;have W:=PFZ.walksZip (prog:=X.prog) (w:=X.w) (A:=X.A) Z (PFZ.drawsSq (A:=X.A.in1) (I.ok.hd hc) k1 i1 l1 h1 its1.toArray) (PFZ.drawsSq (A:=X.A.in1) (I.ok.hd hc) k2 i2 l2 h2 its2.toArray);have e1:=rv1.length;have e2:=rv2.length;have hn:min its1.toArray.size its2.toArray.size=i:=by rw[size_toArray,size_toArray,<-e1,<-e2];exact hx
  obtain⟨a1,a2,a3,a4,a5⟩:=st;have sub:∀ b∈[z,TO,i1,i2],b∈[z,TO,TI,i1,i2]:=fun b hb=>by
   simp only[mem_cons,not_mem_nil,or_false] at hb ⊢
   rcases hb with h | h | h | h<;>simp[h]
  exact W.done s _ _ (by rw[hn];exact⟨a1,a2,a3,⟨a4,p1⟩,⟨a5,p2⟩⟩) fun h' tk hx'=>⟨rfl,UR (t':=tk) (ch:=[z,TO,i1,i2]) I (fun b hb=>hf b (sub b hb)) fun b o hb q=>hx' b o hb q⟩
 self:=fun _ _ _ _ _ st h=>wpAny_pyIter_zip st.1 h
noncomputable def iZip(K:Frag)(ta tb:TE):TI:=fun σ H R=>ta σ H fun x H1=>tb σ H1 fun y H2=>∃ k1 k2 a b,x=.ref a/\y=.ref b/\(∃ xs,SqK k1 K H2 a xs)/\(∃ ys,SqK k2 K H2 b ys)/\R (Itz K k1 k2 a b) H2
theorem ZbM:bootBuiltins "zip"=some (.type "zip"):=by decide +kernel
theorem Zef(h1:a<n)(h2:b<n):PFZ.Zap (n+4) (n+2) (n+3) n (n+1) [n,a] [n+1,b]:=by
 have nm:∀ {x y z:Nat},x≠y->x≠z->x∉[y,z]:=fun {x y z} a b=>by simp[a,b]
 exact⟨by simp,by simp,nm (by lia) (by lia),nm (by lia) (by lia),nm (by lia) (by lia),nm (by lia) (by lia),nm (by lia) (by lia),nm (by lia) (by lia),
  (by lia:(n+2:Nat)≠n+4),(by lia:(n+2:Nat)≠n+3),(by lia:(n+2:Nat)≠n),(by lia:(n+2:Nat)≠n+1),(by lia:(n+3:Nat)≠n+4)⟩
theorem ZfX{l m:Expr}{es:List Expr}{j:Nat}{tpos p pos:Pos}{ta tb:TE}(hg:Gl X "zip")(hm:X.mg "zip"=none)(hl:PE X l ta)(hr:PE X m tb)(hs:notStar l=true)(hs2:notStar m=true):PI X (.Tuple es j tpos) (.Call (.Name "zip" p) [l,m] [] pos) (iZip X.K ta tb):=by
 intro pins s σ H R I h;have arg:ZaB ta (ZaB tb tNil) σ H fun vs H1=>∃ k1 k2 a b,vs=[.ref a,.ref b]/\(∃ xs,SqK k1 X.K H1 a xs)/\(∃ ys,SqK k2 X.K H1 b ys)/\R (Itz X.K k1 k2 a b) H1:=by
  have e:(fun (x:V) (H1:Hp)=>tb σ H1 fun y H2=>∃ k1 k2 a b,[x,y]=[V.ref a,V.ref b]/\(∃ xs,SqK k1 X.K H2 a xs)/\(∃ ys,SqK k2 X.K H2 b ys)/\R (Itz X.K k1 k2 a b) H2) =
    fun (x:V) (H1:Hp)=>tb σ H1 fun y H2=>∃ k1 k2 a b,x=.ref a/\y=.ref b/\(∃ xs,SqK k1 X.K H2 a xs)/\(∃ ys,SqK k2 X.K H2 b ys)/\R (Itz X.K k1 k2 a b) H2:=by
   funext x H1
   congr 1
   funext y H2
   simp[and_assoc]
  have h':=h;unfold iZip at h';rw[<- e] at h';exact h'
 refine Call_ (Ji I hg hm ZbM (PyProof.Rows.callWith_type1 (thn (Yu hl (Yu hr JR (Zz hs2)) (Zz hs) pos pins s σ H _ I arg) fun us s1 ⟨vs,H1,I1,r1,q1⟩=>?_) (Zz hs) (ZI (by simp[hs2]))));obtain⟨k1,k2,a,b,rfl,⟨xs,hq1⟩,⟨ys,hq2⟩,q⟩:=q1;obtain⟨u,v,rfl,ru,rv⟩:=vals2 r1;cases ru;cases rv
 obtain⟨its1,_,p1⟩:=Inv.sq I1 hq1;obtain⟨its2,_,p2⟩:=Inv.sq I1 hq2;have l1:=p1.lt;have l2:=p2.lt;refine PFZ.callZip p1 p2 fun h' y1 y2 y3 y4 y5 hk=>?_;have I2:Inv X pins σ H1 { s1 with heap:=h' }:=I1.kept (t':=s1.toks) hk;generalize hn:s1.heap.objs.size=n at *;refine wpAny_pyIter_zip y1 ?_;have Z:PFZ.Zap (n+4) (n+2) (n+3) n (n+1) [n,a] [n+1,b]:=Zef l1 l2;refine⟨_,[n+4,n+3,n+2,n,n+1],_,_,H1,rfl,I2,ZcI k1 k2 a b (n+4) (n+2) (n+3) n (n+1) (oAp l1) (oAp (lt_succ_of_lt l2)) Z,⟨y1,y2,⟨_,_,y3⟩,y4,y5⟩,fun b hb=>?_,q⟩;have hb':s1.heap.objs.size<=b:=by
  rw[hn];simp only[mem_cons,not_mem_nil,or_false] at hb
  rcases hb with h | h | h | h | h<;>(rw[h];first | exact oAl _ | exact Nat.le_add_right _ _)
 exact I1.fpOk hb' (I1.hok.fresh hb')
def Sr.le(r:Sr)(i:Nat):Prop:=match r with
 |.vs ds=>i<=ds.length
 |.rf _=>True
def Src(K:Frag)(J:It)(mu:List Addr)(H:Hp)(r:Sr):Prop:=
 ∀ (mu1:List Addr) (H1:Hp) (S1:Sto),Ext mu H mu1 H1->WR K mu1 H1 S1->∀ i:Nat,Sr.le r i->∀ o,r.nx i S1=some o->match o with
  |some d=>Sr.le r (i+1)/\J.go i H1/\∀ x H2,J.yld i H1 x H2->Ext mu1 H1 mu1 H2/\WR K mu1 H2 S1/\RD K mu1 H2 d x
  |none=>J.stop i H1
inductive tI(K:Frag)(f:En->Sto->Option (Sr×Sto))(σ:St)(H:Hp)(R:It->Hp->Prop):Prop
 |mk (mu:List Addr) (env:En) (S:Sto) (he:ER K mu H env σ) (hw:WR K mu H S) (ds:Sr) (S':Sto) (hf:f env S=some (ds,S')) (k:∀ J mu' H',Ext mu H mu' H'->WR K mu' H' S'->Src K J mu' H' ds->R J H')
theorem JY{K:Frag}{J:It}{ds:List D}(h:∀ (mu1:List Addr) (H1:Hp) (S1:Sto),Ext mu H mu1 H1->WR K mu1 H1 S1->∀ i:Nat,(∀ d,ds[i]?=some d->J.go i H1/\∀ x H2,J.yld i H1 x H2->Ext mu1 H1 mu1 H2/\WR K mu1 H2 S1/\RD K mu1 H2 d x)/\(ds.length=i->J.stop i H1)):Src K J mu H (.vs ds):=by
 intro mu1 H1 S1 e w i hle o ho;obtain⟨a,b⟩:=h mu1 H1 S1 e w i;have ho':ds[i]?=o:=oAk ho;cases o with
 |some d=>exact⟨(List.getElem?_eq_some_iff.1 ho').1,a d ho'⟩
 | none=>
  refine b ?_;have h1:ds.length<=i:=List.getElem?_eq_none_iff.1 ho';have h2:i<=ds.length:=hle;lia
theorem src_list{K:Frag}{ds:List D}{a:Addr}(r:RD K mu H (.lst ds) (.ref a)):Src K (Itl K a) mu H (.vs ds):=by
 refine JY fun mu1 H1 S1 e w i=>?_;obtain⟨b,xs,eb,hq,rs⟩:=(RD.mono e _ _ r).lst_at;cases eb
 refine⟨fun d hd=>?_,fun hi=>⟨xs,hq,by rw[<- rs.length];lia⟩⟩
 obtain⟨x,h1,h2⟩:=rs.get hd;refine⟨⟨xs,x,hq,h1⟩,fun y H2 ⟨e2,hy⟩=>?_⟩;subst e2;have:y=x:=by have:=hy xs hq;rw[h1] at this;exact(oAk this).symm
 subst this;exact⟨.refl,w,h2⟩
theorem Zeg{K:Frag}{n:Nat}{a:Addr}(hm:mu[n]?=some a):Src K (Itl K a) mu H (.rf n):=by
 intro mu1 H1 S1 e w i _ o ho;have hm1:=e.get hm;obtain⟨ds,h1,h2⟩:=bM (show (items S1 (.ref n)).map (fun ds=>ds[i]?)=some o from ho);obtain⟨b,xs,eb,hq,rs⟩:=Yc (d:=.ref n) (v:=.ref a) w h1 (by dsimp only[RD];exact⟨a,hm1,rfl⟩)
 cases eb
 cases o with
 | none=>
  have:ds.length<=i:=List.getElem?_eq_none_iff.1 h2;exact⟨xs,hq,by rw[<- rs.length];exact this⟩
 | some d=>
  obtain⟨x,h3,h4⟩:=rs.get h2;refine⟨trivial,⟨xs,x,hq,h3⟩,fun y H2 ⟨e2,hy⟩=>?_⟩;subst e2;have:y=x:=by have:=hy xs hq;rw[h3] at this;exact(oAk this).symm
  subst this;exact⟨.refl,w,h4⟩
theorem Zeh{K:Frag}{ds:List D}{a:Addr}(r:RD K mu H (.tup ds) (.ref a)):Src K (Itt K a) mu H (.vs ds):=by
 refine JY fun mu1 H1 S1 e w i=>?_;obtain⟨b,xs,eb,hq,rs⟩:=(RD.mono e _ _ r).tup_at;cases eb
 refine⟨fun d hd=>?_,fun hi=>⟨xs,hq,by rw[<- rs.length];lia⟩⟩
 obtain⟨x,h1,h2⟩:=rs.get hd;refine⟨⟨xs,x,hq,h1⟩,fun y H2 ⟨e2,hy⟩=>?_⟩;subst e2;have:y=x:=by have:=hy xs hq;rw[h1] at this;exact(oAk this).symm
 subst this;exact⟨.refl,w,h2⟩
theorem Zei{K:Frag}{z:Str}:Src K (Its z) mu H (.vs ((sgn z).map D.str)):=by
 refine JY fun mu1 H1 S1 e w i=>?_;have hl:((sgn z).map D.str).length=z.cps.size:=by simp[sgn]
 refine⟨fun d hd=>?_,fun hi=>by show z.cps.size<=i;lia⟩
 have hi:i<z.cps.size:=by
  have:=(List.getElem?_eq_some_iff.1 hd).1;lia
 refine⟨hi,fun y H2 ⟨e2,c,hc,hy⟩=>?_⟩;subst e2 hy;have:d=.str ⟨#[c]⟩:=by
  rw[sgn,getElem?_map,getElem?_map,Array.getElem?_toList,hc] at hd;exact(oAk hd).symm
 subst this;exact⟨.refl,w,by dsimp only[RD]⟩
theorem Zej{K:Frag}{lo:Int}{n:Nat}:Src K (Itr lo n) mu H (.vs ((List.range n).map fun (k:Nat)=>D.int (lo+(k:Int)))):=by
 refine JY fun mu1 H1 S1 e w i=>?_;refine⟨fun d hd=>?_,fun hi=>by show n<=i;simp at hi;lia⟩
 have hi:i<n:=by
  have:=(List.getElem?_eq_some_iff.1 hd).1;simpa using this
 refine⟨hi,fun y H2 ⟨e2,hy⟩=>?_⟩;subst e2 hy;have:d=.int (lo+i):=by
  rw[getElem?_map,List.getElem?_range hi] at hd;exact(oAk hd).symm
 subst this;exact⟨.refl,w,ZK⟩
theorem Zek{K:Frag}{d1 d2:D}{xs ys:List D}{a b:Addr}{k1 k2:Bool}(h1:d1=.lst xs/\k1=false\/d1=.tup xs/\k1=true)(h2:d2=.lst ys/\k2=false\/d2=.tup ys/\k2=true)(r1:RD K mu H d1 (.ref a))(r2:RD K mu H d2 (.ref b)) :
  Src K (Itz K k1 k2 a b) mu H (.vs (List.zipWith (fun x y=>D.tup [x,y]) xs ys)):=by
 refine JY fun mu1 H1 S1 e w i=>?_;obtain⟨us,hq1,rs1⟩:=z5 h1 (RD.mono e _ _ r1);obtain⟨vs,hq2,rs2⟩:=z5 h2 (RD.mono e _ _ r2);refine⟨fun d hd=>?_,fun hi=>⟨us,vs,hq1,hq2,by rw[<- rs1.length,<-rs2.length];simpa using hi⟩⟩
 rw[List.getElem?_zipWith] at hd;cases q1:xs[i]? with
 |none=>rw[q1] at hd;cases hd
 | some x=>
  cases q2:ys[i]? with
  |none=>rw[q1,q2] at hd;cases hd
  | some y=>
   rw[q1,q2] at hd;have ed:d=.tup [x,y]:=(oAk hd).symm;subst ed;obtain⟨x',g1,g2⟩:=rs1.get q1;obtain⟨y',g3,g4⟩:=rs2.get q2;refine⟨⟨us,vs,x',y',hq1,hq2,g1,g3⟩,fun v H2 ⟨p,u1,u2,hu1,hu2,hp,e2,ev⟩=>?_⟩;subst e2 ev;have e3:u1=x':=by have:=hu1 us hq1;rw[g1] at this;exact(oAk this).symm
   have e4:u2=y':=by have:=hu2 vs hq2;rw[g3] at this;exact(oAk this).symm
   subst e3 e4;refine⟨Ext.new w hp,w.keep hp,?_⟩;dsimp only[RD];exact⟨p,_,rfl,.inl ⟨w.fresh hp,Zv⟩,RDs.mono (Ext.new w hp) _ _ (.cons g2 (.cons g4 .nil))⟩
end
section
variable {prog:Program}{w:World}{A:Around}{E:zVP}{s:Shared}
theorem WM{it t:Addr}{items:Array Value}(hne:t≠it):∀ (n i:Nat) (s:Shared) (Q:List Value->Shared->Prop),s.heap.IsListIter it t i->s.heap.IsList t items->i+n<=items.size ->
  (∀ h',h'.IsListIter it t (i+n)->SameBut it s.heap h'->Q ((items.toList.drop i).take n) { s with heap:=h' })->wpAny (model prog w) A (draw (.ref it) n) Q E s
 | 0,i,s,Q,hit,_,_,hQ=>by
  show wpAny _ _ (pure []) Q E s;exact oAb (by simpa using hQ s.heap hit (Heap.SameBut.refl ..))
 | n+1,i,s,Q,hit,ht,hle,hQ=>by
  have hlt:i<items.size:=by omega
  show wpAny _ _ (pyNext (.ref it)>>=_) Q E s;refine oAa (wpAny_pyNext_list_item hit ht (x:=items[i]) (by simp[hlt]) fun h₁ hit₁ hs₁=>?_);refine oAa (wpAny_holding (WM hne n (i+1) _ _ hit₁ (ht.extBut hs₁.extBut hne) (by omega) fun h₂ hit₂ hs₂=>oAb ?_));have hd:items.toList.drop i=items[i]::items.toList.drop (i+1):=by simp[List.drop_eq_getElem_cons,hlt]
  have:=hQ h₂ (by rw[show i+(n+1)=i+1+n by omega];exact hit₂) (hs₁.trans hs₂)
  rw[hd,List.take_succ_cons] at this;exact this
theorem VM{t:Addr}{items:Array Value}{Q:List Value->Shared->Prop}(hh:A.handled=none)(ht:s.heap.IsList t items)
  (hQ:∀ h',ExtBut s.heap.objs.size s.heap h'->Q items.toList { s with heap:=h' }):wpAny (model prog w) A (unpackItems (.ref t) items.size none) Q E s:=by
 have hlt:t≠s.heap.objs.size:=by obtain⟨o,ho,_⟩:=ht;exact oAp (oAf ho)
 unfold unpackItems;refine oAa ?_
 ·unfold notIterableAtAll;refine oAa (wpAny_specialOf ht.typeIs slot_list_iter.lookup ?_);refine oAb ?_;simp only[false_eq_true,if_false];refine oAa (wpAny_holding (wpAny_pyIter_list ht ?_));refine oAa (wpAny_holding (WM hlt items.size 0 _ _ ⟨_,oAe _ rfl,rfl,rfl⟩ (ht.push _) (by lia) fun h₁ hit₁ hs₁=>?_));have hall:List.take items.size (List.drop 0 items.toList)=items.toList:=by
   rw[List.drop_zero];exact take_of_length_le (by simp)
  rw[hall];rw[if_neg (by simp)];have ht₁:h₁.IsList t items:=(ht.push _).extBut hs₁.extBut hlt;refine oAa (wpAny_holding (wpAny_pyNext_list_end hh hit₁ ht₁ (by simp) fun h₂ he₂=>?_));simp only[Option.isSome_none,false_eq_true,if_false];refine oAb (hQ h₂ fun b o hb e=>he₂ b o hb (hs₁.extBut b o hb (oAd _ e)))
theorem Vr{env:Env}{elts:List Expr}{x1}{pos:Pos}{t:Addr}{items:Array Value}{Q:Unit->Shared->Prop}(hh:A.handled=none)(ht:s.heap.IsList t items)
  (hn:(assignEach elts env).length=items.size)(hstar:(assignEach elts env).findIdx? (·.1)=none)
  (h:∀ h',ExtBut s.heap.objs.size s.heap h'->wpAny (model prog w) A (assignInOrder ((assignEach elts env).map (·.2)) items.toList) Q E { s with heap:=h' }) :
  wpAny (model prog w) A (assign (.Tuple elts x1 pos) env (.ref t)) Q E s:=by
 rw[assign_Tuple];refine oAa (wpAny_standAt ?_);unfold unpack;rw[hn,hstar];exact oAa (wpAny_holding (VM hh ht h))
end
section
variable {X:Cx}{pos:Pos}
noncomputable def gLst(K:Frag)(n:Nat)(t:TGs):TG:=fun v σ H Q=>∃ a xs,v=.ref a/\SqL K H a xs/\xs.length=n/\t xs σ H Q
theorem ZfY{es:List Expr}{k:Nat}{t:TGs}{n:Nat}(hc:X.calm=true)(h:PGs X es t)
  (hn:(assignEach es X.env).length=n:=by rfl)(hst:(assignEach es X.env).findIdx? (·.1)=none:=by rfl):PG X (.Tuple es k pos) (gLst X.K n t):=by
 intro pins s σ H v u Q I r hw;obtain⟨a,xs,e1,hq,hl,hw⟩:=hw;subst e1;cases r
 obtain⟨its,rv,ht,hz⟩:=I.list hq;refine Vr (I.ok.hd hc) ht.isList (by simp[hn,<-hl,rv.length]) hst fun h' hx=>?_;have I1:Inv X pins σ H { s with heap:=h' }:=I.kept (t':=s.toks) fun b o e=>hx b o (oAp (oAf e)) e;exact h pins _ σ H xs _ Q I1 (by simpa using rv) hw
end
section
variable {K:Frag}{mu mu':List Addr}{H H':Hp}
section
variable {κ:Type} [DecidableEq κ]
def DRel{κ:Type}(K:Frag)(mu:List Addr)(H:Hp)(kvs:List (κ×D))(us:List (κ×V)):Prop:=us.map (·.1)=kvs.map (·.1)/\RDs K mu H (kvs.map (·.2)) (us.map (·.2))
theorem DRel.nil:DRel (κ:=κ) K mu H [] []:=⟨rfl,.nil⟩
theorem DRel.cons(e:q.1=p.1)(h:RD K mu H p.2 q.2)(t:DRel K mu H kvs us):DRel K mu H (p::kvs) (q::us):=
 ⟨by rw[map_cons,map_cons,e,t.1],.cons h t.2⟩
theorem DRel.cases_cons(h:DRel K mu H (p::kvs) us):∃ q r,us=q::r/\q.1=p.1/\RD K mu H p.2 q.2/\DRel K mu H kvs r:=by
 obtain⟨h1,h2⟩:=h;cases us with
 |nil=>simp at h1
 | cons q r=>
  rw[map_cons,map_cons] at h1;obtain⟨a,b⟩:=List.cons.inj h1;rw[map_cons,map_cons] at h2;obtain⟨x,r',e,hx,ht⟩:=h2.cases_cons;obtain⟨e1,e2⟩:=List.cons.inj e;subst e1 e2;exact⟨q,r,rfl,a,hx,b,ht⟩
theorem DRel.cases_nil(h:DRel K mu H [] us):us=[]:=by
 have:=h.1;simpa using this
theorem DRel.any{k:κ}:∀ {kvs:List (κ×D)}{us:List (κ×V)},DRel K mu H kvs us->(us.any fun kv=>decide (kv.1=k))=kvs.any fun kv=>decide (kv.1=k)
 |[],us,h=>by rw[h.cases_nil];rfl
 | p::kvs,us,h=>by
  obtain⟨q,r,rfl,e,_,t⟩:=h.cases_cons;rw[any_cons,any_cons,e,DRel.any t]
theorem DRel.repl{k:κ}{d:D}{v:V}(hd:RD K mu H d v):∀ {kvs:List (κ×D)}{us:List (κ×V)},DRel K mu H kvs us->DRel K mu H (kvs.map fun kv=>if kv.1=k then (kv.1,d) else kv) (us.map fun kv=>if kv.1=k then (kv.1,v) else kv)
 |[],us,h=>by rw[h.cases_nil];exact .nil
 | p::kvs,us,h=>by
  obtain⟨q,r,rfl,e,hq,t⟩:=h.cases_cons;rw[map_cons,map_cons];by_cases hk:p.1=k
  ·rw[if_pos hk,if_pos (e.trans hk)];exact .cons e hd (DRel.repl hd t)
  ·rw[if_neg hk,if_neg (fun z=>hk (e.symm.trans z))];exact .cons e hq (DRel.repl hd t)
theorem DRel.snoc{k:κ}{d:D}{v:V}(hd:RD K mu H d v):∀ {kvs:List (κ×D)}{us:List (κ×V)},DRel K mu H kvs us->DRel K mu H (kvs++[(k,d)]) (us++[(k,v)])
 |[],us,h=>by rw[h.cases_nil];exact .cons rfl hd .nil
 | p::kvs,us,h=>by
  obtain⟨q,r,rfl,e,hq,t⟩:=h.cases_cons;exact .cons e hq (DRel.snoc hd t)
theorem DRel.put{k:κ}{d:D}{v:V}{kvs:List (κ×D)}{us:List (κ×V)}(h:DRel K mu H kvs us)(hd:RD K mu H d v):DRel K mu H (putD kvs k d) (putK us k v):=by
 unfold putD putK;rw[h.any];split
 ·exact h.repl hd
 ·exact h.snoc hd
end
theorem DRel.mono{κ:Type}(e:Ext mu H mu' H'){kvs:List (κ×D)}{us:List (κ×V)}(h:DRel K mu H kvs us):DRel K mu' H' kvs us:=⟨h.1,RDs.mono e _ _ h.2⟩
theorem ZfZ(h:keyD d=some k)(r:RD K mu H d v):v=kV k:=by
 cases d with
 |int i=>cases h;exact int_at r
 |str x=>cases h;exact ZU r
 |non=>cases h;exact JX r
 |_=>cases h
theorem ZcJ:RD K mu H (unkey k) (kV k):=by
 cases k with
 |inl i=>exact ZK
 |inr x=>exact qF
 |non=>exact UK
end
section
variable {X:Cx}{T:Tab}{W k:Nat}{nm:List (Str×NameKind)}{pins:zPn}{σ:L2.St}{H:Hp}{s:Shared}{mu:List Addr}{S:Sto}{c:Cl}
theorem Jt{K:Frag}:∀ {ds:List D}{ks:List Key}{vs:List V},ZW ds=some ks->RDs K mu H ds vs->vs=ks.map kV
 |[],ks,vs,h,r=>by cases h;rw[r.cases_nil];rfl
 | d::ds,ks,vs,h,r=>by
  obtain⟨x,t,rfl,hx,ht⟩:=r.cases_cons;rw[ZW] at h;obtain⟨k,h1,h⟩:=bO h;obtain⟨l,h2,e⟩:=bM h;subst e;rw[ZfZ h1 hx,Jt h2 ht];rfl
theorem JL(w:WR X.K mu H S)(h:dtOf S (.ref n)=some kvs)(r:RD X.K mu H (.ref n) v):∃ a us,v=.ref a/\mu[n]?=some a/\H a=some (.dT us)/\DRel X.K mu H kvs us:=by
 replace h:(match S[n]? with
  |some (.dt kvs)=>some kvs
  |_=>none)=some kvs:=h
 dsimp only[RD] at r;obtain⟨a,e,rfl⟩:=r;cases q9:S[n]? with
 |none=>rw[q9] at h;cases h
 | some ob=>
  rw[q9] at h;cases ob with
  |lst _=>cases h
  |dk _=>cases h
  |ins _ _=>cases h
  |dtf _=>cases h
  | dt l=>
   cases h
   obtain⟨b,e1,us,e2,r⟩:=w.get q9;rw[e] at e1;cases e1
   exact⟨a,us,rfl,e,e2,r⟩
theorem z7(hu:X.A.units+1<cLine):PSet X (fun o i v H Q=>Zc7 o i v H Q\/∃ a H',o=.ref a/\DPut H a i v H'/\Q H'):=by
 intro pins s σ H o i v ov iv u Q I ro ri rv h
 rcases h with h | ⟨a,H',e,g,q⟩
 ·exact set_list pins s σ H o i v ov iv u Q I ro ri rv h
 ·subst e;cases ro
  exact Zbs hu I g ri rv fun s' I'=>⟨H',I',q⟩
end
noncomputable def z8:Expr->Bool
 |.ListComp ..=>false
 |.SetComp ..=>false
 |.DictComp ..=>false
 |_=>true
noncomputable def V6(nm:List (Str×NameKind))(x y:Str)(px py:Pos)(a b:Expr):Bool:=
 decide (nm.lookup x=some .local)&&decide (nm.lookup y=some .local)&&!decide (x=y)&&decide (px.line=py.line)&&notStar a&&notStar b&&!([a,b].all (foldedForSure 8))&&!([a,b].all (constantsAlone 8))
noncomputable def qP(nm:List (Str×NameKind))(tes:List Expr):Bool:=decide (4<=tes.length)||tes.any fun t=>match t with
 |.Name x _=>decide (nm.lookup x=some .cell)
 |_=>true
noncomputable def Zdh(nm:List (Str×NameKind))(y:Str)(py:Pos)(scope:Scope)(pos:Pos):Bool:=
 decide (nm.lookup y=some .local)&&(py.line==pos.line)&&!(scope.names.any fun (n,k)=>n==y&&(k==.local||k==.cell))
def FlOk(K:Frag)(mu:List Addr)(H:Hp)(D:Ends):Fl->Prop
 |.nx env S=>∀ σ mu' H',Ext mu H mu' H'->WR K mu' H' S->ER K mu' H' env σ->D.nx σ H'
 |.rt d S=>∀ v mu' H',Ext mu H mu' H'->WR K mu' H' S->RD K mu' H' d v->D.rt v H'
 |.bk env S=>∀ σ mu' H',Ext mu H mu' H'->WR K mu' H' S->ER K mu' H' env σ->D.bk σ H'
 |.ct env S=>∀ σ mu' H',Ext mu H mu' H'->WR K mu' H' S->ER K mu' H' env σ->D.ct σ H'
inductive tSt(K:Frag)(f:En->Sto->Option Fl)(D:Ends)(σ:St)(H:Hp):Prop
 |mk (mu:List Addr) (env:En) (S:Sto) (he:ER K mu H env σ) (hw:WR K mu H S) (fl:Fl) (hf:f env S=some fl) (k:FlOk K mu H D fl)
inductive tG(K:Frag)(f:D->En->Sto->Option (En×Sto))(v:V)(σ:St)(H:Hp)(Q:St->Hp->Prop):Prop
 |mk (mu:List Addr) (env:En) (S:Sto) (d:D) (he:ER K mu H env σ) (hw:WR K mu H S) (hd:RD K mu H d v) (env':En) (S':Sto) (hf:f d env S=some (env',S')) (k:∀ σ' mu' H',Ext mu H mu' H'->WR K mu' H' S'->ER K mu' H' env' σ'->Q σ' H')
inductive tGs(K:Frag)(f:List D->En->Sto->Option (En×Sto))(vs:List V)(σ:St)(H:Hp)(Q:St->Hp->Prop):Prop
 |mk (mu:List Addr) (env:En) (S:Sto) (ds:List D) (he:ER K mu H env σ) (hw:WR K mu H S) (hd:RDs K mu H ds vs) (env':En) (S':Sto) (hf:f ds env S=some (env',S')) (k:∀ σ' mu' H',Ext mu H mu' H'->WR K mu' H' S'->ER K mu' H' env' σ'->Q σ' H')
theorem FlOk.ext{K:Frag}{mu mu':List Addr}{H H':Hp}{D:Ends}{fl:Fl}(h:FlOk K mu H D fl)(e:Ext mu H mu' H'):FlOk K mu' H' D fl:=by
 cases fl with
 |nx env S=>exact fun σ mu2 H2 e2 w r=>h σ mu2 H2 (e.trans e2) w r
 |rt env S=>exact fun σ mu2 H2 e2 w r=>h σ mu2 H2 (e.trans e2) w r
 |bk env S=>exact fun σ mu2 H2 e2 w r=>h σ mu2 H2 (e.trans e2) w r
 |ct env S=>exact fun σ mu2 H2 e2 w r=>h σ mu2 H2 (e.trans e2) w r
section
variable {X:Cx}{T:Tab}{W k:Nat}{nm:List (Str×NameKind)}{pins:zPn}{σ:St}{H:Hp}{s:Shared}{mu:List Addr}{S:Sto}{c:Cl}
theorem Zf0(ok:XOk X T W k nm)(hl:V4 nm x=true)(hi:slot x X.N=some i):PG X (.Name x pos) (tG X.K (asg c (.name i))):=by
 intro pins s σ H v u Q I r ⟨mu,env,S,d,he,hw,hd,env',S',hf,q⟩;dsimp only[asg] at hf;cases hf
 exact ZdF ok.nd (slot_get hi) (ok.kw x hl).1 (ok.kw x hl).2 pins s σ H v u Q I r (q _ mu H .refl hw (he.set i hd))
theorem Zin:PGs X [] (tGs X.K (asgs c .nil)):=by
 intro pins s σ H vs us Q I r ⟨mu,env,S,ds,he,hw,hd,env',S',hf,q⟩;cases ds with
 | nil=>
  dsimp only[asgs] at hf;cases hf
  exact ZdG pins s σ H vs us Q I r ⟨hd.cases_nil,q _ mu H .refl hw he⟩
 |cons d ds=>simp[asgs] at hf
theorem Zf1(h1:PG X e (tG X.K (asg c t)))(h2:PGs X es (tGs X.K (asgs c ts)))(hs:notStar e=true):PGs X (e::es) (tGs X.K (asgs c (.cons t ts))):=by
 intro pins s σ H vs us Q I r ⟨mu,env,S,ds,he,hw,hd,env',S',hf,q⟩;cases ds with
 |nil=>simp[asgs] at hf
 | cons d ds=>
  dsimp only[asgs] at hf;obtain⟨e1,S1,h3,hf⟩:=bP hf;obtain⟨x,xs,rfl,rx,rs⟩:=hd.cases_cons;refine Zcg h1 h2 (by cases e<;>first | rfl | (exact absurd hs (show ¬ (false=true) from oAg))) pins s σ H _ us Q I r ?_
  exact⟨x,xs,rfl,mu,env,S,d,he,hw,rx,e1,S1,h3,fun σ' mu' H' x' w' r'=>⟨mu',e1,S1,ds,r',w',RDs.mono x' _ _ rs,env',S',hf,fun σ2 mu2 H2 x2 w2 r2=>q σ2 mu2 H2 (x'.trans x2) w2 r2⟩⟩
theorem Vy{env:Env}:∀ {es:List Expr},es.all notStar=true->(assignEach es env).length=es.length/\(assignEach es env).findIdx? (·.1)=none
 |[],_=>⟨rfl,rfl⟩
 | e::es,h=>by
  rw[all_cons,and_eq_true] at h;obtain⟨h1,h2⟩:=Vy (env:=env) h.2;have e1:assignEach (e::es) env=(false,assign e env)::assignEach es env:=by
   have:=h.1;cases e<;>first | rfl | (exact absurd this (show ¬ (false=true) from oAg))
  rw[e1];refine⟨by simp[h1],?_⟩;rw[List.findIdx?_cons];simp[h2]
theorem Zio(hu:X.A.units+1<cLine)(ho:PE X o (tE X.K (ev c xo)))(hi:PE X i (tE X.K (ev c xi)))(hp:Yb i=true):PG X (.Subscript o i pos) (tG X.K (asg c (.sub xo xi))):=by
 intro pins s σ H v u Q I r ⟨mu,env,S,d,he,hw,hd,env',S',hf,q⟩;dsimp only[asg] at hf;obtain⟨da,S1,h1,hf⟩:=bP hf;obtain⟨db,S2,h2,hf⟩:=bP hf;refine Zbc ho hi (z7 hu) (by intro _;cases i<;>first | rfl | (exact absurd hp (show ¬ (false=true) from oAg))) pins s σ H v u Q I r ?_
 refine⟨mu,env,S,he,hw,da,S1,h1,fun x mu1 H1 e1 w1 r1=>⟨mu1,env,S1,he.mono e1,w1,db,S2,h2,fun y mu2 H2 e2 w2 r2=>?_⟩⟩;cases da with
 | ref n=>
  cases db with
  | int kk=>
   cases q9:S2[n]? with
   |none=>simp only[q9] at hf;cases hf
   | some ob=>
    cases ob with
    |dk kvs=>simp only[q9] at hf;cases hf
    |dt ds=>simp only[q9] at hf;cases hf
    |ins _ _=>simp only[q9] at hf;cases hf
    |dtf _=>simp only[q9] at hf;cases hf
    | lst ds=>
     simp only[q9] at hf;obtain⟨j,h3,e⟩:=bM hf;cases e
     obtain⟨a,e3,xs,e4,rs⟩:=w2.get q9;have r1':=RD.mono e2 _ _ r1;dsimp only[RD] at r1';obtain⟨a',e5,rfl⟩:=r1';rw[e3] at e5;cases e5
     cases int_at r2
     refine .inl ⟨a,xs,kk,j,rfl,rfl,e4,by rw[<- rs.length];exact h3,?_⟩
     exact q σ mu2 _ ((e1.trans e2).trans (Ext.write w2 e3 (ZY e4))) (w2.write e3 (ZY e4) (rs.set j (RD.mono (e1.trans e2) _ _ hd))) (he.mono ((e1.trans e2).trans (Ext.write w2 e3 (ZY e4))))
  |_=>cases hf
 |_=>cases hf
theorem Zip(h:PE X e (tE X.K (ev c x))):PI X tg e (tI X.K (evI c (.seq x))):=by
 intro pins s σ H R I ⟨mu,env,S,he,hw,ds,S',hf,q⟩;dsimp only[evI] at hf;obtain⟨d,S1,h1,hf⟩:=bP hf;cases d with
 | tup es=>
  cases hf
  refine Zfi h pins s σ H R I ⟨mu,env,S,he,hw,_,_,h1,fun v mu1 H1 e1 w1 r1=>?_⟩;obtain⟨a,xs,rfl,hq,_⟩:=r1.tup_at;exact⟨a,rfl,⟨xs,hq⟩,q _ mu1 H1 e1 w1 (Zeh r1)⟩
 | lst es=>
  cases hf
  refine zK h pins s σ H R I ⟨mu,env,S,he,hw,_,_,h1,fun v mu1 H1 e1 w1 r1=>?_⟩;obtain⟨a,xs,rfl,hq,_⟩:=r1.lst_at;exact⟨a,rfl,⟨xs,hq⟩,q _ mu1 H1 e1 w1 (src_list r1)⟩
 | str z=>
  cases hf
  refine ZfI h pins s σ H R I ⟨mu,env,S,he,hw,_,_,h1,fun v mu1 H1 e1 w1 r1=>?_⟩;cases ZU r1
  exact⟨z,rfl,q _ mu1 H1 e1 w1 Zei⟩
 | ref n=>
  obtain⟨es,hes,e'⟩:=bM hf;cases e'
  refine zK h pins s σ H R I ⟨mu,env,S,he,hw,_,_,h1,fun v mu1 H1 e1 w1 r1=>?_⟩;obtain⟨a,ys,rfl,e2,e4,_⟩:=w1.lst_at hes r1;exact⟨a,rfl,⟨ys,SqL.of e4⟩,q _ mu1 H1 e1 w1 (Zeg e2)⟩
 |_=>cases hf
theorem Zf2(ok:XOk X T W k nm)(hg:X.env.scope.names.lookup ("range":Str)=some .globalImplicit)(hs:notStar a=true)(h:PE X a (tE X.K (ev c x))):PI X tg (.Call (.Name "range" p) [a] [] pos) (tI X.K (evI c (.rng1 x))):=by
 intro pins s σ H R I ⟨mu,env,S,he,hw,ds,S',hf,q⟩;dsimp only[evI] at hf;obtain⟨d,S1,h1,hf⟩:=bP hf;cases d with
 | int j=>
  dsimp only at hf;split at hf
  ·rename_i hj;cases hf
   refine Zbe hg (ok.bl _ (by decide +kernel)) (Yu h JR (Zz hs)) (Zz hs) pins s σ H R I ?_;refine⟨mu,env,S,he,hw,_,_,h1,fun v mu1 H1 e1 w1 r1=>?_⟩;cases int_at r1
   exact⟨j,rfl,hj.1,hj.2,q _ mu1 H1 e1 w1 Zej⟩
  ·cases hf
 |_=>cases hf
theorem Ziq(ok:XOk X T W k nm)(hg:X.env.scope.names.lookup ("zip":Str)=some .globalImplicit)(hs:notStar a=true)(hs2:notStar b=true)(ht:isTup tg=true)(ha:PE X a (tE X.K (ev c x)))(hb:PE X b (tE X.K (ev c y))) :
  PI X tg (.Call (.Name "zip" p) [a,b] [] pos) (tI X.K (evI c (.zip x y))):=by
 intro pins s σ H R I ⟨mu,env,S,he,hw,ds,S',hf,q⟩;dsimp only[evI] at hf;obtain⟨d,S1,h1,hf⟩:=bP hf;obtain⟨d2,S2,h2,hf⟩:=bP hf;cases tg<;>first | (exact absurd ht (show ¬ (false=true) from oAg)) | skip
 dsimp only at hf;cases hv:vals d with
 |none=>rw[hv] at hf;cases hf
 | some es=>
  cases hv2:vals d2 with
  |none=>rw[hv,hv2] at hf;cases hf
  | some fs=>
   rw[hv,hv2] at hf;cases hf
   refine ZfX hg (ok.bl _ (by decide +kernel)) ha hb hs hs2 pins s σ H R I ?_;refine⟨mu,env,S,he,hw,_,_,h1,fun v mu1 H1 e1 w1 r1=>⟨mu1,env,_,he.mono e1,w1,_,_,h2,fun v2 mu2 H2 e2 w2 r2=>?_⟩⟩;have r1':=RD.mono e2 _ _ r1;obtain⟨k1,a1,xs,rfl,hq1,_,hd1⟩:=z3 hv r1';obtain⟨k2,a2,ys,rfl,hq2,_,hd2⟩:=z3 hv2 r2;exact⟨k1,k2,a1,a2,rfl,rfl,⟨xs,hq1⟩,⟨ys,hq2⟩,q _ mu2 H2 (e1.trans e2) w2 (Zek hd1 hd2 r1' r2)⟩
end
noncomputable def Y1(own:Nat)(caps:List Nat)(σ:St):St:=List.replicate own none++caps.map fun i=>(σ[i]?).join
noncomputable def clOf(env:Env):List (Str×NameKind)->List (Str×Addr)->List (Str×Addr)
 |[],acc=>acc
 |(n,k)::r,acc=>clOf env r (if k==.free then (match env.cells.lookup n with | some c=>(n,c)::acc | none=>acc) else acc)
theorem Us{env:Env}:∀ {names:List (Str×NameKind)}{acc:List (Str×Addr)},(∀ p∈names,p.2=.free->∃ c,env.cells.lookup p.1=some c) ->
  (forIn names acc fun (x:Str×NameKind) (cs:List (Str×Addr))=>(if (x.2==NameKind.free)=true then (do let c<-cellOf env x.1;pure (ForInStep.yield ((x.1,c)::cs))) else pure (ForInStep.yield cs):Sem (ForInStep (List (Str×Addr)))))=pure (clOf env names acc)
 |[],acc,_=>rfl
 | (n,k)::r,acc,h=>by
  rw[List.forIn_cons];by_cases hk:k=.free
  ·subst hk;obtain⟨c,hc⟩:=h (n,.free) (by simp) rfl;dsimp only at hc ⊢;rw[if_pos (by decide)];have e:cellOf env n=pure c:=by unfold cellOf;rw[hc]
   rw[e,pure_bind,pure_bind];dsimp only;rw[Us (fun p hp=>h p (oAm _ hp)),clOf,if_pos (by decide),hc]
  ·have hb:(k==NameKind.free)=false:=by simpa using hk
   dsimp only;rw[if_neg (by rw[hb];exact oAg),pure_bind]
   dsimp only;rw[Us (fun p hp=>h p (oAm _ hp)),clOf,if_neg (by rw[hb];exact oAg)]
theorem Uy{env:Env}{scope:Scope}(h:∀ p∈scope.names,p.2=.free->∃ c,env.cells.lookup p.1=some c):closureFor scope env=pure (clOf env scope.names []):=by
 have:=Us (env:=env) (names:=scope.names) (acc:=[]) h;unfold closureFor
 first
  |(simp only[this,pure_bind])
  |(rw[this];rfl)
theorem Ju{env:Env}:∀ {names:List (Str×NameKind)}{acc:List (Str×Addr)}{x:Str}{c:Addr},(∀ x c,acc.lookup x=some c->env.cells.lookup x=some c)->(clOf env names acc).lookup x=some c->env.cells.lookup x=some c
 |[],acc,x,c,h,e=>h x c e
 | (n,k)::r,acc,x,c,h,e=>by
  rw[clOf] at e;refine Ju (acc:=_) ?_ e;intro y d hy;split at hy
  ·split at hy
   ·rename_i c' hc';rw[lookup_cons] at hy;split at hy
    ·rename_i q;cases hy
     have:y=n:=by simpa using q
     rw[this];exact hc'
    ·exact h y d hy
   ·exact h y d hy
  ·exact h y d hy
theorem qQ{env:Env}:∀ {names:List (Str×NameKind)}{acc:List (Str×Addr)}{x:Str}{c:Addr},(((x,NameKind.free)∈names/\env.cells.lookup x=some c)\/acc.lookup x=some c/\env.cells.lookup x=some c)->(clOf env names acc).lookup x=some c
 | [],acc,x,c,h=>by
  rcases h with ⟨h,_⟩ | h
  ·cases h
  ·exact h.1
 | (n,k)::r,acc,x,c,h=>by
  rw[clOf];refine qQ ?_
  rcases h with ⟨h,hc⟩ | ⟨h,hc⟩
  ·rcases List.mem_cons.1 h with e | h
   ·cases e
    refine .inr ⟨?_,hc⟩;rw[if_pos (by decide),hc];simp
   ·exact .inl ⟨h,hc⟩
  ·refine .inr ⟨?_,hc⟩;split
   ·split
    ·rename_i c' hc';rw[lookup_cons];split
     ·rename_i q;have:x=n:=by simpa using q
      subst this;rw[hc] at hc';cases hc';rfl
     ·exact h
    ·exact h
   ·exact h
noncomputable def Zl(X:Cx)(N:List Str)(scope:Scope)(C:Addr)(s2:Shared)(H2:Hp)(fp:List Addr)(pins:zPn):Cx:=
 { X with N:=N,s₀:=s2,H₀:=H2,env:=compEnvC scope (clOf X.env scope.names []) C X.env,outer:=X.stack,stack:=X.stack,ex:=fp,fn:=fun _=>false,pn:=X.pn++pins,xe:=fun _ _=>False }
structure YY(X:Cx)(scope:Scope)(N:List Str)(own:Nat)(caps:List Nat):Prop where
 kind:scope.kind=.function
 nocell:∀ p∈scope.names,p.2≠.cell
 loc:∀ p∈scope.names,p.2=.local->scope.names.lookup p.1=some .local
 free:∀ p∈scope.names,p.2=.free->scope.names.lookup p.1=some .free/\X.env.kindOf p.1=some .cell
 nd:N.Nodup
 len:N.length=own+caps.length
 cap:∀ (j i:Nat),caps[j]?=some i->∃ x,N[own+j]?=some x/\X.N[i]?=some x/\(x,NameKind.free)∈scope.names
theorem Jv{names:List (Str×NameKind)}{x:Str}{k:NameKind}(h:names.lookup x=some k):(x,k)∈names:=PySem.mem_of_lookup h
theorem Jw{env:Env}(hk:env.scope.kind=.function):∀ {names:List (Str×NameKind)}{x:Str},names.lookup x=some .free->env.kindOf x=some .cell ->
  (names.map fun (n,k)=>if (k==NameKind.free&&env.scope.kind==.function&&env.kindOf n==some .cell) then (n,NameKind.cell) else (n,k)).lookup x=some .cell
 |[],x,h,_=>by simp at h
 | (n,k)::r,x,h,hc=>by
  have ih:=@Jw env hk r x;show List.lookup x ((if (k==NameKind.free&&env.scope.kind==.function&&env.kindOf n==some .cell)=true then (n,NameKind.cell) else (n,k))::_)=_;cases q:x==n with
  | true=>
   simp only[lookup_cons,q] at h;cases h
   have e:x=n:=by simpa using q
   subst e;have z:(NameKind.free==NameKind.free&&env.scope.kind==.function&&env.kindOf x==some .cell)=true:=by rw[hk,hc];rfl
   rw[if_pos z];simp
  | false=>
   simp only[lookup_cons,q] at h;by_cases z:(k==NameKind.free&&env.scope.kind==.function&&env.kindOf n==some .cell)=true
   ·rw[if_pos z];simp only[lookup_cons,q];exact ih h hc
   ·rw[if_neg z];simp only[lookup_cons,q];exact ih h hc
theorem Y8{env:Env}:∀ {names:List (Str×NameKind)}{x:Str}{k':NameKind},(names.map fun (n,k)=>if (k==NameKind.free&&env.scope.kind==.function&&env.kindOf n==some .cell) then (n,NameKind.cell) else (n,k)).lookup x=some k' ->
  names.lookup x=some k'\/(k'=.cell/\names.lookup x=some .free)
 |[],x,k',h=>by simp at h
 | (n,k)::r,x,k',h=>by
  have ih:=@Y8 env r x k';replace h:List.lookup x ((if (k==NameKind.free&&env.scope.kind==.function&&env.kindOf n==some .cell)=true then (n,NameKind.cell) else (n,k))::(r.map fun (n,k)=>if (k==NameKind.free&&env.scope.kind==.function&&env.kindOf n==some .cell) then (n,NameKind.cell) else (n,k)))=some k':=h;by_cases z:(k==NameKind.free&&env.scope.kind==.function&&env.kindOf n==some .cell)=true
  ·rw[if_pos z] at h;cases q:x==n with
   | true=>
    simp only[lookup_cons,q] at h ⊢;cases h
    rw[and_eq_true,and_eq_true] at z;have:k=.free:=by simpa using z.1.1
    subst this;exact .inr ⟨rfl,rfl⟩
   | false=>
    simp only[lookup_cons,q] at h ⊢;exact ih h
  ·rw[if_neg z] at h;cases q:x==n with
   | true=>
    simp only[lookup_cons,q] at h ⊢;exact .inl h
   | false=>
    simp only[lookup_cons,q] at h ⊢;exact ih h
section
variable {X:Cx}{pins:zPn}{σ:St}{H:Hp}{s:Shared}
theorem WN{scope:Scope}{N:List Str}{own:Nat}{caps:List Nat}{C:Addr}{fp:List Addr}{h4:Heap}{tk:Nat}{m:Str->Option Value}(c:YY X scope N own caps)(I:Inv X pins σ H s)(hfp:∀ b∈fp,FpOk X pins H b)
  (hob:∀ b∈fp,∃ o,s.heap.get? b=some o)(hC:s.heap.objs.size<=C)(hn:h4.Ns C m)(old:∀ b o,s.heap.get? b=some o->h4.get? b=some o) :
  Inv (Zl X N scope C s H fp pins) [] (Y1 own caps σ) H { s with heap:=h4,toks:=tk }:=by
 have hsub:∀ x d,(clOf X.env scope.names []).lookup x=some d->X.env.cells.lookup x=some d:=fun x d e=>Ju (fun _ _ z=>by simp at z) e;have hhas:∀ x,(x,NameKind.free)∈scope.names->∃ d,X.env.cells.lookup x=some d/\(clOf X.env scope.names []).lookup x=some d:=fun x hx=>by
  obtain⟨d,hd⟩:=I.ok.has x (.inl (c.free _ hx rfl).2);exact⟨d,hd,qQ (.inl ⟨hx,hd⟩)⟩
 have fpC:∀ b∈fp,b≠C:=fun b hb=>by
  obtain⟨o,ho⟩:=hob b hb;exact oAp (oAo (oAf ho) hC)
 have stk:∀ b,b≠X.env.locals->b∉X.fs->b∉frs X.stack:=fun b h1 h2 hb=>by
  rcases List.mem_cons.1 (I.stkSub b hb) with z | z
  ·exact h1 z
  ·exact h2 z
 refine⟨⟨I.ok.mod,?_,I.ok.glob,I.ok.blt,hC,?_,?_,fun x d hf=>(by cases hf),I.ok.hd,I.ok.frames,.inl rfl,?_,I.bs,oAq I.ok.bsz I.sz,?_,?_,I.stack,I.stkFree⟩,
  rfl,I.bare,Un.kept old,⟨m,hn,?_⟩,?_,I.hok.fresh hC,?_,?_,I.hok.kept old,?_⟩
 ·exact c.kind
 ·intro x y d h1 h2;exact I.ok.inj x y d (hsub x d h1) (hsub y d h2)
 ·intro x hx;have hx':(relabel scope X.env).names.lookup x=some .cell\/(relabel scope X.env).names.lookup x=some .free:=hx;have key:(x,NameKind.free)∈scope.names:=by
   rcases hx' with z | z
   ·rcases Y8 z with z | ⟨_,z⟩
    ·exact absurd rfl (c.nocell _ (Jv z))
    ·exact Jv z
   ·rcases Y8 z with z | ⟨z,_⟩
    ·exact Jv z
    ·cases z
  obtain⟨d,_,hd⟩:=hhas x key;exact⟨d,hd⟩
 ·intro b hb;exact⟨fpC b hb,fun x d e=>(hfp b hb).2.2.2.2.1 x d (hsub x d e)⟩
 ·intro b o e hb
  rcases (hfp b hb).2.2.2.1 with z | z
  ·exact I.ok.noex b o e z
  ·exact absurd (oAo (oAf e) (oAq I.ok.bsz z)) (oAr _)
 ·intro b hb;exact stk b (hfp b hb).2.1 (hfp b hb).2.2.1
 ·intro i x v h1 h2 h3;have h1':N[i]?=some x:=h1;unfold Y1 at h2;by_cases hi:i<own
  ·rw[getElem?_append_left (by simpa using hi),List.getElem?_replicate] at h2;split at h2<;>cases h2
  ·rw[getElem?_append_right (by simpa using hi),getElem?_map] at h2;simp only[length_replicate] at h2;obtain⟨ii,hc1,hc2⟩:=bM h2;obtain⟨y,hy1,hy2,hy3⟩:=c.cap _ ii hc1;have ei:own+(i - own)=i:=by lia
   rw[ei,h1'] at hy1;cases hy1
   have hσ:σ[ii]?=some (some v):=by
    cases q:σ[ii]? with
    |none=>rw[q] at hc2;cases hc2
    |some o=>rw[q] at hc2;rw[show o=some v from hc2]
   obtain⟨m0,hn0,hl0⟩:=I.loc;have hk:=(c.free _ hy3 rfl).2;obtain⟨u,ru,lk⟩:=hl0 ii x v hy2 hσ (.inr (.inl hk));refine⟨u,ru,?_⟩;obtain⟨d,hd1,hd2⟩:=hhas x hy3;have lkc:∃ c,X.env.cells.lookup x=some c/\s.heap.IsCell c (some u):=by
    rcases lk with ⟨z,_⟩ | ⟨_,z⟩
    ·rw[hk] at z;cases z
    ·exact z
   obtain⟨d',hd3,o,ho,hod⟩:=lkc;rw[hd1] at hd3;cases hd3
   refine .inr ⟨.inl ?_,d,hd2,o,old d o ho,hod⟩;exact Jw I.ok.kind (c.free _ hy3 rfl).1 hk
 ·intro x d e;obtain⟨v,o,ho,hd⟩:=I.cell x d (hsub x d e);exact⟨v,o,old d o ho,hd⟩
 ·intro x d e;exact I.freeC x d (hsub x d e)
 ·intro q hq;have hq':q∈X.pn++pins:=by
   have z:q∈(X.pn++pins)++[]:=hq;simpa using z
  obtain⟨a1,a2,a3,a4,a5⟩:=I.pin q hq';exact⟨old _ _ a1,a2,oAp (oAo (oAf a1) hC),stk _ a3 a4,a5⟩
 ·show (Y1 own caps σ).length=N.length;unfold Y1;rw[c.len];simp
theorem z9{K:Frag}{mu:List Addr}{own:Nat}{caps:List Nat}{env:En}{σ:St}(r:ER K mu H env σ):ER K mu H (ZG own caps env) (Y1 own caps σ):=by
 unfold ZG Y1;refine⟨by simp,fun i d h=>?_⟩;by_cases hi:i<own
 ·rw[getElem?_append_left (by simpa using hi),List.getElem?_replicate] at h;split at h<;>cases h
 ·rw[getElem?_append_right (by simpa using hi),getElem?_map] at h;simp only[length_replicate] at h;obtain⟨ii,hc1,hc2⟩:=bM h;have he:env[ii]?=some (some d):=by
   cases q:env[ii]? with
   |none=>rw[q] at hc2;cases hc2
   |some o=>rw[q] at hc2;rw[show o=some d from hc2]
  obtain⟨v,h1,h2⟩:=r.get ii d he;refine⟨v,?_,h2⟩;rw[getElem?_append_right (by simpa using hi),getElem?_map];simp only[length_replicate];rw[hc1];show some ((σ[ii]?).join)=_;rw[h1];rfl
inductive CI(Y:Cx)(K:Frag)(ds:Sr)(tn:Nat->Heap->Prop)(fp:List Addr)(D0:Addr)(mu1:List Addr)(H2:Hp)(fG:D->En->Sto->Option (En×Sto))(fT:En->Sto->Option (Bool×Sto))(fE:En->Sto->Option (D×Sto))(acc:List D)(S2:Sto)(n:Nat)(s3:Shared):Prop
 |mk (i:Nat) (σ3:St) (H3:Hp) (mu3:List Addr) (env3:En) (S3:Sto) (accD:List D) (accV:List V) (its:Array Value) (a1:Sr.le ds i) (a2:Inv Y [] σ3 H3 s3) (a3:tn i s3.heap) (a4:∀ b∈fp,H3 b=none) (a5:H3 D0=none) (a6:s3.heap.PlainList D0 its) (a7:Vals accV its.toList) (a8:RDs K mu3 H3 accD accV) (a9:accD.length<=line) (b1:Ext mu1 H2 mu3 H3) (b2:WR K mu3 H3 S3) (b3:ER K mu3 H3 env3 σ3) (b4:Z0 ds (ZX fG fT fE) n i env3 S3 accD=some (acc,S2))
def Y2(Y:Cx)(ifs:List Expr)(t:TT):Prop:=
 ∀ (pins:zPn) (s:Shared) (σ:St) (H:Hp) (Q:Bool->Hp->Prop),Inv Y pins σ H s->t σ H Q ->
  wpAny (model Y.prog Y.w) Y.A (forIn ifs true fun c r=>if r=true then do let ok<-isTrue c Y.env (eval c Y.env);pure (ForInStep.yield ok) else pure (ForInStep.yield r)) (TP Y pins σ Q) Y.xe s
theorem qR{elt tgt iter:Expr}{ifs:List Expr}{scope:Scope}{pos cpos:Pos}{N:List Str}{own:Nat}{caps:List Nat}{fI:En->Sto->Option (Sr×Sto)}{fG:D->En->Sto->Option (En×Sto)}{fT:En->Sto->Option (Bool×Sto)}{fE:En->Sto->Option (D×Sto)}
  {use:Option (Value->Sem Unit)}{RQ:zVP}(calm:X.calm=true)(cn:YY X scope N own caps)(hi:PI X tgt iter (tI X.K fI))(hs:∀ y,foldedSetIterable iter X.env y=pure y)
  (blk:∀ (C:Addr) (s2:Shared) (H2:Hp) (fp:List Addr) (pins:zPn),PG (Zl X N scope C s2 H2 fp pins) tgt (tG X.K fG)/\Y2 (Zl X N scope C s2 H2 fp pins) ifs (tT X.K fT)/\PE (Zl X N scope C s2 H2 fp pins) elt (tE X.K fE))
  {pins:zPn}{s:Shared}{σ:St}{H:Hp}(I:Inv X pins σ H s){mu:List Addr}{env:En}{S S2:Sto}{acc:List D}(he:ER X.K mu H env σ)(hw:WR X.K mu H S)
  (hf:((fI env S).bind fun r=>Z0 r.1 (ZX fG fT fE) r.1.fuel 0 (ZG own caps env) r.2 [])=some (acc,S2))
  (fin:∀ (s4:Shared) (H3:Hp) (D0 C:Addr) (m:Str->Option Value) (mu3:List Addr) (accV:List V) (v:Flow),H3 D0=none->Inv X pins σ (upd H3 D0 (.lst accV)) s4->s4.heap.Ns C m->FpOk X pins (upd H3 D0 (.lst accV)) C->Ext mu H mu3 H3->WR X.K mu3 H3 S2->RDs X.K mu3 H3 acc accV ->
   compPost (model X.prog X.w) X.A X.xe use RQ (.ref D0) C (.ok v) s4) :
  wpAny (model X.prog X.w) X.A (comprehension (.ListComp elt [⟨tgt,iter,ifs,0⟩] scope pos) scope X.env cpos (newList []) false (eval iter X.env) use) RQ X.xe s:=by
 obtain⟨ds,S1,h1,h2⟩:=bP hf;dsimp only at h2;have hclos:=Uy (env:=X.env) (scope:=scope) (fun p hp hf=>I.ok.has p.1 (.inl (cn.free p hp hf).2));refine wpAny_comprehension_free (use:=use) rfl hs hclos cn.kind cn.loc (thn (hi pins s σ H (fun J H1=>Nx X.K mu H H1 S1 fun mu1=>Src X.K J mu1 H1 ds) I ⟨mu,env,S,he,hw,ds,S1,h1,fun J mu1 H1 e1 w1 src=>⟨mu1,e1,w1,src⟩⟩) fun v s1 q1=>thn q1 fun itv s2 q2=>?_);obtain⟨it,fp,tn,J,H2,e,I2,T,st2,f2,mu1,e1,w1,src⟩:=q2;subst e;refine wpAny_newObj_type (wpAny_newFunctionEnv cn.nocell (by intro y hy;simp at hy) (fun h4 hns hsb=>?_) cn.kind)
 dsimp only at hns hsb ⊢;generalize hP:s2.heap.push { cls:=.type "list",dict:=none,data:=.seq ([]:List Value).toArray }=P2 at hns hsb ⊢;have hC:P2.objs.size=s2.heap.objs.size+1:=by rw[<- hP,size_push]
 have hDC:s2.heap.objs.size≠P2.objs.size:=by rw[hC];exact oAp (oAs _)
 have hCle:s2.heap.objs.size<=P2.objs.size:=by rw[hC];exact le_succ _
 have below:∀ b o,s2.heap.get? b=some o->b≠P2.objs.size/\b≠s2.heap.objs.size:=fun b o e=>⟨by rw[hC];exact oAp (lt_succ_of_lt (oAf e)),oAp (oAf e)⟩
 have old:∀ b o,s2.heap.get? b=some o->h4.get? b=some o:=fun b o e=>hsb.extBut b o (below b o e).1 (oAd _ (hP ▸ oAd _ e));have hacc0:h4.PlainList s2.heap.objs.size #[]:=⟨_,hsb.extBut _ _ hDC (oAd _ (hP ▸ oAe _ rfl))⟩;generalize hD0:s2.heap.objs.size=D0 at hC hDC hCle below hacc0 ⊢;have fpOb:∀ b∈fp,∃ o,s2.heap.get? b=some o:=fun b hb=>by obtain⟨o,ho,_⟩:=T.obj _ _ st2 b hb;exact⟨o,ho⟩
 have fpD:∀ b∈fp,b≠D0:=fun b hb=>by obtain⟨o,ho⟩:=fpOb b hb;exact(below b o ho).2
 have fpC:∀ b∈fp,b≠P2.objs.size:=fun b hb=>by obtain⟨o,ho⟩:=fpOb b hb;exact(below b o ho).1
 have IY:Inv (Zl X N scope P2.objs.size s2 H2 fp pins) [] (Y1 own caps σ) H2 { s2 with heap:=h4,toks:=s2.toks+([]:List (Str×Value)).length }:=WN cn I2 f2 fpOb (by rw[hD0];exact hCle) hns old
 obtain⟨bG,bT,bE⟩:=blk P2.objs.size s2 H2 fp pins;have fpY:∀ {pp:zPn}{H3:Hp},(∀ p∈pp,p.1=D0\/p.1∈fp->p.1=D0)->True:=fun _=>trivial;have okB:∀ {pp:zPn}{H3:Hp} (b:Addr),b∈fp->H3 b=none->(∀ p∈pp,p.1≠b)->FpOk (Zl X N scope P2.objs.size s2 H2 fp pins) pp H3 b:=fun {pp H3} b hb hn hp=>by
  obtain⟨f0,f1,f3,f4,f5,f6⟩:=f2 b hb;refine⟨hn,fpC b hb,fun z=>?_,.inl hb,fun x c e=>f5 x c (Ju (fun _ _ z=>by simp at z) e),fun p hpp=>?_⟩
  ·rcases List.mem_cons.1 (I2.stkSub b z) with z | z
   ·exact f1 z
   ·exact f3 z
  ·have hpp':p∈(X.pn++pins)++pp:=hpp
   rcases List.mem_append.1 hpp' with z | z
   ·exact f6 p z
   ·exact hp p z
 have okD0:∀ {pp:zPn}{H3:Hp},H3 D0=none->(∀ p∈pp,p.1≠D0)->FpOk (Zl X N scope P2.objs.size s2 H2 fp pins) pp H3 D0:=fun {pp H3} hn hp=>by
  refine⟨hn,hDC,fun z=>?_,.inr (le_of_eq hD0),fun x c e=>?_,fun p hpp=>?_⟩
  ·have:=I2.stack.mem z;obtain⟨_,o,ho,_⟩:=this;exact(below _ o ho).2 rfl
  ·obtain⟨v,o,ho,_⟩:=I2.cell x c (Ju (fun _ _ z=>by simp at z) e);exact(below _ o ho).2
  ·have hpp':p∈(X.pn++pins)++pp:=hpp
   rcases List.mem_append.1 hpp' with z | z
   ·exact(below _ _ (I2.pin p z).1).2
   ·exact hp p z
 have loop:∀ s4:Shared,s4={ s2 with heap:=h4,toks:=s2.toks+([]:List (Str×Value)).length } ->
   codeAny (model X.prog X.w) X.A (.compLoop (.ListComp elt [⟨tgt,iter,ifs,0⟩] scope pos) 0 (.ref it) (.ref D0) (compEnvC scope (clOf X.env scope.names []) P2.objs.size X.env))
    (compPost (model X.prog X.w) X.A X.xe use RQ (.ref D0) P2.objs.size) s4:=by
  rintro s4 rfl;refine codeAny_loop rfl (CI (Zl X N scope P2.objs.size s2 H2 fp pins) X.K ds tn fp D0 mu1 H2 fG fT fE acc S2) ?_ ds.fuel ?_
  ·rintro n s3 ⟨i,σ3,H3,mu3,env3,S3,accD,accV,its,hi3,I3,st3,fr3,nD3,pl3,va3,rs3,hz3,x3,w3,r3,hl3⟩;show wpAny _ X.A ((compTurn (.ListComp elt [⟨tgt,iter,ifs,0⟩] scope pos) 0 (.ref it) (.ref D0) (compEnvC scope (clOf X.env scope.names []) P2.objs.size X.env)).onRaise (fun x=>do noteFrame x (compEnvC scope (clOf X.env scope.names []) P2.objs.size X.env);theTreesLotGoes x)) _ _ s3
   refine wpAny_noted ?_;rw[compTurn_list];refine oAa (wpAny_standAt (oAa ?_));have pD:∀ p∈ZT [D0] s3.heap,p.1=D0:=fun p hp=>by simpa using (Ww hp).1
   obtain⟨nn,hDo⟩:=id pl3;have I3p:Inv (Zl X N scope P2.objs.size s2 H2 fp pins) ([]++ZT [D0] s3.heap) σ3 H3 s3:=I3.pinned (fun b hb=>by
    have:b=D0:=by simpa using hb
    subst this;exact okD0 nD3 (fun p hp=>by simp at hp)) (fun b hb=>by
    have:b=D0:=by simpa using hb
    subst this;exact⟨_,hDo,fun v z=>by cases z⟩)
   rw[nil_append] at I3p;have mD:(D0,({ cls:=.type "list",data:=.seq its nn }:Obj))∈ZT [D0] s3.heap:=Yt (by simp) hDo;have ok3:∀ {H5:Hp},(∀ b∈fp,H5 b=none)->∀ b∈fp,FpOk (Zl X N scope P2.objs.size s2 H2 fp pins) (ZT [D0] s3.heap) H5 b:=fun {H5} hn b hb=>okB b hb (hn b hb) (fun p hp=>by rw[pD p hp];exact(fpD b hb).symm)
   cases n with
   |zero=>dsimp only[Z0] at hl3;cases hl3
   |succ n=>
   dsimp only[Z0] at hl3;obtain⟨od,hod,hl3⟩:=bO hl3;have hsrc:=src mu3 H3 S3 x3 w3 i hi3 od hod;cases od with
   | some dd=>
    obtain⟨hlt,go,yl⟩:=hsrc;obtain⟨ox,⟨env6,S6⟩,hst,hl3⟩:=bP hl3;unfold ZX at hst;obtain⟨env4,S4,hg,hst⟩:=bP hst;obtain⟨tb,S5,ht,hst⟩:=bP hst;refine thn (T.item (Zl X N scope P2.objs.size s2 H2 fp pins) rfl rfl rfl calm i (ZT [D0] s3.heap) s3 σ3 H3 _ I3p (ok3 fr3) st3 go) fun r s4 ⟨u,hr,h4'⟩=>?_;subst hr;refine oAa (thn h4' fun _ s5 ⟨x,H5,I5,rx,y5,st5,fr5⟩=>?_);obtain⟨e5,w5,rd5⟩:=yl x H5 y5;have I5p:=I5.pinned (ok3 fr5) (T.obj _ _ st5);refine oAa (oAc (bG _ s5 σ3 H5 x u (fun σ4 H4=>Nx X.K mu3 H5 H4 S4 fun mu4=>ER X.K mu4 H4 env4 σ4) I5p rx ⟨mu3,env3,S3,dd,r3.mono e5,w5,rd5,env4,S4,hg,fun σ4 mu4 H4 a b c=>⟨mu4,a,b,c⟩⟩) (fun _ s6 q6=>?_) fun _ _ z=>z.elim);obtain⟨σ4,H6,I6,mu4,e6,w6,r6⟩:=q6;refine oAa (oAc (bT _ s6 σ4 H6 (fun b H'=>b=tb/\Ny X.K mu4 H6 H' S5) I6 ⟨mu4,env4,S4,r6,w6,tb,S5,ht,fun mu5 H' a b=>⟨rfl,mu5,a,b⟩⟩) (fun b s7 q7=>?_) fun _ _ z=>z.elim);obtain⟨H7,I7,eb,mu5,e7,w7⟩:=q7;subst eb;have keepF:∀ {σ':St}{H':Hp}{s':Shared}{h9:Heap},Inv (Zl X N scope P2.objs.size s2 H2 fp pins) (ZT [D0] s3.heap++ZT fp s5.heap) σ' H' s'->(∀ b o,b≠D0->s'.heap.get? b=some o->h9.get? b=some o)->tn (i+1) h9/\∀ b∈fp,H' b=none:=fun {σ' H' s' h9} J9 k9=>by
     have hpin:∀ b∈fp,∀ o,s5.heap.get? b=some o->s'.heap.get? b=some o/\H' b=none:=fun b hb o e=>by
      have:=J9.pin (b,o) (oAu _ (oAu _ (Yt hb e)));exact⟨this.1,this.2.1⟩
     refine⟨T.keep _ _ _ st5 fun b hb o e=>k9 b o (fpD b hb) (hpin b hb o e).1,fun b hb=>?_⟩;obtain⟨o,e,_⟩:=T.obj _ _ st5 b hb;exact(hpin b hb o e).2
    have keepD:∀ {σ':St}{H':Hp}{s':Shared},Inv (Zl X N scope P2.objs.size s2 H2 fp pins) (ZT [D0] s3.heap++ZT fp s5.heap) σ' H' s'->s'.heap.PlainList D0 its/\H' D0=none:=fun {σ' H' s'} J9=>by
     have:=J9.pin (D0,_) (oAu _ (mem_append_left _ mD));exact⟨⟨nn,this.1⟩,this.2.1⟩
    cases b with
    | false=>
     rw[if_neg oAg] at hst;cases hst
     obtain⟨t9,f9⟩:=keepF (h9:=s7.heap) I7 (fun _ _ _ e=>e);obtain⟨p9,n9⟩:=keepD I7;refine oAb ⟨rfl,n,oAs n,i+1,σ4,H7,mu5,env4,S5,accD,accV,its,hlt,I7.pins_of (fun p hp=>by simp at hp),t9,f9,n9,p9,va3,RDs.mono ((e5.trans e6).trans e7) _ _ rs3,hz3,x3.trans ((e5.trans e6).trans e7),w7,r6.mono e7,hl3⟩
    | true=>
     rw[if_pos rfl] at hst;obtain⟨⟨dx,S8⟩,hx,e⟩:=bM hst;cases e
     dsimp only at hl3;split at hl3
     ·rename_i hz;refine oAa (oAa (oAc (bE _ s7 σ4 H7 (fun v' H'=>Nx X.K mu5 H7 H' S8 fun mu8=>RD X.K mu8 H' dx v') I7 ⟨mu5,env4,S5,r6.mono e7,w7,dx,S8,hx,fun v' mu8 H' a b c=>⟨mu8,a,b,c⟩⟩) (fun y s8 q8=>?_) fun _ _ z=>z.elim));obtain⟨yv,H8,I8,ry,mu8,e8,w8,rd8⟩:=q8;obtain⟨p8,n8⟩:=keepD I8;have hszz:its.size<=sizeLine:=by
       have a1:=va3.length;have a2:=rs3.length;have a3:its.toList.length=its.size:=by simp
       have a4:=ZD;lia
      refine oAa (wpAny_list_append_plain (hsz:=hszz) p8 fun h9 hl9 hs9=>oAb (oAb ?_))
      ·obtain⟨t9,f9⟩:=keepF (h9:=h9) I8 (fun b o hb e=>hs9.extBut b o hb e);have ext:Ext mu3 H3 mu8 H8:=((e5.trans e6).trans e7).trans e8;have I9:Inv (Zl X N scope P2.objs.size s2 H2 fp pins) [] σ4 H8 { s8 with heap:=h9 }:=UR (t':=s8.toks) (ch:=[D0]) (I8.pins_of (pins':=[]) (fun p hp=>by simp at hp)) (fun b hb=>by
        have:b=D0:=by simpa using hb
        subst this;exact okD0 n8 (fun p hp=>by simp at hp)) (fun b o hb e=>hs9.extBut b o (fun z=>hb (by simp[z])) e)
       refine⟨rfl,n,oAs n,i+1,σ4,H8,mu8,env4,S8,accD++[dx],accV++[yv],its.push y,hlt,I9,t9,f9,n8,hl9,?_,(RDs.mono ext _ _ rs3).append (.cons rd8 .nil),by simp;lia,x3.trans ext,w8,r6.mono (e7.trans e8),hl3⟩
       rw[Array.toList_push];exact va3.append (.cons ry .nil)
     ·cases hl3
   | none=>
    cases hl3
    refine thn (T.done (Zl X N scope P2.objs.size s2 H2 fp pins) rfl rfl rfl calm i (ZT [D0] s3.heap) s3 σ3 H3 _ I3p (ok3 fr3) st3 hsrc) fun r s4 ⟨hr,I4⟩=>?_;subst hr;refine oAb ?_;have pl4:s4.heap.PlainList D0 its/\H3 D0=none:=by
     have:=I4.pin (D0,_) (oAu _ mD);exact⟨⟨nn,this.1⟩,this.2.1⟩
    obtain⟨m4,hn4,_⟩:=I4.loc;obtain⟨⟨n4,eD⟩,nD⟩:=pl4;have ub:Un (frs X.stack) fp H2 H3 s2.heap s4.heap:=I4.base;have nC:H3 P2.objs.size=none:=I4.free;have un:Un (frs X.stack) fp H2 (upd H3 D0 (.lst accV)) s2.heap s4.heap:=by
     refine⟨ub.keep,ub.slot,fun b o q n hx=>?_,ub.there,fun b xs q=>?_,fun b o u q=>?_,fun b ps q=>?_⟩
     ·rw[Zi (below b o q).2];exact ub.free b o q n hx
     ·have z:=ub.tups b xs q;rw[Zi (Zr z nD)];exact z
     ·have z:=ub.frzs b o u q;rw[Zi (Zr z nD)];exact z
     ·obtain⟨more,z⟩:=ub.tbls b ps q;exact⟨more,by rw[Zi (Zr z nD)];exact z⟩
    have hok:HOk X.prog X.w (upd H3 D0 (.lst accV)) s4.heap:=fun b u e=>by
     by_cases hb:b=D0
     ·subst hb;rw[Zv] at e;cases e
      refine⟨?_,its.toList,n4,va3,?_⟩
      ·have a2:=rs3.length;have a4:=ZD;lia
      ·rw[Array.toArray_toList];exact eD
     ·rw[Zi hb] at e;exact(I4.hok b u e).stay (fun c v hc q=>q) (fun c q=>by rw[Zi (Zr q nD)];exact q) fun c xs q=>by rw[Zi (Zr q nD)];exact q
    have bare4:=I4.bare;have os4:s4.os=s2.os:=I4.os;have J9:Inv X pins σ (upd H3 D0 (.lst accV)) s4:=by
     obtain⟨hh,g,dd,tt,os'⟩:=s4;obtain rfl:os'=s2.os:=os4;exact Inv.call (s:=s2) (h':=hh) (g':=g) (d':=dd) (t':=tt) (ch:=fp) I2 un hok bare4 (fun b hb=>⟨(f2 b hb).2.2.2.1,(f2 b hb).2.1,(f2 b hb).2.2.2.2.1,(f2 b hb).2.2.2.2.2⟩)
    refine fin s4 H3 D0 P2.objs.size m4 mu3 accV _ nD J9 hn4 ?_ (e1.trans x3) w3 rs3;refine I2.fpOk (by rw[hD0];exact hCle) ?_
    rw[Zi (Ne.symm hDC)];exact nC
  ·exact⟨0,_,H2,mu1,ZG own caps env,S1,[],[],#[],by cases ds<;>first | exact zero_le _ | exact trivial,IY,T.keep _ _ _ st2 (fun b hb o e=>old b o e),fun b hb=>(f2 b hb).1,I2.hok.fresh (le_of_eq hD0),hacc0,.nil,.nil,zero_le _,.refl,w1,z9 (he.mono e1),h2⟩
 exact codeAny_compStart_list (loop _ rfl) (T.self _ 0 _ _ _ (T.keep _ _ _ st2 (fun b hb o e=>old b o e)) (loop _ rfl))
theorem Zaa
  (calm:X.calm=true)(cn:YY X scope N own caps)(hi:PI X tgt iter (tI X.K fI))(hs:∀ y,foldedSetIterable iter X.env y=pure y)
  (blk:∀ (C:Addr) (s2:Shared) (H2:Hp) (fp:List Addr) (pins:zPn),PG (Zl X N scope C s2 H2 fp pins) tgt (tG X.K fG)/\Y2 (Zl X N scope C s2 H2 fp pins) ifs (tT X.K fT)/\PE (Zl X N scope C s2 H2 fp pins) elt (tE X.K fE)) :
  PE X (.ListComp elt [⟨tgt,iter,ifs,0⟩] scope pos) (tN X.K (fun env S=>(fI env S).bind fun r=>Z0 r.1 (ZX fG fT fE) r.1.fuel 0 (ZG own caps env) r.2 [])):=by
 intro pins s σ H Q I ⟨mu,env,S,he,hw,acc,S',hf,k⟩;rw[eval_ListComp];refine qR (use:=none) calm cn hi hs blk I he hw hf fun s4 H3 D0 C m mu3 accV v nD J hn fpC e3 w3 rs=>⟨m,hn,fun h5 hs5=>?_⟩;refine⟨.ref D0,_,UR (t':=s4.toks) (ch:=[C]) J (fun b hb=>?_) (fun b o hb e=>hs5.extBut b o (fun z=>hb (by simp[z])) e),rfl,k accV D0 mu3 H3 e3 w3 nD rs⟩;have:b=C:=by simpa using hb
 subst this;exact fpC
theorem Zel
  (calm:X.calm=true)(cn:YY X scope N own caps)(hi:PI X tgt iter (tI X.K fI))(hs:∀ y,foldedSetIterable iter X.env y=pure y)
  (blk:∀ (C:Addr) (s2:Shared) (H2:Hp) (fp:List Addr) (pins:zPn),PG (Zl X N scope C s2 H2 fp pins) tgt (tG X.K fG)/\Y2 (Zl X N scope C s2 H2 fp pins) ifs (tT X.K fT)/\PE (Zl X N scope C s2 H2 fp pins) elt (tE X.K fE))
  (hsw:swapsWith (.ListComp elt [⟨tgt,iter,ifs,0⟩] scope pos) (some (.Name y py)) spos.line X.env=pure true)(hg:PG X (.Name y py) g) :
  PS X (.Assign [.Name y py] (.ListComp elt [⟨tgt,iter,ifs,0⟩] scope pos) spos) (fun D σ H=>tN X.K (fun env S=>(fI env S).bind fun r=>Z0 r.1 (ZX fG fT fE) r.1.fuel 0 (ZG own caps env) r.2 []) σ H fun v H1=>g v σ H1 D.nx):=by
 intro pins s σ H D I ⟨mu,env,S,he,hw,acc,S',hf,k⟩;rw[exec_Assign_Name_used _ _ _ _ hsw];refine oAa (wpAny_standAt (oAa ?_));show wpAny _ X.A (do let _<-comprehension (.ListComp elt [⟨tgt,iter,ifs,0⟩] scope pos) scope X.env _ (newList []) false (eval iter X.env) (some (assign (.Name y py) X.env))) _ _ s;refine oAa (oAc (qR (use:=some (assign (.Name y py) X.env)) (RQ:=fun _ s'=>SP X pins D .next s') calm cn hi hs blk I he hw hf fun s4 H3 D0 C m mu3 accV v nD J hn fpC e3 w3 rs=>?_) (fun _ s' hq=>oAb (oAb hq)) fun _ _ e=>e);show wpAny (model X.prog X.w) X.A (assign (.Name y py) X.env (.ref D0)) (fun _ s''=>∃ m,s''.heap.Ns C m/\∀ h',SameBut C s''.heap h'->SP X pins D .next { s'' with heap:=h' }) X.xe s4;obtain⟨oC,es,ep,hoC,rC⟩:=hn;have nocell:∀ v,oC.data≠.cell v:=fun v z=>by
  have q1:=rC.1;rw[z] at q1;cases q1
 have Jp:=J.pinned (fun b hb=>by
  have:b=C:=by simpa using hb
  subst this;exact fpC) (fun b hb=>by
  have:b=C:=by simpa using hb
  subst this;exact⟨oC,hoC,nocell⟩) (fp:=[C])
 have mC:(C,oC)∈ZT [C] s4.heap:=Yt (by simp) hoC;refine thn (hg _ s4 σ _ (.ref D0) (.ref D0) D.nx Jp rfl (k accV D0 mu3 H3 e3 w3 nD rs)) fun _ s5 q5=>?_;obtain⟨σ5,H5,I5,q⟩:=q5;have pC:=I5.pin (C,oC) (oAu _ (oAu _ mC));refine⟨m,⟨oC,es,ep,pC.1,rC⟩,fun h' hs'=>?_⟩;have I6:Inv X pins σ5 H5 s5:=I5.pins_of (fun p hp=>?_)
 ·refine⟨σ5,H5,UR (t':=s5.toks) (ch:=[C]) I6 (fun b hb=>?_) (fun b o hb e=>hs'.extBut b o (fun z=>hb (by simp[z])) e),q⟩;have:b=C:=by simpa using hb
  subst this;obtain⟨f0,f1,f3,f4,f5,f6⟩:=fpC;exact⟨pC.2.1,f1,f3,f4,f5,f6⟩
 ·exact I5.pin p (oAu _ (mem_append_left _ hp))
end
section
variable {X:Cx}{T:Tab}{W k:Nat}{nm:List (Str×NameKind)}{c:Cl}{pins:zPn}{σ:St}{H:Hp}{s:Shared}{mu:List Addr}{S:Sto}
theorem qS{K:Frag}:∀ l:List Str,RDs K mu H (l.map D.str) (l.map V.str)
 |[]=>.nil
 |x::l=>.cons (by dsimp only[RD]) (qS l)
theorem few1(hs:notStar e=true):((backTo pos (starEach [e] X.env)).all (fun x=>!x.1)&&(backToKw pos (keywordEach [] X.env)).all (fun x=>x.1.isSome)
   &&decide (([e]:List Expr).length+([]:List Keyword).length+(if ([]:List Keyword).isEmpty then 0 else 1)<30))=true:=by
  have a1:(backTo pos (starEach [e] X.env)).all (fun x=>!x.1)=true:=by
    have:=ZI (es:=[e]) (pos:=pos) (env:=X.env) (by simp[hs]);rw[List.all_eq_not_any_not];simpa using this
  rw[a1];rfl
theorem DRel.val{κ:Type}[DecidableEq κ]{K:Frag}{k:κ}{d:D}{v:V}(hd:RD K mu H d v):∀ {kvs:List (κ×D)}{us:List (κ×V)},DRel K mu H kvs us->RD K mu H ((valD kvs k).getD d) ((valV us k).getD v)
 |[],us,h=>by rw[h.cases_nil];exact hd
 | p::kvs,us,h=>by
  obtain⟨q,r,rfl,e,hq,t⟩:=h.cases_cons;have ih:=DRel.val hd (k:=k) t;by_cases hk:p.1=k
  ·rw[Jl (e.trans hk)];have:valD (p::kvs) k=some p.2:=by simp[valD,find?_cons,hk]
   rw[this];exact hq
  ·rw[Jm (fun z=>hk (e.symm.trans z))];have:valD (p::kvs) k=valD kvs k:=by simp[valD,find?_cons,hk]
   rw[this];exact ih
theorem Zf3(hu:X.A.units+1<cLine){es:List Expr}{j:Nat}{p apos cpos:Pos}{o f:Expr}{xs:Exs}{xo xf:Ex}(ho:PE X o (tE X.K (ev c xo)))(hes:PA X es (tA X.K (evs c xs)))(hf:PE X f (tE X.K (ev c xf)))(m:M2 X o "get" apos (.Tuple es j p) f cpos) :
  PE X (.Call (.Attribute o "get" apos) [.Tuple es j p,f] [] cpos) (tE X.K (ev c (.dget xo xs xf))):=by
 intro pins s σ H Q I ⟨mu,env,S,he,hw,d,S',hg,kk⟩;dsimp only[ev] at hg;obtain⟨dd,S1,h1,hg⟩:=bP hg;obtain⟨kvs0,h2,hg⟩:=bO hg;obtain⟨ds,S2,h3,hg⟩:=bP hg;dsimp only at h2 hg;split at hg
 ·rename_i hz;obtain⟨dz,S3,h4,hg⟩:=bP hg;obtain⟨kvs,h5,hg⟩:=bO hg;obtain⟨ks,h6,e⟩:=bM hg;cases e
  obtain⟨n,rfl⟩:∃ n,dd=.ref n:=by
   cases dd with
   |ref n=>exact⟨n,rfl⟩
   |_=>cases h2
  refine Zct hu ho (ql hes) hf m pins s σ H Q I ⟨mu,env,S,he,hw,.ref n,S1,h1,fun x mu1 H1 e1 w1 r1=>?_⟩;obtain⟨a,us0,rfl,hm0,ha0,dr0⟩:=JL w1 h2 r1;refine⟨a,rfl,.inr ⟨us0,.inl ha0⟩,⟨mu1,env,S1,he.mono e1,w1,ds,S2,h3,fun vs mu2 H2 e2 w2 r2=>⟨by rw[ZD,<-r2.length];exact hz,fun q hq=>?_⟩⟩⟩
  have ex:Ext mu2 H2 mu2 (upd H2 q (.tup vs)):=Ext.new w2 hq;refine⟨mu2,env,S2,he.mono ((e1.trans e2).trans ex),w2.keep hq,dz,S3,h4,fun z mu3 H3 e3 w3 r3=>?_⟩;have r1':=RD.mono ((e2.trans ex).trans e3) _ _ r1;obtain⟨a',us,ea,hm,ha,dr⟩:=JL w3 h5 r1';cases ea
  have hpt:H3 q=some (.tup vs):=(e3.keep q _ Zv (w2.fresh hq)).1;rw[Jt h6 r2] at hpt;refine⟨valV us ks,DGet.t ha hpt,?_⟩;exact kk _ mu3 H3 (((e1.trans e2).trans ex).trans e3) w3 (dr.val r3)
 ·cases hg
end
section
variable {X:Cx}{T:Tab}{W k:Nat}{nm:List (Str×NameKind)}{c:Cl}{pins:zPn}{σ:St}{H:Hp}{s:Shared}{mu:List Addr}{S:Sto}
theorem Zem(w:WR X.K mu H S)(h:dtRd S (.ref n)=some kvs)(r:RD X.K mu H (.ref n) v):∃ a us,v=.ref a/\mu[n]?=some a/\Rd H a (.dT us)/\DRel X.K mu H kvs us:=by
 replace h:(match S[n]? with
  |some (.dt kvs)=>some kvs
  |some (.dtf kvs)=>some kvs
  |_=>none)=some kvs:=h
 dsimp only[RD] at r;obtain⟨a,e,rfl⟩:=r;cases q9:S[n]? with
 |none=>rw[q9] at h;cases h
 | some ob=>
  rw[q9] at h;cases ob with
  |lst _=>cases h
  |dk _=>cases h
  |ins _ _=>cases h
  | dt l=>
   cases h
   obtain⟨b,e1,us,e2,r⟩:=w.get q9;rw[e] at e1;cases e1
   exact⟨a,us,rfl,e,.inl e2,r⟩
  | dtf l=>
   cases h
   obtain⟨b,e1,o,us,e2,r⟩:=w.get q9;rw[e] at e1;cases e1
   exact⟨a,us,rfl,e,.inr ⟨o,e2⟩,r⟩
theorem DRel.valS{κ:Type}[DecidableEq κ]{K:Frag}{k:κ}{d:D}:∀ {kvs:List (κ×D)}{us:List (κ×V)},DRel K mu H kvs us->valD kvs k=some d->∃ v,valV us k=some v/\RD K mu H d v
 |[],us,h,e=>by simp[valD] at e
 | p::kvs,us,h,e=>by
  obtain⟨q,r,rfl,e1,hq,t⟩:=h.cases_cons;by_cases hk:p.1=k
  ·have:valD (p::kvs) k=some p.2:=by simp[valD,find?_cons,hk]
   rw[this] at e;cases e
   exact⟨q.2,Jl (e1.trans hk),hq⟩
  ·have:valD (p::kvs) k=valD kvs k:=by simp[valD,find?_cons,hk]
   rw[this] at e;obtain⟨v,h1,h2⟩:=DRel.valS t e;exact⟨v,by rw[Jm (fun z=>hk (e1.symm.trans z))];exact h1,h2⟩
theorem Zf4(hu:X.A.units+1<cLine){a i:Expr}{pos:Pos}{xa xi:Ex}(ha:PE X a (tE X.K (ev c xa)))(hi:PE X i (tE X.K (ev c xi)))(hp:Yb i=true):PE X (.Subscript a i pos) (tE X.K (ev c (.subK xa xi))):=by
 intro pins s σ H Q I ⟨mu,env,S,he,hw,d,S',hf,k⟩;dsimp only[ev] at hf;obtain⟨da,S1,h1,hf⟩:=bP hf;obtain⟨db,S2,h2,hf⟩:=bP hf;dsimp only at hf;cases db with
 | tup ks=>
  dsimp only at hf;split at hf
  ·rename_i hz;obtain⟨kvs,h3,hf⟩:=bO hf;obtain⟨kk,h4,hf⟩:=bO hf;obtain⟨d',h5,e⟩:=bM hf;cases e
   obtain⟨n,rfl⟩:∃ n,da=.ref n:=by
    cases da with
    |ref n=>exact⟨n,rfl⟩
    |_=>cases h3
   refine ZdX hu ha hi (fun _ _=>by cases i<;>first | rfl | (exact absurd hp (show ¬ (false=true) from oAg))) pins s σ H Q I ⟨mu,env,S,he,hw,_,S1,h1,fun x mu1 H1 e1 w1 r1=>⟨mu1,env,S1,he.mono e1,w1,_,S',h2,fun y mu2 H2 e2 w2 r2=>?_⟩⟩
   obtain⟨b,xs,rfl,nb,hb,rs⟩:=r2.tup3_at hz;obtain⟨ad,us,rfl,hm,hd,dr⟩:=Zem w2 h3 (RD.mono e2 _ _ r1);rw[Jt h4 rs] at hb;obtain⟨v,hv,rv⟩:=dr.valS h5;refine⟨ad,v,rfl,.inr ⟨us,kk,b,hd,rfl,hb,hv.symm⟩,k v mu2 H2 (e1.trans e2) w2 rv⟩
  ·cases hf
 |_=>cases hf
theorem Zf5(hu:X.A.units+1<cLine)(ho:PE X o (tE X.K (ev c xo)))(hi:PE X i (tE X.K (ev c xi)))(hp:Yb i=true):PG X (.Subscript o i pos) (tG X.K (asg c (.subK xo xi))):=by
 intro pins s σ H v u Q I r ⟨mu,env,S,d,he,hw,hd,env',S',hf,q⟩;dsimp only[asg] at hf;obtain⟨da,S1,h1,hf⟩:=bP hf;obtain⟨db,S2,h2,hf⟩:=bP hf;dsimp only at hf;cases da with
 | ref n=>
  cases db with
  | tup ks=>
   dsimp only at hf;cases q9:S2[n]? with
   |none=>simp only[q9] at hf;cases hf
   | some ob=>
    cases ob with
    |lst _=>simp only[q9] at hf;cases hf
    |dk _=>simp only[q9] at hf;cases hf
    |ins _ _=>simp only[q9] at hf;cases hf
    |dtf _=>simp only[q9] at hf;cases hf
    | dt kvs=>
     simp only[q9] at hf;split at hf
     ·rename_i hz;obtain⟨kk,h3,e⟩:=bM hf;cases e
      refine Zbc ho hi (z7 hu) (by intro _;cases i<;>first | rfl | (exact absurd hp (show ¬ (false=true) from oAg))) pins s σ H v u Q I r ?_
      refine⟨mu,env,S,he,hw,_,S1,h1,fun x mu1 H1 e1 w1 r1=>⟨mu1,env,S1,he.mono e1,w1,_,S2,h2,fun y mu2 H2 e2 w2 r2=>?_⟩⟩;obtain⟨b,xs,rfl,nb,hb,rs⟩:=r2.tup3_at hz.1;rw[Jt h3 rs] at hb;obtain⟨a,us,rfl,hm,ha,dr⟩:=JL w2 (show dtOf S2 (.ref n)=some kvs by show (match S2[n]? with | some (.dt kvs)=>some kvs | _=>none)=_;rw[q9]) (RD.mono e2 _ _ r1)
      have hl:us.length=kvs.length:=by have:=congrArg List.length dr.1;simpa using this
      have dp:=dr.put (k:=kk) (RD.mono (e1.trans e2) _ _ hd);have ex:Ext mu2 H2 mu2 (upd H2 a (.dT (putK us kk v))):=Ext.write w2 hm (ZY ha);have dp2:=dp.mono ex;refine .inr ⟨a,_,rfl,DPut.t ha hb (by rw[hl,ZD];exact hz.2),?_⟩
      exact q σ mu2 _ ((e1.trans e2).trans ex) (w2.writeO hm (ZY ha) ⟨_,Zv,dp2.1,dp2.2⟩) (he.mono ((e1.trans e2).trans ex))
     ·cases hf
  |_=>cases hf
 |_=>cases hf
noncomputable def rJoin(K:Frag):V->List V->Hp->VK->Prop:=fun x xs H Q=>∃ z a l,x=.str z/\xs=[.ref a]/\SqL K H a (l.map V.str)/\YQ z l=true/\Q (.str (Str.join z l)) H
theorem Zab:∀ {l:List Str}{its:List Value},Vals (l.map V.str) its->∃ ps:List (Str×Tok),its=strValues ps/\ps.map (·.1)=l
 |[],its,h=>by cases h;exact⟨[],rfl,rfl⟩
 | x::l,its,h=>by
  cases h with
  | cons hx ht=>
   obtain⟨t,rfl⟩:=hx;obtain⟨ps,rfl,e⟩:=Zab ht;exact⟨(x,t)::ps,rfl,by rw[map_cons,e]⟩
theorem Zen:MtR X "str.join" (rJoin X.K):=by
 intro pins s σ H x xs v us Q I rx rv ⟨z,a,l,ex,exs,hq,hf,q⟩;subst ex exs;obtain⟨w1,rfl,rw1⟩:=vals1 rv;obtain⟨t,rfl⟩:=(show ∃ t,v=Value.str z t from rx);cases (show w1=Value.ref a from rw1)
 obtain⟨its,rv',pl,hz⟩:=I.list hq;obtain⟨ps,rfl,e⟩:=Zab rv';unfold YQ at hf;rw[and_eq_true] at hf;obtain⟨hf,hlen⟩:=hf;have hlen:=oAj hlen;have hf':Builtin.Str.tooLong (Array.foldl (fun n y=>n+y.length+z.length) 0 (ps.map (·.1)).toArray)=false:=by
  rw[e];simpa using hf
 refine call_meets PySem.F.slot_str_join (typeIs_str s z t) PySem.F.entry_str_join (PySem.F.args_str_join_2 _ _) (meets_str_join_list z t a ps hf') ⟨pl.isList,?_⟩;have ej:Builtin.Str.glued z (ps.map (·.1))=Str.join z l:=by rw[StrLaws.glued_eq_join,e]
 match ps,e,ej with
 | [],e,ej=>
  refine⟨?_,.str _,H,I.tok _,⟨_,rfl⟩,by rw[ej];exact q⟩
  show (Builtin.Str.glued z []).length<=sizeLine;rw[StrLaws.glued_eq_join];exact zero_le _
 | [p],e,ej=>
  have e2:p.1=Str.join z l:=by rw[<- e];rfl
  exact⟨.str p.1,H,I,⟨p.2,rfl⟩,by rw[e2];exact q⟩
 | p::p2::r,e,ej=>
  refine⟨?_,.str _,H,I.tok _,⟨_,rfl⟩,by rw[ej];exact q⟩
  show (Builtin.Str.glued z _).length<=sizeLine;rw[ej,ZD];exact hlen
theorem Zf6(ha:PE X a (tE X.K (ev c xa)))(hs:notStar a=true)(hl:JW ap pos=true):PE X (.Call (.Attribute (.Constant (.str sep) jj p) "join" ap) [a] [] pos) (tE X.K (ev c (.join sep xa))):=by
 intro pins s σ H Q I ⟨mu,env,S,he,hw,d,S',hf,k⟩;dsimp only[ev] at hf;obtain⟨d0,S1,h1,hf⟩:=bP hf;obtain⟨ds,h2,hf⟩:=bO hf;obtain⟨l,h3,hf⟩:=bO hf;split at hf
 ·rename_i hz;cases hf
  refine Zc8 PySem.F.plainAttrs_str PySem.F.slot_str_join PySem.F.type_str_join Zen (Zbb (X:=X)) (Yu ha JR (Zz hs)) rfl (few1 hs) hl (Zz hs) rfl pins s σ H Q I ⟨rfl,⟨mu,env,S,he,hw,d0,_,h1,fun x2 mu2 H2 e2 w2 r2=>?_⟩⟩;obtain⟨ad,xs,rfl,hq,rs⟩:=Yc w2 h2 r2;obtain⟨ex,_⟩:=Ur h3 rs;subst ex;exact⟨sep,ad,l,rfl,rfl,hq,hz,k _ mu2 H2 e2 w2 (by dsimp only[RD])⟩
 ·cases hf
theorem ltc:∀ l m:List Nat,Spec.ltCps l m=decide (l<m)
 |[],[]=>by rw[Spec.ltCps];exact(oAh (List.lt_irrefl _)).symm
 |[],y::m=>by rw[Spec.ltCps];exact(oAi (List.nil_lt_cons _ _)).symm
 |x::l,[]=>by rw[Spec.ltCps];exact(oAh (by simp)).symm
 | x::l,y::m=>by
  rw[Spec.ltCps,ltc l m,Bool.eq_iff_iff,or_eq_true,and_eq_true,decide_eq_true_iff,decide_eq_true_iff,decide_eq_true_iff,List.cons_lt_cons_iff,beq_iff_eq]
theorem WO:∀ (x:Str) (r:List Str),risingS x r=true->(x::r).Pairwise fun a b=>TS.sLt b a=false
 |x,[],_=>List.pairwise_singleton _ _
 | x,y::r,h=>by
  rw[risingS,and_eq_true,ltc] at h;have ih:=WO y r h.2;have hyx:TS.sLt y x=false:=by have:=h.1;rw[not_eq_true'] at this;exact this
  rw[pairwise_cons];refine⟨fun z hz=>?_,ih⟩
  rcases List.mem_cons.1 hz with e | hz
  ·subst e;exact hyx
  ·have hzy:=(List.pairwise_cons.1 ih).1 z hz;cases q:TS.sLt z x with
   |false=>rfl
   | true=>
    cases q2:TS.sLt x y with
    |true=>rw[TS.V1 q q2] at hzy;cases hzy
    |false=>rw[TS.JT hyx q2] at hzy;rw[q] at hzy;cases hzy
theorem ZcK(h:sortedS l=true):l.Pairwise fun a b=>TS.sLt b a=false:=by
 cases l with
 |nil=>exact .nil
 |cons x r=>exact WO x r h
theorem US(x:Str):∀ l,(insS x l).Perm (x::l)
 |[]=>.refl _
 | y::r=>by
  rw[insS];split
  ·exact((US x r).cons y).trans (List.Perm.swap x y r)
  ·exact .refl _
theorem Jc:∀ l,(YK l).Perm l
 |[]=>.refl _
 |x::r=>by rw[YK];exact(US x _).trans ((Jc r).cons x)
theorem Vz(x:Str):∀ l:List Str,(l.Pairwise fun a b=>TS.sLt b a=false)->(insS x l).Pairwise fun a b=>TS.sLt b a=false
 |[],_=>by rw[insS];exact List.pairwise_singleton _ _
 | y::r,h=>by
  rw[insS];rw[pairwise_cons] at h;split
  ·rename_i hy;rw[pairwise_cons];refine⟨fun z hz=>?_,Vz x r h.2⟩
   rcases List.mem_cons.1 ((US x r).mem_iff.1 hz) with rfl | hz
   ·cases q:TS.sLt z y with
    |false=>rfl
    |true=>have:=TS.V1 hy q;rw[TS.zT] at this;cases this
   ·exact h.1 z hz
  ·rename_i hy;have hy':TS.sLt y x=false:=by simpa using hy
   rw[pairwise_cons,pairwise_cons];refine⟨fun z hz=>?_,h.1,h.2⟩
   rcases List.mem_cons.1 hz with rfl | hz
   ·exact hy'
   ·cases q:TS.sLt z x with
    |false=>rfl
    | true=>
     have hzy:=h.1 z hz;cases q2:TS.sLt x y with
     |true=>rw[TS.V1 q q2] at hzy;cases hzy
     |false=>rw[TS.JT hy' q2,q] at hzy;cases hzy
theorem UT:∀ l,(YK l).Pairwise fun a b=>TS.sLt b a=false
 |[]=>List.Pairwise.nil
 |x::r=>by rw[YK];exact Vz x _ (UT r)
theorem WP:∀ {l m:List Str},l.Perm m->(l.Pairwise fun a b=>TS.sLt b a=false)->(m.Pairwise fun a b=>TS.sLt b a=false)->l=m
 |[],m,p,_,_=>(List.Perm.nil_eq p)
 |x::l,[],p,_,_=>absurd p.length_eq (by simp)
 | x::l,y::m,p,h,g=>by
  rw[pairwise_cons] at h g;have e:x=y:=by
   have hx:x∈y::m:=p.mem_iff.1 (oAn ..);have hy:y∈x::l:=p.mem_iff.2 (oAn ..)
   rcases List.mem_cons.1 hx with e | hx
   ·exact e
   ·rcases List.mem_cons.1 hy with e | hy
    ·exact e.symm
    ·exact TS.JT (g.1 x hx) (h.1 y hy)
  subst e;rw[WP (List.Perm.cons_inv p) h.2 g.2]
theorem qT:∀ {l:List Str}{its:List Value},Vals (l.map V.str) its->SX.TxV its l
 |[],its,h=>by cases h;exact .nil
 | x::l,its,h=>by
  cases h with
  |cons hx ht=>exact .cons hx (qT ht)
theorem qU:∀ {l:List Str}{its:List Value},SX.TxV its l->Vals (l.map V.str) its
 |[],its,h=>by cases h;exact .nil
 | x::l,its,h=>by
  cases h with
  |cons hx ht=>exact .cons hx (qU ht)
theorem ZbN(I:Inv X pins σ H s):Inv X pins σ H { s with drawn:=d' }:=
 I.step (g':=s.gens) (d':=d') (t':=s.toks) (ch:=[]) (fun _ z=>nomatch z) (fun b o _ _ _ e _=>e) (fun b o _ _ _ e _=>⟨o.slots,e⟩) (fun _ _ _ _ n=>n) (fun b o _ e=>⟨o,e⟩) (fun _ _ e=>e) (fun _ _ _ e=>e) (fun b ps e=>⟨#[],by rw[e];simp⟩) (fun m hm=>hm) I.hok I.bare
theorem Zf7{a:Expr}{p p2 pos pos2:Pos}{xa:Ex}(ok:XOk X T W k nm)(hg:X.env.scope.names.lookup ("sorted":Str)=some .globalImplicit)(hg2:X.env.scope.names.lookup ("set":Str)=some .globalImplicit)(hs:notStar a=true)
  (ha:PE X a (tE X.K (ev c xa))):PE X (.Call (.Name "sorted" p) [.Call (.Name "set" p2) [a] [] pos2] [] pos) (tN X.K (evL c (.sset xa))):=by
 intro pins s σ H Q I ⟨mu,env,S,he,hw,d,S',h,k⟩;dsimp only[evL] at h;obtain⟨d1,S1,h1,h⟩:=bP h;obtain⟨ds,h2,h⟩:=bO h;obtain⟨l,h3,h⟩:=bO h;split at h
 ·rename_i hlen;cases h
  have m1:("sorted":Str)∈blts:=by decide +kernel
  have m2:("set":Str)∈blts:=by decide +kernel
  refine wpAny_Call_Name_kw (Ji I hg (ok.bl _ m1) boot_sorted ?_ (by decide) (by decide));refine PyProof.Rows.callWith_builtin1 ?_ rfl rfl;refine Calls.spliced_cons ?_;refine wpAny_Call_Name_kw (Ji I hg2 (ok.bl _ m2) boot_set ?_ (by decide) (by decide));refine PyProof.Rows.callWith_type1 ?_ (Zz hs) rfl;have st:starEach [a] X.env=(false,eval a X.env)::starEach [] X.env:=Zz hs;rw[st];refine Calls.spliced_cons (thn (ha pins s σ H (fun v H1=>∃ mu1,WR X.K mu1 H1 S1/\RD X.K mu1 H1 d1 v/\Ext mu H mu1 H1) I ⟨mu,env,S,he,hw,d1,S1,h1,fun v mu1 H1 e1 w1 r1=>⟨mu1,w1,r1,e1⟩⟩) fun u s1 ⟨x,H1,I1,r1,mu1,w1,rd1,e1⟩=>?_);refine Calls.spliced_nil ?_;obtain⟨ad,xs,rfl,hq,rs⟩:=Yc w1 h2 rd1;cases r1
  obtain⟨ex,_⟩:=Ur h3 rs;subst ex;obtain⟨its,rv,pl,hz⟩:=I1.list hq;have hl0:its.length=l.length:=by have:=rv.length;simpa using this.symm
  refine SX.ZfK (I1.ok.hd ok.calm) pl.isList (qT rv) (by show its.length+1<4096;lia) (fun h' tk hset hkeep=>?_)
  refine Calls.spliced_nil ?_;have I2:Inv X pins σ H1 { s1 with heap:=h',toks:=tk }:=I1.kept (t':=tk) fun b o e=>hkeep b o (oAf e) e;refine SX.ZaJ (I1.ok.hd ok.calm) hset hlen.1 hlen.2.1 (fun q e out ms s' hp tv pm so kp gs os sz=>?_);have em:ms=YK (SX.ddS l):=WP (pm.trans (Jc _).symm) (ZcK so) (UT _);subst em;obtain⟨hh,g,dd,tt,os'⟩:=s';obtain rfl:g=s1.gens:=gs;obtain rfl:os'=s1.os:=os;have I3:Inv X pins σ H1 { s1 with heap:=h',toks:=tk,drawn:=dd }:=ZbN I2;have hpn:H1 q=none:=I2.hok.fresh sz;have I4:Inv X pins σ (upd H1 q (.lst ((YK (SX.ddS l)).map V.str))) { s1 with heap:=hh,toks:=tt,drawn:=dd }:=I3.laid (a:=q) (o:=.lst ((YK (SX.ddS l)).map V.str)) (t':=tt) (fun b o e=>kp b o e) sz ⟨by
   rw[length_map,(Jc _).length_eq,ZD];have:=hlen.2.1;show _<=16777216;lia,out,e,qU tv,hp⟩
  exact⟨.ref q,_,I4,rfl,k _ q mu1 H1 e1 w1 hpn (qS _)⟩
 ·cases h
end
section
variable {X:Cx}{pins:zPn}{σ:St}{H:Hp}{s:Shared}
inductive LD(Y:Cx)(pins:zPn)(ds:Sr)(tn:Nat->Heap->Prop)(fp mu1:List Addr)(H1:Hp)(mu:List Addr)(H:Hp)(g:D->En->Sto->Option (En×Sto))(S':Sto)(n:Nat)(s3:Shared):Prop
 |mk (i:Nat) (σ3:St) (H3:Hp) (mu3:List Addr) (env3:En) (S3:Sto) (a1:Sr.le ds i) (a2:Inv Y pins σ3 H3 s3) (a3:WR Y.K mu3 H3 S3) (a4:ER Y.K mu3 H3 env3 σ3) (a5:tn i s3.heap) (a6:∀ b∈fp,H3 b=none) (a7:Ext mu1 H1 mu3 H3) (a8:Ext mu H mu3 H3) (a9:dcL ds g n i env3 S3=some S')
def Zir(Y:Cx)(mu0:List Addr)(pins:zPn)(emit:Sem Unit)(f:En->Sto->Option (En×Sto)):Prop:=
 ∀ (mu:List Addr) (σ:St) (H:Hp) (s:Shared) (env:En) (S:Sto) (env':En) (S':Sto),(∃ z,mu=mu0++z)->Inv Y pins σ H s->WR Y.K mu H S->ER Y.K mu H env σ->f env S=some (env',S') ->
  wpAny (model Y.prog Y.w) Y.A emit (fun _ s'=>Nz Y Y.K mu H pins S' env' s') Y.xe s
theorem loopD(calm:Y.calm=true)(hxe:∀ e s,¬ Y.xe e s){tn:Nat->Heap->Prop}(T:Turn Y.prog Y.w Y.K tgt J fp it tn)(src:Src Y.K J mu1 H1 ds)
  (okF:∀ {pp:zPn}{H:Hp} (b:Addr),b∈fp->H b=none->(∀ p∈pp,p.1≠b)->FpOk Y pp H b)
  (pF:∀ b∈fp,∀ p∈pins,p.1≠b)(hG:PG Y tgt (tG Y.K fG))
  (hE:∀ pp:zPn,Zir Y mu pp emit fE)(hq:(Code.compLoop e depth (.ref it) (.ref D0) Y.env).quiet=true)
  (hA:Y.A.under (Code.compLoop e depth (.ref it) (.ref D0) Y.env)=Y.A)
  (hden:(model Y.prog Y.w).den (Code.compLoop e depth (.ref it) (.ref D0) Y.env)=(do
   standAt p0
   match<-pyNext (.ref it) with
   |none=>pure (.done .next)
   | some v=>
    letOwnedTupleGo tgt (.ref it) v
    assign tgt Y.env v
    emit
    again (.compLoop e depth (.ref it) (.ref D0) Y.env):Sem PySem.Fin).onRaise (fun x=>do noteFrame x Y.env;theTreesLotGoes x))
  {RR:Result->Shared->Prop}(I0:Inv Y pins σ H s)(w0:WR Y.K mu H S0)(r0:ER Y.K mu H env0 σ)(x0:Ext mu1 H1 mu H)(st0:tn 0 s.heap)(fr0:∀ b∈fp,H b=none)
  (hle:Sr.le ds 0)(hf:dcL ds (fun d e S=>(fG d e S).bind fun q=>fE q.1 q.2) ds.fuel 0 env0 S0=some S')
  (fin:∀ mu' σ' H' s',Ext mu H mu' H'->Inv Y pins σ' H' s'->WR Y.K mu' H' S'->RR (.ok .next) s') :
  codeAny (model Y.prog Y.w) Y.A (.compLoop e depth (.ref it) (.ref D0) Y.env) RR s:=by
 refine codeAny_loop hq (LD Y pins ds tn fp mu1 H1 mu H (fun d e S=>(fG d e S).bind fun q=>fE q.1 q.2) S') ?_ ds.fuel
  ⟨0,σ,H,mu,env0,S0,hle,I0,w0,r0,st0,fr0,x0,.refl,hf⟩
 rintro n s3 ⟨i,σ3,H3,mu3,env3,S3,hi3,I3,w3,r3,st3,fr3,x3,y3,hl3⟩;rw[hA,hden];refine wpAny_noted ?_;refine oAa (wpAny_standAt (oAa ?_));have ok3:∀ {H5:Hp},(∀ b∈fp,H5 b=none)->∀ b∈fp,FpOk Y pins H5 b:=fun {H5} hn b hb=>okF b hb (hn b hb) (fun p hp=>pF b hb p hp);cases n with
 |zero=>dsimp only[dcL] at hl3;cases hl3
 | succ n=>
  dsimp only[dcL] at hl3;obtain⟨od,hod,hl3⟩:=bO hl3;have hsrc:=src mu3 H3 S3 x3 w3 i hi3 od hod;cases od with
  | some dd=>
   obtain⟨hlt,go,yl⟩:=hsrc;obtain⟨env6,S6,hst,hl3⟩:=bP hl3;obtain⟨env4,S4,hg,hst⟩:=bP hst;refine thn (T.item Y rfl rfl rfl calm i pins s3 σ3 H3 _ I3 (ok3 fr3) st3 go) fun r s4 ⟨u,hr,h4'⟩=>?_;subst hr;refine oAa (thn h4' fun _ s5 ⟨x,H5,I5,rx,y5,st5,fr5⟩=>?_);obtain⟨e5,w5,rd5⟩:=yl x H5 y5;have I5p:=I5.pinned (ok3 fr5) (T.obj _ _ st5);refine oAa (oAc (hG _ s5 σ3 H5 x u (fun σ4 H4=>Nx Y.K mu3 H5 H4 S4 fun mu4=>ER Y.K mu4 H4 env4 σ4) I5p rx ⟨mu3,env3,S3,dd,r3.mono e5,w5,rd5,env4,S4,hg,fun σ4 mu4 H4 a b c=>⟨mu4,a,b,c⟩⟩) (fun _ s6 q6=>?_) fun _ _ z=>absurd z (hxe _ _));obtain⟨σ4,H6,I6,mu4,e6,w6,r6⟩:=q6;refine oAa (oAc (hE (pins++ZT fp s5.heap) mu4 σ4 H6 s6 env4 S4 env6 S6 ((y3.trans e5).trans e6).more I6 w6 r6 hst) (fun _ s7 q7=>?_) fun _ _ z=>absurd z (hxe _ _));obtain⟨mu7,σ7,H7,e7,I7,w7,r7⟩:=q7;have hpin:∀ b∈fp,∀ o,s5.heap.get? b=some o->s7.heap.get? b=some o/\H7 b=none:=fun b hb o e=>by
    have:=I7.pin (b,o) (oAu _ (oAu _ (Yt hb e)));exact⟨this.1,this.2.1⟩
   have ext:Ext mu3 H3 mu7 H7:=(e5.trans e6).trans e7;refine oAb ⟨rfl,n,oAs n,i+1,σ7,H7,mu7,env6,S6,hlt,I7.pins_of (fun p hp=>I7.pin p (oAu _ (mem_append_left _ hp))),w7,r7,
    T.keep _ _ _ st5 fun b hb o e=>(hpin b hb o e).1,fun b hb=>?_,x3.trans ext,y3.trans ext,hl3⟩
   obtain⟨o,e,_⟩:=T.obj _ _ st5 b hb;exact(hpin b hb o e).2
  | none=>
   cases hl3
   refine thn (T.done Y rfl rfl rfl calm i pins s3 σ3 H3 _ I3 (ok3 fr3) st3 hsrc) fun r s4 ⟨hr,I4⟩=>?_;subst hr;exact oAb (fin mu3 σ3 H3 s4 y3 I4 w3)
theorem ZbO{kx vx tgt iter:Expr}{scope:Scope}{pos cpos:Pos}{N:List Str}{own:Nat}{caps:List Nat}{fI:En->Sto->Option (Sr×Sto)}{fG:D->En->Sto->Option (En×Sto)}{fE:Nat->En->Sto->Option (En×Sto)}
    {RQ:zVP}(calm:X.calm=true)(cn:YY X scope N own caps)(hi:PI X tgt iter (tI X.K fI))(hs:∀ y,foldedSetIterable iter X.env y=pure y)
    (blk:∀ (C:Addr) (s2:Shared) (H2:Hp) (fp:List Addr) (pins:zPn),PG (Zl X N scope C s2 H2 fp pins) tgt (tG X.K fG)/\∀ (D0:Addr) (n:Nat) (mu0:List Addr),mu0[n]?=some D0 ->
      ∀ (pp:zPn) (mu:List Addr) (σ:St) (H:Hp) (s:Shared) (env:En) (S:Sto) (env':En) (S':Sto),mu[n]?=some D0->Inv (Zl X N scope C s2 H2 fp pins) pp σ H s->WR X.K mu H S->ER X.K mu H env σ->fE n env S=some (env',S') ->
        wpAny (model X.prog X.w) X.A (do
          let kv<-eval kx (Zl X N scope C s2 H2 fp pins).env
          let vv<-holding [kv] (eval vx (Zl X N scope C s2 H2 fp pins).env)
          standAt { line:=kx.pos.line,col:=kx.pos.col,endLine:=vx.pos.endLine,endCol:=vx.pos.endCol }
          holding [kv,vv] (dictSet D0 kv vv)) (fun _ s'=>Nz (Zl X N scope C s2 H2 fp pins) X.K mu H pp S' env' s') (Zl X N scope C s2 H2 fp pins).xe s)
    {pins:zPn}{s:Shared}{σ:St}{H:Hp}(I:Inv X pins σ H s){mu:List Addr}{env:En}{S S2:Sto}(he:ER X.K mu H env σ)(hw:WR X.K mu H S){r:Sr}{S1:Sto}(h1:fI env S=some (r,S1))
    (h2:dcL r (fun d e S=>(fG d e S).bind fun q=>fE S1.length q.1 q.2) r.fuel 0 (ZG own caps env) (S1++[.dt []])=some S2)
    (fin:∀ (s4:Shared) (H3:Hp) (D0 C:Addr) (m:Str->Option Value) (mu3:List Addr),Inv X pins σ H3 s4->s4.heap.Ns C m->FpOk X pins H3 C->Ext mu H mu3 H3->WR X.K mu3 H3 S2->mu3[S1.length]?=some D0 ->
      compPost (model X.prog X.w) X.A X.xe none RQ (.ref D0) C (.ok .next) s4) :
    wpAny (model X.prog X.w) X.A (comprehension (.DictComp kx vx [⟨tgt,iter,[],0⟩] scope pos) scope X.env cpos newDict false (eval iter X.env)) RQ X.xe s:=by
  have hclos:=Uy (env:=X.env) (scope:=scope) (fun p hp hf=>I.ok.has p.1 (.inl (cn.free p hp hf).2));refine wpAny_comprehension_free (use:=none) rfl hs hclos cn.kind cn.loc (thn (hi pins s σ H (fun J H1=>Nx X.K mu H H1 S1 fun mu1=>Src X.K J mu1 H1 r) I ⟨mu,env,S,he,hw,r,S1,h1,fun J mu1 H1 e1 w1 src=>⟨mu1,e1,w1,src⟩⟩) fun v s1 q1=>thn q1 fun itv s2 q2=>?_);obtain⟨it,fp,tn,J,H2,e,I2,T,st2,f2,mu1,e1,w1,src⟩:=q2;subst e;have nD:H2 s2.heap.objs.size=none:=I2.hok.fresh (oAl _);have IA:Inv X pins σ (upd H2 s2.heap.objs.size (.dT [])) { s2 with heap:=s2.heap.push { cls:=.type "dict",data:=.dict #[] },toks:=s2.toks }:=I2.laid (a:=s2.heap.objs.size) (o:=.dT []) (t':=s2.toks) (fun _ _ q=>oAd _ q) (oAl _) (qw s2.heap I2.big);have xA:Ext mu1 H2 (mu1++[s2.heap.objs.size]) (upd H2 s2.heap.objs.size (.dT [])):=Ext.alloc w1 nD;have wA:WR X.K (mu1++[s2.heap.objs.size]) (upd H2 s2.heap.objs.size (.dT [])) (S1++[.dt []]):=w1.allocO nD ⟨[],Zv,rfl,.nil⟩;have hmA:(mu1++[s2.heap.objs.size])[S1.length]?=some s2.heap.objs.size:=by rw[<- w1.len];simp
  have fpOb2:∀ b∈fp,∃ o,s2.heap.get? b=some o:=fun b hb=>by obtain⟨o,ho,_⟩:=T.obj _ _ st2 b hb;exact⟨o,ho⟩
  have fpD:∀ b∈fp,b≠s2.heap.objs.size:=fun b hb=>by obtain⟨o,ho⟩:=fpOb2 b hb;exact oAp (oAf ho)
  have stA:tn 0 (s2.heap.push { cls:=.type "dict",data:=.dict #[] }):=T.keep _ _ _ st2 (fun b hb o e=>oAd _ e);have fA:∀ b∈fp,FpOk X pins (upd H2 s2.heap.objs.size (.dT [])) b:=fun b hb=>by
    obtain⟨g0,g1⟩:=f2 b hb;exact⟨by rw[Zi (fpD b hb)];exact g0,g1⟩
  refine wpAny_newObj_type (wpAny_newFunctionEnv cn.nocell (by intro y hy;simp at hy) (fun h4 hns hsb=>?_) cn.kind)
  dsimp only at hns hsb ⊢;generalize hD0:s2.heap.objs.size=D0 at IA xA wA hmA fpD fA nD ⊢;generalize hP:s2.heap.push { cls:=.type "dict",data:=.dict #[] }=P2 at hns hsb IA stA ⊢;generalize hsA:({ s2 with heap:=P2,toks:=s2.toks }:Shared)=sA at IA;have hAh:sA.heap=P2:=by rw[<- hsA]
  generalize hHA:upd H2 D0 (.dT [])=HA at IA xA wA fA;have below:∀ b o,P2.get? b=some o->b≠P2.objs.size:=fun b o e=>oAp (oAf e);have old:∀ b o,sA.heap.get? b=some o->h4.get? b=some o:=fun b o e=>by
    rw[hAh] at e;exact hsb.extBut b o (below b o e) (oAd _ e)
  have fpOb:∀ b∈fp,∃ o,sA.heap.get? b=some o:=fun b hb=>by
    obtain⟨o,ho⟩:=fpOb2 b hb;exact⟨o,by rw[hAh,<-hP];exact oAd _ ho⟩
  have hCle:sA.heap.objs.size<=P2.objs.size:=by rw[hAh];exact oAl _
  have fpC:∀ b∈fp,b≠P2.objs.size:=fun b hb=>by obtain⟨o,ho⟩:=fpOb b hb;rw[hAh] at ho;exact below b o ho
  have IY:Inv (Zl X N scope P2.objs.size sA HA fp pins) [] (Y1 own caps σ) HA { sA with heap:=h4,toks:=sA.toks+([]:List (Str×Value)).length }:=WN cn IA fA fpOb hCle hns old;obtain⟨bG,bE⟩:=blk P2.objs.size sA HA fp pins;have okB:∀ {pp:zPn}{H3:Hp} (b:Addr),b∈fp->H3 b=none->(∀ p∈pp,p.1≠b)->FpOk (Zl X N scope P2.objs.size sA HA fp pins) pp H3 b:=fun {pp H3} b hb hn hp=>by
    obtain⟨f0,f1,f3,f4,f5,f6⟩:=fA b hb;refine⟨hn,fpC b hb,fun z=>?_,.inl hb,fun x c e=>f5 x c (Ju (fun _ _ z=>by simp at z) e),fun p hpp=>?_⟩
    · rcases List.mem_cons.1 (IA.stkSub b z) with z | z
      · exact f1 z
      · exact f3 z
    · have hpp':p∈(X.pn++pins)++pp:=hpp
      rcases List.mem_append.1 hpp' with z | z
      · exact f6 p z
      · exact hp p z
  have loop:∀ s4:Shared,s4={ sA with heap:=h4,toks:=sA.toks+([]:List (Str×Value)).length } ->
      codeAny (model X.prog X.w) X.A (.compLoop (.DictComp kx vx [⟨tgt,iter,[],0⟩] scope pos) 0 (.ref it) (.ref D0) (compEnvC scope (clOf X.env scope.names []) P2.objs.size X.env))
        (compPost (model X.prog X.w) X.A X.xe none RQ (.ref D0) P2.objs.size) s4:=by
    rintro s4 rfl;refine loopD (Y:=Zl X N scope P2.objs.size sA HA fp pins) (D0:=D0) (fG:=fG) (fE:=fE S1.length) (S':=S2) (pins:=[]) (emit:=(do
          let kv<-eval kx (Zl X N scope P2.objs.size sA HA fp pins).env
          let vv<-holding [kv] (eval vx (Zl X N scope P2.objs.size sA HA fp pins).env)
          standAt { line:=kx.pos.line,col:=kx.pos.col,endLine:=vx.pos.endLine,endCol:=vx.pos.endCol }
          holding [kv,vv] (dictSet D0 kv vv))) calm (fun _ _ z=>z) T (fun mu H S e=>src mu H S (xA.trans e)) okB (fun b hb p hp=>by simp at hp) bG
      (fun pp mu5 σ5 H5 s5 env5 S5 env6 S6 hm5 I5 w5 r5 hst=>bE D0 S1.length _ hmA pp mu5 σ5 H5 s5 env5 S5 env6 S6 (by obtain⟨z,rfl⟩:=hm5;exact(getElem?_append_left (List.getElem?_eq_some_iff.1 hmA).1).trans hmA) I5 w5 r5 hst) (p0:=iter.pos) rfl rfl ?_
      IY wA (z9 (he.mono (e1.trans xA))) .refl (T.keep _ _ _ stA (fun b hb o e=>old b o (by rw[hAh];exact e))) (fun b hb=>(fA b hb).1) (by cases r<;>first | exact zero_le _ | exact trivial) h2 ?_
    · rfl
    · intro mu3 σ3 H3 s4 x3 I4 w3;obtain⟨m4,hn4,_⟩:=I4.loc;have ub:Un (frs X.stack) fp HA H3 sA.heap s4.heap:=I4.base;have nC:H3 P2.objs.size=none:=I4.free;have bare4:=I4.bare;have os4:s4.os=sA.os:=I4.os;have J9:Inv X pins σ H3 s4:=by
        obtain⟨hh,g,dd,tt,os'⟩:=s4;obtain rfl:os'=sA.os:=os4;exact Inv.call (s:=sA) (h':=hh) (g':=g) (d':=dd) (t':=tt) (ch:=fp) IA ub I4.hok bare4 (fun b hb=>⟨(fA b hb).2.2.2.1,(fA b hb).2.1,(fA b hb).2.2.2.2.1,(fA b hb).2.2.2.2.2⟩)
      exact fin s4 H3 D0 P2.objs.size m4 mu3 J9 hn4 (IA.fpOk hCle nC) ((e1.trans xA).trans x3) w3 (x3.get hmA)
  have e4:({ s2 with heap:=h4,toks:=s2.toks+([]:List (Str×Value)).length }:Shared)={ sA with heap:=h4,toks:=sA.toks+([]:List (Str×Value)).length }:=by rw[<- hsA]
  exact codeAny_compStart_dict (loop _ e4) (T.self _ 0 _ _ _ (T.keep _ _ _ stA (fun b hb o e=>old b o (by rw[hAh];exact e))) (loop _ e4))
end
section
variable {X:Cx}{T:Tab}{W k:Nat}{nm:List (Str×NameKind)}{c:Cl}
theorem ZbP{A:Around}{E:zVP}{pins:zPn}{σ:St}{H:Hp}{s:Shared}{a b:Addr}{kvs:List (List Key×V)}{k:List Key}{v:V}{r:Value}{Q:Unit->Shared->Prop}(hu:A.units+1<cLine)(I:Inv X pins σ H s)(e:H a=some (.dT kvs))(eb:H b=some (.tup (k.map kV)))(l:kvs.length<sizeLine)(rv:RelV v r)
  (h:∀ s',Inv X pins σ (upd H a (.dT (putK kvs k v))) s'->Q () s'):wpAny (model X.prog X.w) A (dictSet a (.ref b) r) Q E s:=by
 obtain⟨z,hd,xs,rel,dd⟩:=Zda I.hok e;have hz:xs.length<=sizeLine:=by rw[<- Paired.length rel];exact z
 have hl:(putK kvs k v).length<=sizeLine:=by have:=JP kvs k v;lia
 refine wpAny_dictSet_heap (hsz:=hz) (by show A.units<cLine;lia) (Jn I.hok eb) dd fun h' dd' hs=>h _ ?_
 obtain⟨q,es,ep,hq,h2,h3,h4,_,h5⟩:=dd';refine Wj I (by rw[e];exact True.intro) hs ⟨q,hq⟩ ⟨hl,hd,_,(rel.put k eb rv).keeps fun c ys ec=>?_,q,es,ep,hq,h2,h3,h4,h5⟩
 rw[Zi (JE ec e (fun z=>nomatch z))];exact ec
theorem Zeo{ke:List Expr}{vx tgt iter:Expr}{jj:Nat}{kp pos:Pos}{scope:Scope}{N:List Str}{own:Nat}{caps:List Nat}{t:Tg}{it:Itx}{xs:Exs}{xv:Ex}(ok:XOk X T W k nm)(cn:YY X scope N own caps)(hi:PI X tgt iter (tI X.K (evI c it)))(hs:∀ y,foldedSetIterable iter X.env y=pure y)
  (blk:X.env.scope.kind=.function->∀ (C:Addr) (s2:Shared) (H2:Hp) (fp:List Addr) (pins:zPn),PG (Zl X N scope C s2 H2 fp pins) tgt (tG X.K (fun d e S=>asg c t d e S))/\PA (Zl X N scope C s2 H2 fp pins) ke (tA X.K (fun e S=>evs c xs e S))/\PE (Zl X N scope C s2 H2 fp pins) vx (tE X.K (fun e S=>ev c xv e S))) :
  PE X (.DictComp (.Tuple ke jj kp) vx [⟨tgt,iter,[],0⟩] scope pos) (tE X.K (ev c (.dcomp own caps t it xs xv))):=by
 intro pins s σ H Q I ⟨mu,env,S,he,hw,d,S',hf,kk⟩;dsimp only[ev] at hf;obtain⟨r,S1,h1,hf⟩:=bP hf;dsimp only at hf;obtain⟨S2,h2,e⟩:=bM hf;cases e
 have bk:=blk I.ok.kind;rw[arm_eval_DictComp];refine ZbO (fI:=fun e S=>evI c it e S) (fG:=fun d e S=>asg c t d e S) (fE:=fun n e S=>(evs c xs e S).bind fun kk=>if kk.1.length<=line then (ZW kk.1).bind fun k=>(ev c xv e kk.2).bind fun x=>(match x.2[n]? with
   |some (.dt kvs)=>if kvs.length<line then some (e,x.2.set n (.dt (putD kvs k x.1))) else none
   |_=>none) else none) ok.calm cn hi hs (fun C s2 H2 fp pins=>?_) I he hw h1 h2
  fun s4 H3 D0 C m mu3 J hn fpC e3 w3 hm=>⟨m,hn,fun h5 hs5=>?_⟩
 ·obtain⟨b1,b2,b3⟩:=bk C s2 H2 fp pins;refine⟨b1,fun D0 n mu0 _ pp mu σ H s env S env' S' hm I w r hst=>?_⟩;obtain⟨ds,S3,g1,hst⟩:=bP hst;dsimp only at hst;split at hst
  ·rename_i hz;obtain⟨ks,g2,hst⟩:=bO hst;obtain⟨x,S4,g3,hst⟩:=bP hst;dsimp only at hst;cases q9:S4[n]? with
   |none=>rw[q9] at hst;cases hst
   | some ob=>
    rw[q9] at hst;cases ob with
    | dt kvs=>
     dsimp only at hst;split at hst
     ·rename_i hz2;cases hst
      refine oAa (thn (ql b2 pp s σ H (fun v H1=>∃ b mu1,v=.ref b/\b∉mu1/\H1 b=some (.tup (ks.map kV))/\Ext mu H mu1 H1/\WR X.K mu1 H1 S3) I ⟨mu,env,S,r,w,ds,S3,g1,fun vs mu1 H1 e1 w1 r1=>⟨by rw[ZD,<-r1.length];exact hz,fun b hb=>⟨b,mu1,rfl,w1.fresh hb,by rw[Zv,Jt g2 r1],e1.trans (Ext.new w1 hb),w1.keep hb⟩⟩⟩) fun kv s3 ⟨kw,H1,I1,rk,b,mu1,ek,nb,hb,e1,w1⟩=>?_)
      subst ek;cases rk
      refine oAa (wpAny_holding (thn (b3 pp s3 σ H1 (fun v H2=>Nx X.K mu1 H1 H2 S4 fun mu2=>RD X.K mu2 H2 x v) I1 ⟨mu1,env,S3,r.mono e1,w1,x,S4,g3,fun v mu2 H2 e2 w2 r2=>⟨mu2,e2,w2,r2⟩⟩) fun vv s4 ⟨vw,H2,I2,rv,mu2,e2,w2,r2⟩=>?_));refine oAa (wpAny_standAt (wpAny_holding ?_));obtain⟨a,hma,us,ha,dr⟩:=w2.get q9;have:a=D0:=by
       have:=(e1.trans e2).get hm;rw[hma] at this;exact oAk this
      subst this;have dr:DRel X.K mu2 H2 kvs us:=dr;have hl:us.length=kvs.length:=by have:=congrArg List.length dr.1;simpa using this
      have hb2:=(e2.keep b _ hb nb).1;refine ZbP (X:=Zl X N scope C s2 _ fp pins) (by have:=ok.room.un;show X.A.units+1<cLine;omega) I2 ha hb2 (by rw[hl,ZD];exact hz2) rv fun s' I'=>?_
      have ex:Ext mu2 H2 mu2 (upd H2 a (.dT (putK us ks vw))):=Ext.write w2 hma (ZY ha);have dp2:=(dr.put (k:=ks) r2).mono ex;exact⟨mu2,σ,_,(e1.trans e2).trans ex,I',w2.writeO hma (ZY ha) ⟨_,Zv,dp2.1,dp2.2⟩,r.mono ((e1.trans e2).trans ex)⟩
     ·cases hst
    |_=>cases hst
  ·cases hst
 ·refine⟨.ref D0,_,UR (t':=s4.toks) (ch:=[C]) J (fun b hb=>?_) (fun b o hb e=>hs5.extBut b o (fun z=>hb (by simp[z])) e),rfl,kk _ mu3 H3 e3 w3 ?_⟩
  ·have:b=C:=by simpa using hb
   subst this;exact fpC
  ·dsimp only[RD];exact⟨D0,hm,rfl⟩
end
section
variable {X:Cx}{T:Tab}{W k:Nat}{nm:List (Str×NameKind)}{c:Cl}
theorem Zdi(he:PE X e (tE X.K (ev c x)))(hg:PG X tg (tG X.K (asg c t)))(hc:swapsWithSole [tg] e pos.line X.env=pure false)(hw:swappedStores [tg] e X.env=pure none)(h1:(assignEach [tg] X.env).map (·.2)=[assign tg X.env]) :
  PS X (.Assign [tg] e pos) (tSt X.K (evS c W (.asg t x))):=by
 intro pins s σ H D I ⟨mu,env,S,her,hwr,fl,hf,q⟩;dsimp only[evS] at hf;obtain⟨d,S1,h2,hf⟩:=bP hf;obtain⟨⟨env',S2⟩,h3,e'⟩:=bM hf;cases e'
 refine Zfg he hg hc hw h1 pins s σ H D I ?_;exact⟨mu,env,S,her,hwr,d,S1,h2,fun v mu1 H1 e1 w1 r1=>⟨mu1,env,S1,d,her.mono e1,w1,r1,env',S2,h3,fun σ' mu' H' e2 w2 r2=>q σ' mu' H' (e1.trans e2) w2 r2⟩⟩
theorem star0(h:notStar a=true):(fun (e:Expr)=>match e with | .Starred ..=>true | _=>false) a=false:=by
 cases a<;>first | rfl | (exact absurd h (show ¬ (false=true) from oAg))
theorem star2(ha:notStar a=true)(hb:notStar b=true):([a,b].any fun (e:Expr)=>match e with | .Starred ..=>true | _=>false)=false:=by
 rw[any_cons,any_cons,List.any_nil];have h1:=star0 ha;have h2:=star0 hb;dsimp only at h1 h2 ⊢;rw[h1,h2];rfl
theorem ZcL(ok:XOk X T W k nm)(hk:X.env.scope.kind=.function)(h:V6 nm x y px py a b=true) :
  swappedStores [.Tuple [.Name x px,.Name y py] kt pt] (.Tuple [a,b] k2 pt2) X.env=pure (some [x,y]):=by
 unfold V6 at h;simp only[and_eq_true,decide_eq_true_eq,not_eq_true',decide_eq_false_iff_not] at h;obtain⟨⟨⟨⟨⟨⟨⟨hx,hy⟩,hne⟩,hl⟩,sa⟩,sb⟩,h1⟩,h2⟩:=h;have hbk:X.env.blockKind=.function:=by unfold Env.blockKind;rw[hk];rfl
 have kx:X.env.kindOf x=some .local:=ok.kl x hx;have ky:X.env.kindOf y=some .local:=ok.kl y hy;have ed:([x,y]:List Str).eraseDups=[x,y]:=by
  have e:(y==x)=false:=beq_eq_false_iff_ne.2 (Ne.symm hne);simp[List.eraseDups_cons,e]
 have nn:([Expr.Name x px,Expr.Name y py].filterMap fun
  |.Name id pos=>if X.env.kindOf id==some .local&&pos.line==px.line then some id else none
  |_=>none)=[x,y]:=by
  simp[kx,ky,hl]
 unfold swappedStores;show (if (!((2:Nat)==2||(2:Nat)==3)||(2:Nat) != 2||X.env.blockKind != .function)=true then pure none else _)=_;rw[hbk];rw[if_neg (by decide)];show (if ([a,b].any fun | .Starred ..=>true | _=>false)=true then pure none else _)=_;rw[star2 sa sb];rw[if_neg oAg];show (if ((([Expr.Name x px,Expr.Name y py].filterMap fun
  |.Name id pos=>if X.env.kindOf id==some .local&&pos.line==px.line then some id else none
  |_=>none).length != 2)||(([Expr.Name x px,Expr.Name y py].filterMap fun
  |.Name id pos=>if X.env.kindOf id==some .local&&pos.line==px.line then some id else none
  |_=>none).eraseDups.length != ([Expr.Name x px,Expr.Name y py].filterMap fun
  |.Name id pos=>if X.env.kindOf id==some .local&&pos.line==px.line then some id else none
  |_=>none).length))=true then pure none else _)=_
 rw[nn,ed];rw[if_neg (by simp)];show (if ([a,b].all (foldedForSure 8))=true then pure none else _)=_;rw[h1,if_neg oAg];show (if ([a,b].all (constantsAlone 8))=true then _ else _)=_;rw[h2,if_neg oAg];show (pure (some ([Expr.Name x px,Expr.Name y py].filterMap fun
  |.Name id pos=>if X.env.kindOf id==some .local&&pos.line==px.line then some id else none
  |_=>none)):Sem (Option (List Str)))=_
 rw[nn]
theorem Zis(ok:XOk X T W k nm)(h:V6 nm x y px py a b=true)(hi:slot x X.N=some i)(hj:slot y X.N=some j)
  (ha:PE X a (tE X.K (ev c xa)))(hb:PE X b (tE X.K (ev c xb))):PS X (.Assign [.Tuple [.Name x px,.Name y py] kt pt] (.Tuple [a,b] k2 pt2) pos) (tSt X.K (evS c W (.par i j xa xb))):=by
 intro pins s σ H D I ⟨mu,env,S,her,hwr,fl,hf,q⟩;dsimp only[evS] at hf;obtain⟨d,S1,h2,hf⟩:=bP hf;obtain⟨⟨d2,S2⟩,h3,e'⟩:=bM hf;cases e'
 have hsw:=ZcL (X:=X) (pt:=pt) (pt2:=pt2) (kt:=kt) (k2:=k2) ok I.ok.kind h;unfold V6 at h;simp only[and_eq_true,decide_eq_true_eq,not_eq_true',decide_eq_false_iff_not] at h;obtain⟨⟨⟨⟨⟨⟨⟨hx,hy⟩,hne⟩,hl⟩,sa⟩,sb⟩,h5⟩,h6⟩:=h;have hij:i≠j:=fun e=>by
  subst e;have:=(slot_get hi).symm.trans (slot_get hj);exact hne (oAk this)
 refine Zfh ok.calm ok.nd (slot_get hi) (slot_get hj) hij (ok.kl x hx) (ok.kl y hy) (Yu ha (Yu hb JR (Zz sb)) (Zz sa)) hsw rfl pins s σ H D I ?_;exact⟨mu,env,S,her,hwr,d,S1,h2,fun v mu1 H1 e1 w1 r1=>⟨mu1,env,S1,her.mono e1,w1,d2,S2,h3,fun v2 mu2 H2 e2 w2 r2=>⟨v,v2,rfl,
  q _ mu2 H2 (e1.trans e2) w2 (((her.mono (e1.trans e2)).set i (RD.mono e2 _ _ r1)).set j r2)⟩⟩⟩
theorem qV{α β:Type}{f:α->Option β}:∀ {l:List α},(∃ a∈l,f a=none)->(l.filterMap f).length≠l.length
 |[],h=>by obtain⟨a,ha,_⟩:=h;cases ha
 | a::l,h=>by
  have le:∀ l:List α,(l.filterMap f).length<=l.length:=fun l=>List.length_filterMap_le f l;obtain⟨b,hb,e⟩:=h;cases q:f a with
  |none=>rw[List.filterMap_cons_none q,length_cons];have:=le l;lia
  | some c=>
   rw[List.filterMap_cons_some q,length_cons,length_cons]
   rcases List.mem_cons.1 hb with z | z
   ·subst z;rw[e] at q;cases q
   ·have:=qV ⟨b,z,e⟩;lia
theorem Zep{tes es:List Expr}{k1 k2:Nat}{p1 p2:Pos}(ok:XOk X T W k nm)(h:qP nm tes=true):swappedStores [.Tuple tes k1 p1] (.Tuple es k2 p2) X.env=pure none:=by
 unfold qP at h;unfold swappedStores;show (if (!(tes.length==2||tes.length==3)||es.length != tes.length||X.env.blockKind != .function)=true then pure none else _)=_;split
 ·rfl
 ·rename_i hc;show (if (es.any fun | .Starred ..=>true | _=>false)=true then pure none else _)=_;split
  ·rfl
  ·rw[or_eq_true] at h;have hlen:¬ 4<=tes.length:=fun z=>hc (by
    have a:(tes.length==2)=false:=by simp;omega
    have b:(tes.length==3)=false:=by simp;omega
    rw[a,b];rfl)
   rcases h with h | h
   ·exact absurd (oAj h) hlen
   ·obtain⟨t,ht,hb⟩:=List.any_eq_true.1 h;show (if ((List.filterMap (fun (t:Expr)=>match t with
     |.Name id pos=>if X.env.kindOf id==some .local&&pos.line==((tes.head?.map (·.pos.line)).getD 0) then some id else none
     |_=>none) tes).length != tes.length||_)=true then pure none else _)=_
    rw[if_pos];rw[or_eq_true];refine .inl (bne_iff_ne.2 (qV ⟨t,ht,?_⟩));cases t<;>first | rfl | skip
    rename_i y p;have hk:=ok.kc y (.inl (oAj hb));dsimp only;rw[hk];rfl
theorem Zit(cf:∀ (C:Str) (Ca:Addr),c.fd C x=true->PySem.W.nsIn X.K mainGlobals C=some (some (.ref Ca))->Cls X.K Ca/\Yq X.K Ca x)
  (ho:PE X o (tE X.K (ev c xo)))(he:PE X e (tE X.K (ev c xe)))(hs:swapsWith e (some (.Attribute o x pos')) pos.line X.env=pure false):PS X (.Assign [.Attribute o x pos'] e pos) (tSt X.K (evS c W (.fas xo x xe))):=by
 intro pins s σ H D I ⟨mu,env,S,her,hwr,fl,hf,q⟩;dsimp only[evS] at hf;obtain⟨d,S1,h1,hf⟩:=bP hf;obtain⟨da,S2,h2,hf⟩:=bP hf;cases da with
 | ref n=>
  dsimp only at hf;cases q9:S2[n]? with
  |none=>rw[q9] at hf;cases hf
  | some ob=>
   rw[q9] at hf;cases ob with
   | ins C fs=>
    dsimp only at hf;split at hf
    ·rename_i hc;cases hf
     refine Zfs ho he hs pins s σ H D I ⟨mu,env,S,her,hwr,_,_,h1,fun y mu1 H1 e1 w1 r1=>⟨mu1,env,_,her.mono e1,w1,_,_,h2,fun v mu2 H2 e2 w2 r2=>?_⟩⟩;obtain⟨b,Ca,dx,us,rfl,g1,g2,g3,g4,g5⟩:=qK w2 q9 r2;obtain⟨cc,na⟩:=cf C Ca hc.1 g3;obtain⟨p1,p2⟩:=ZbF (x:=x) g4 g5 (RD.mono e2 _ _ r1);have ex:Ext mu2 H2 mu2 (upd H2 b (.ins Ca dx (putF x y us))):=Ext.write w2 g1 (ZY g2);refine⟨b,Ca,dx,us,rfl,g2,cc,na,by have:=congrArg List.length g4;simp only[length_map] at this;lia,?_⟩
     exact q σ mu2 _ ((e1.trans e2).trans ex) (w2.writeO g1 (ZY g2) ⟨Ca,dx,_,Zv,g3,p1,RDs.mono ex _ _ p2⟩) (her.mono ((e1.trans e2).trans ex))
    ·cases hf
   |_=>cases hf
 |_=>cases hf
theorem p_ex(he:PE X e (tE X.K (ev c x)))(hc:z8 e=true):PS X (.Expr e pos) (tSt X.K (evS c W (.ex x))):=by
 intro pins s σ H D I ⟨mu,env,S,her,hwr,fl,hf,q⟩;dsimp only[evS] at hf;obtain⟨⟨d,S1⟩,h2,e'⟩:=bM hf;cases e'
 refine ZdE he (by cases e<;>first | rfl | (exact absurd hc (show ¬ (false=true) from oAg))) pins s σ H D I ?_
 exact⟨mu,env,S,her,hwr,d,S1,h2,fun v mu1 H1 e1 w1 r1=>q σ mu1 H1 e1 w1 (her.mono e1)⟩
theorem Ziu(he:PE X e (tE X.K (ev c x))):PS X (.Return (some e) pos) (tSt X.K (evS c W (.ret x))):=by
 intro pins s σ H D I ⟨mu,env,S,her,hwr,fl,hf,q⟩;dsimp only[evS] at hf;obtain⟨⟨d,S1⟩,h2,e'⟩:=bM hf;cases e'
 exact Zfe he pins s σ H D I ⟨mu,env,S,her,hwr,d,S1,h2,fun v mu1 H1 e1 w1 r1=>q v mu1 H1 e1 w1 r1⟩
theorem p_if(ht:PT X t (tT X.K (evT c x)))(ha:PSs X a (tSt X.K (evSs c W xa)))(hb:PSs X b (tSt X.K (evSs c W xb))):PS X (.If t a b pos) (tSt X.K (evS c W (.ifs x xa xb))):=by
 intro pins s σ H D I ⟨mu,env,S,her,hwr,fl,hf,q⟩;dsimp only[evS] at hf;obtain⟨b',S1,h2,hf⟩:=bP hf;refine ZhQ ht ha hb pins s σ H D I ⟨mu,env,S,her,hwr,b',S1,h2,fun mu1 H1 e1 w1=>?_⟩;cases b' with
 |true=>exact⟨mu1,env,S1,her.mono e1,w1,fl,hf,q.ext e1⟩
 |false=>exact⟨mu1,env,S1,her.mono e1,w1,fl,hf,q.ext e1⟩
theorem Ziv:PSs X [] (tSt X.K (evSs c W .nil)):=by
 intro pins s σ H D I ⟨mu,env,S,her,hwr,fl,hf,q⟩;dsimp only[evSs] at hf;cases hf
 exact ZdD pins s σ H D I (q σ mu H .refl hwr her)
theorem Zf8{st:Stmt}{sts:List Stmt}{x:Sm}{xs:Sms}(h1:PS X st (tSt X.K (evS c W x)))(h2:PSs X sts (tSt X.K (evSs c W xs))):PSs X (st::sts) (tSt X.K (evSs c W (.cons x xs))):=by
 intro pins s σ H D I ⟨mu,env,S,her,hwr,fl,hf,q⟩;dsimp only[evSs] at hf;obtain⟨fl1,h3,hf⟩:=bO hf;refine Zcf h1 h2 pins s σ H D I ⟨mu,env,S,her,hwr,fl1,h3,?_⟩;cases fl1 with
 |nx env1 S1=>exact fun σ' mu' H' e1 w1 r1=>⟨mu',env1,S1,r1,w1,fl,hf,q.ext e1⟩
 |rt d S1=>cases hf;exact q
 |bk d S1=>cases hf;exact q
 |ct d S1=>cases hf;exact q
theorem Ziw(ok:XOk X T W k nm)(hi:PI X tg it (tI X.K (evI c x)))(hs:∀ y,foldedSetIterable it X.env y=pure y)(hg:PG X tg (tG X.K (asg c t)))(hb:PSs X b (tSt X.K (evSs c W xb))) :
  PS X (.For tg it b [] pos) (tSt X.K (evS c W (.fr t x xb))):=by
 intro pins s σ H D I ⟨mu,env,S,her,hwr,fl,hf,q⟩;dsimp only[evS] at hf;obtain⟨r,S1,h2,hf⟩:=bP hf;dsimp only at hf;generalize hstep:(fun d e1 S1=>(asg c t d e1 S1).bind fun q=>evSs c W xb q.1 q.2)=step at hf;refine Zfj ok.po ok.calm hi hg hb hs pins s σ H D I ?_;refine⟨mu,env,S,her,hwr,r,S1,h2,fun J mu1 H1 e1 w1 src=>?_⟩;refine⟨fun i m σ2 H2=>∃ mu2 env2 S2,Ext mu1 H1 mu2 H2/\WR X.K mu2 H2 S2/\ER X.K mu2 H2 env2 σ2/\Sr.le r i/\forL r step m i env2 S2=some fl,
  ⟨r.fuel,mu1,env,S1,.refl,w1,her.mono e1,by cases r<;>first | exact zero_le _ | exact trivial,hf⟩,?_⟩
 rintro i m σ2 H2 ⟨mu2,env2,S2,e2,w2,r2,hi2,hl⟩;cases m with
 |zero=>dsimp only[forL] at hl;cases hl
 | succ m=>
  dsimp only[forL] at hl;obtain⟨od,hod,hl⟩:=bO hl;have hsrc:=src mu2 H2 S2 e2 w2 i hi2 od hod;cases od with
  | some dd=>
   right
   obtain⟨hlt,go,yl⟩:=hsrc;refine⟨go,fun σ' H'=>∃ mu3 env3 S3,Ext mu1 H1 mu3 H'/\WR X.K mu3 H' S3/\ER X.K mu3 H' env3 σ'/\forL r step m (i+1) env3 S3=some fl,?_,fun v H3 hy=>?_⟩
   ·rintro σ' H' ⟨mu3,env3,S3,e3,w3,r3,hl3⟩;exact⟨m,oAs m,mu3,env3,S3,e3,w3,r3,hlt,hl3⟩
   ·obtain⟨e3,w3,rd⟩:=yl v H3 hy;dsimp only at hl;cases hst:step dd env2 S2 with
    |none=>rw[hst] at hl;cases hl
    | some fl1=>
     rw[hst] at hl;rw[<- hstep] at hst;obtain⟨env4,S4,h5,h6⟩:=bP hst;refine⟨mu2,env2,S2,dd,r2.mono e3,w3,rd,env4,S4,h5,fun σ5 mu5 H5 e5 w5 r5=>⟨mu5,env4,S4,r5,w5,fl1,h6,?_⟩⟩;have e15:Ext mu1 H1 mu5 H5:=(e2.trans e3).trans e5;cases fl1 with
     |nx env6 S6=>exact fun σ6 mu6 H6 e6 w6 r6=>⟨mu6,env6,S6,e15.trans e6,w6,r6,hl⟩
     |ct env6 S6=>exact fun σ6 mu6 H6 e6 w6 r6=>⟨mu6,env6,S6,e15.trans e6,w6,r6,hl⟩
     | bk env6 S6=>
      cases hl
      exact fun σ6 mu6 H6 e6 w6 r6=>q σ6 mu6 H6 (e1.trans (e15.trans e6)) w6 r6
     | rt d6 S6=>
      cases hl
      exact fun v6 mu6 H6 e6 w6 r6=>q v6 mu6 H6 (e1.trans (e15.trans e6)) w6 r6
  | none=>
   left
   cases hl
   exact⟨hsrc,q σ2 mu2 H2 (e1.trans e2) w2 r2⟩
end
section
variable {X:Cx}{T:Tab}{W k:Nat}{nm:List (Str×NameKind)}{N:List Str}
theorem plainT(h:PE X e (tE X.K (ev c x)))(hp:∀ whole,isTrue e X.env whole=(do let v<-whole;standAt e.pos;holding [v] (truthy v))):PE X e (tE X.K (ev c x))/\PT X e (tT X.K (evT c x)):=⟨h,Zd7 h hp⟩
theorem oneT(h:PT X a t):PW X (.BoolOp op [a] pos) t:=by
 cases op with
 |And=>exact ZdC h
 |Or=>exact Zfc h
theorem iteT'(ht:PT X t (tT X.K (evT c xt)))(ha:PT X a (tT X.K (evT c xa)))(hb:PT X b (tT X.K (evT c xb))):PT X (.IfExp t a b pos) (tT X.K (evT c (.ite xt xa xb))):=by
 intro pins s σ H Q I ⟨mu,env,S,he,hw,d,S',hf,k⟩;dsimp only[evT,ev] at hf;obtain⟨dz,S5,hf,hz⟩:=bP hf;obtain⟨da,S1,h1,hf⟩:=bP hf;obtain⟨b',h2,hf⟩:=bO hf;obtain⟨b9,hz2,e⟩:=bM hz;cases e
 refine isTrue_IfExp (thn (ht pins s σ H (fun b'' H'=>b''=b'/\∃ mu1,Ext mu H mu1 H'/\WR X.K mu1 H' S1) I ⟨mu,env,S,he,hw,b',S1,Yi h1 h2,fun mu1 H1 e1 w1=>⟨rfl,mu1,e1,w1⟩⟩) fun b'' s1 ⟨H1,I1,q1⟩=>?_);obtain⟨rfl,mu1,e1,w1⟩:=q1;cases b'' with
 |true=>exact ha pins s1 σ H1 Q I1 ⟨mu1,env,S1,he.mono e1,w1,_,_,Yi hf hz2,fun mu' H' e w=>k mu' H' (e1.trans e) w⟩
 |false=>exact hb pins s1 σ H1 Q I1 ⟨mu1,env,S1,he.mono e1,w1,_,_,Yi hf hz2,fun mu' H' e w=>k mu' H' (e1.trans e) w⟩
theorem UU{env:Env}:∀ {names:List (Str×NameKind)}{x:Str}{k':NameKind},k'≠.free->names.lookup x=some k' ->
  (names.map fun (n,k)=>if (k==NameKind.free&&env.scope.kind==.function&&env.kindOf n==some .cell) then (n,NameKind.cell) else (n,k)).lookup x=some k'
 |[],x,k',_,h=>by simp at h
 | (n,k)::r,x,k',hk,h=>by
  have ih:=@UU env r x k' hk;show List.lookup x ((if (k==NameKind.free&&env.scope.kind==.function&&env.kindOf n==some .cell)=true then (n,NameKind.cell) else (n,k))::_)=_;cases q:x==n with
  | true=>
   simp only[lookup_cons,q] at h;cases h
   have z:(k==NameKind.free)=false:=by simpa using hk
   rw[if_neg (by rw[z,Bool.false_and,Bool.false_and];exact oAg)]
   simp only[lookup_cons,q]
  | false=>
   simp only[lookup_cons,q] at h;by_cases z:(k==NameKind.free&&env.scope.kind==.function&&env.kindOf n==some .cell)=true
   ·rw[if_pos z];simp only[lookup_cons,q];exact ih h
   ·rw[if_neg z];simp only[lookup_cons,q];exact ih h
theorem WQ(h:YL N nm scope=true):scope.kind=.function/\(∀ p∈scope.names,p.2≠.cell/\scope.names.lookup p.1=some p.2)/\(Z1 scope).Nodup /\
  ∀ y∈YV scope,(nm.lookup y=some .cell\/nm.lookup y=some .free)/\∃ i,slot y N=some i:=by
 unfold YL at h;simp only[and_eq_true,decide_eq_true_eq,all_eq_true,or_eq_true] at h;obtain⟨⟨⟨h1,h2⟩,h3⟩,h4⟩:=h;exact⟨h1,h2,h3,fun y hy=>⟨(h4 y hy).1,Option.isSome_iff_exists.1 (h4 y hy).2⟩⟩
theorem VN:(y,NameKind.free)∈scope.names↔y∈YV scope:=by
 unfold YV;constructor
 ·intro h;exact List.mem_map.2 ⟨(y,.free),List.mem_filter.2 ⟨h,by simp⟩,rfl⟩
 ·intro h;obtain⟨⟨a,b⟩,h1,h2⟩:=List.mem_map.1 h;obtain⟨h3,h4⟩:=List.mem_filter.1 h1;have e:b=.free:=by simpa using h4
  subst e;cases h2
  exact h3
theorem Zf9(ok:XOk X T W k nm)(h:YL X.N nm scope=true):YY X scope (Z1 scope) (ownN scope).length ((YV scope).map fun y=>(slot y X.N).getD 0):=by
 obtain⟨h1,h2,h3,h4⟩:=WQ h;refine⟨h1,fun p hp=>(h2 p hp).1,fun p hp hl=>by rw[(h2 p hp).2,hl],fun p hp hf=>⟨by rw[(h2 p hp).2,hf],ok.kc _ (h4 p.1 (VN.1 (by obtain⟨a,b⟩:=p;cases hf;exact hp))).1⟩,h3,by simp[Z1],fun j i hj=>?_⟩
 rw[getElem?_map] at hj;obtain⟨y,hy,e⟩:=bM hj;obtain⟨i',hi'⟩:=(h4 y (mem_of_getElem? hy)).2;rw[hi'] at e;cases e
 refine⟨y,?_,slot_get hi',VN.2 (mem_of_getElem? hy)⟩;unfold Z1;rw[getElem?_append_right (by omega)];simpa using hy
theorem Zeq(ok:XOk X T W k nm)(h:YL X.N nm scope=true)(hkind:X.env.scope.kind=.function)(C:Addr)(s2:Shared)(H2:Hp)(fp:List Addr)(pins:zPn):XOk (Zl X (Z1 scope) scope C s2 H2 fp pins) T W k scope.names:=by
 obtain⟨h1,h2,h3,h4⟩:=WQ h;have fr:∀ x,scope.names.lookup x=some .free->(relabel scope X.env).names.lookup x=some .cell:=fun x hx=>Jw hkind hx (ok.kc x (h4 x (VN.1 (Jv hx))).1);have nc:∀ x,scope.names.lookup x≠some .cell:=fun x hx=>(h2 _ (Jv hx)).1 rfl;have lo:∀ x,scope.names.lookup x=some .local->(relabel scope X.env).names.lookup x=some .local:=fun x hx=>lookup_relabel_local hx;refine⟨ok.calm,ok.room,h3,PassesOwn.never,fun x hx=>?_,fun x hx=>?_,fun x hx=>?_,lo,fun x hx=>?_,ok.bl,ok.fs,ok.gs,ok.gd,ok.cf,ok.ms,ok.mk'⟩
 ·rcases hx with hx | hx | hx
  ·exact .inl (lo x hx)
  ·exact absurd hx (nc x)
  ·exact .inr (.inl (fr x hx))
 ·unfold V4 at hx;rw[or_eq_true] at hx
  rcases hx with hx | hx
  ·exact⟨.inl (lo x (oAj hx)),.inr (lo x (oAj hx))⟩
  ·exact absurd (oAj hx) (nc x)
 ·exact UU (by decide) hx
 ·rcases hx with hx | hx
  ·exact absurd hx (nc x)
  ·exact fr x hx
theorem Zix(hs:notStar f=true)(hl:JW ap pos=true)(hb:baseOk o=true):M2 X o "get" ap (.Tuple ks jj pp) f pos:=by
 have e:starEach [.Tuple ks jj pp,f] X.env=[(false,eval (.Tuple ks jj pp) X.env),(false,eval f X.env)]:=by
  show (false,eval (.Tuple ks jj pp) X.env)::starEach [f] X.env=_;rw[Zz hs];rfl
 refine⟨UQ hb,?_,hl,?_⟩
 ·rw[e];rfl
 ·rw[e];rfl
structure RX(X:Cx)(T:Tab)(W k:Nat)(nm:List (Str×NameKind))(N:List Str):Prop where
 ok:XOk X T W k nm
 n:X.N=N
abbrev PP(X:Cx)(c:Cl)(e:Expr)(x:Ex):Prop:=PE X e (tE X.K (ev c x))/\PT X e (tT X.K (evT c x))
abbrev PB(X:Cx)(c:Cl)(e:Expr)(x:Ex):Prop:=PE X e (tE X.K (ev c x))/\PW X e (tT X.K (evT c x))
abbrev AA(X:Cx)(c:Cl)(es:List Expr)(xs:Exs):Prop:=PA X es (tA X.K (evs c xs))/\(es=[]->xs=.nil)
abbrev II(X:Cx)(c:Cl)(tg e:Expr)(x:Itx):Prop:=PI X tg e (tI X.K (evI c x))/\∀ y,foldedSetIterable e X.env y=pure y
noncomputable def visK(nm:List (Str×NameKind))(x:Str):Bool:=decide (nm.lookup x=some .local)||decide (nm.lookup x=some .cell)||decide (nm.lookup x=some .free)
section
variable (r:RX X T W k nm N)
include r
theorem Ziy(hn:ZE y=true)(h1:slot y N=some i)(hv:visK nm y=true):PP X (Za T W k) (.Name y pos) (.var i):=by
 refine plainT (Zh9 hn (by rw[r.n];exact h1) (r.ok.kv _ ?_)) (fun _=>rfl)
 unfold visK at hv;rw[or_eq_true,or_eq_true] at hv
 rcases hv with (hv | hv) | hv
 ·exact .inl (oAj hv)
 ·exact .inr (.inl (oAj hv))
 ·exact .inr (.inr (oAj hv))
theorem r_gl(hn:ZE y=true)(hl:nm.lookup y=some .globalImplicit):PP X (Za T W k) (.Name y pos) (.gl y):=by
 refine plainT ?_ (fun _=>rfl);have hg:=r.ok.kg _ hl;intro pins s σ H Q I q;obtain⟨mu,env,S,he,hw,d,S',hf,k'⟩:=id q;dsimp only[ev] at hf;obtain⟨d',hc,_⟩:=bM hf;have hc':T.gls.lookup y=some d':=by cases k<;>exact hc
 obtain⟨u,v,hm,rv,rd⟩:=r.ok.gs y d' hc';exact s_gl hn hg hm rv rd hc pins s σ H Q I q
omit r
theorem Zer(h:(match cc with
        |.none=>some Ex.non
        |.bool b=>some (.bl b)
        |.int i=>some (.int i)
        |.str x=>some (.str x)
        |_=>none)=some x):PP X c (.Constant cc j pos) x:=plainT (Zd8 h) (fun _=>rfl)
section
variable {c:Cl}
theorem Ziz(ha:PP X c a xa)(hb:PP X c b xb):PP X c (.BinOp a op b pos) (.bin op xa xb):=plainT (Zh4 ha.1 hb.1) (fun _=>rfl)
theorem ZiA(ha:PP X c a xa):PP X c (.UnaryOp .Not a pos) (.not xa):=⟨Zh5 ha.1,ZfO ha.2⟩
theorem Zga(h:PB X c (.BoolOp op es pos) x):PP X c (.BoolOp op es pos) x:=⟨h.1,h.2.pt⟩
theorem ZiB(h:PP X c a x):PB X c (.BoolOp op [a] pos) x:=⟨Zfd h.1,oneT h.2⟩
theorem ZiC(h:PP X c a xa)(h2:PB X c (.BoolOp .And (b::es) pos) xb):PB X c (.BoolOp .And (a::b::es) pos) (.and xa xb):=⟨Zh6 h.1 h2.1,ZfP h.2 h2.2⟩
theorem b_or(h:PP X c a xa)(h2:PB X c (.BoolOp .Or (b::es) pos) xb):PB X c (.BoolOp .Or (a::b::es) pos) (.or xa xb):=⟨s_or h.1 h2.1,Zh7 h.2 h2.2⟩
theorem ZiD(ht:PP X c t xt)(ha:PP X c a xa)(hb:PP X c b xb):PP X c (.IfExp t a b pos) (.ite xt xa xb):=⟨Zh8 ht.2 ha.1 hb.1,iteT' ht.2 ha.2 hb.2⟩
theorem ZiE(ha:PP X c a xa):PP X c (.Compare a [.Is] [.Constant .none j p] pos) (.isN xa):=⟨UF (Zdd ha.1) rfl,UO (Zdd ha.1) rfl⟩
theorem Zgb(ha:PP X c a xa):PP X c (.Compare a [.IsNot] [.Constant .none j p] pos) (.notN xa):=⟨UF (ZbC ha.1) rfl,UO (ZbC ha.1) rfl⟩
theorem ZiF(hp:Yb i=true)(ha:PP X c a xa)(hi:PP X c i xi):PP X c (.Subscript a i pos) (.sub xa xi):=plainT (Zia ha.1 hi.1 hp) (fun _=>rfl)
theorem ZiG{a:Expr}{lo hi:Option Expr}{p2 pos:Pos}{xa:Ex}{xl xh:Ox}(ha:PP X c a xa)(hl:PO X lo (tO X.K (evO c xl)))(hh:PO X hi (tO X.K (evO c xh))):PP X c (.Subscript a (.Slice lo hi none p2) pos) (.slc xa xl xh):=plainT (Zii ha.1 hl hh) (fun _=>rfl)
theorem Zgc:PO X none (tO X.K (evO c .no)):=s_no
theorem Zgd(h:PP X c e x):PO X (some e) (tO X.K (evO c (.yes x))):=Zif h.1
theorem ZiH(h:AA X c es xs):PP X c (.Tuple es j pos) (.tup xs):=plainT (Zib h.1) (fun _=>rfl)
theorem r_lv(h:AA X c es xs):PP X c (.List es pos) (.lv (.dsp xs)):=plainT (Uo false (Zde h.1)) (fun _=>rfl)
theorem r_lr(h:AA X c es xs):PP X c (.List es pos) (.lr (.dsp xs)):=plainT (Uo true (Zde h.1)) (fun _=>rfl)
theorem ZiI:AA X c [] .nil:=⟨Zie,fun _=>rfl⟩
theorem Zge(hs:notStar e=true)(h:PP X c e x)(t:AA X c es xs):AA X c (e::es) (.cons x xs):=⟨ZfS h.1 t.1 hs,fun z=>nomatch z⟩
theorem Zgf(hs:∀ y,foldedSetIterable e X.env y=pure y)(h:PP X c e x):II X c tg e (.seq x):=⟨Zip h.1,hs⟩
end
include r
theorem ZiJ(hm:behindInMarks op b=false)(ho:isOp op=false)(ha:PP X (Za T W k) a xa)(hb:PP X (Za T W k) b xb):PP X (Za T W k) (.Compare a [op] [b] pos) (.cmp op xa xb):=by
 have hu:X.A.units+100<cLine:=by have:=r.ok.room.un;omega
 exact⟨UF (s_pc hu ha.1 hb.1) hm,UO (s_pc hu ha.1 hb.1) hm⟩
theorem Zgg(hn:ZE f=true)(hg:nm.lookup f=some .globalImplicit)(hs:es.all notStar=true)(h:AA X (Za T W k) es xs):PP X (Za T W k) (.Call (.Name f p) es [] pos) (.call f xs):=plainT (s_call r.ok hn (r.ok.kg _ hg) hs h.2 h.1) (fun _=>rfl)
theorem ZiK(hf:biOf.lookup f=some b)(hn:ZE f=true)(hg:nm.lookup f=some .globalImplicit)(hs:(e::es).all notStar=true)(h:AA X (Za T W k) (e::es) xs):PP X (Za T W k) (.Call (.Name f p) (e::es) [] pos) (.blt b xs):=plainT (Zij r.ok hn (r.ok.kg _ hg) hf hs h.1) (fun _=>rfl)
theorem Zgh(hf:blOf.lookup f=some b)(hn:ZE f=true)(hg:nm.lookup f=some .globalImplicit)(hs:(e::es).all notStar=true)(h:AA X (Za T W k) (e::es) xs):PP X (Za T W k) (.Call (.Name f p) (e::es) [] pos) (.lv (.blt b xs)):=plainT (Uo false (ZbI r.ok hn (r.ok.kg _ hg) hf hs h.1)) (fun _=>rfl)
theorem ZiL(hu:(Z9.lookup t).isSome=true)(hg:nm.lookup ("isinstance":Str)=some .globalImplicit)(ht:nm.lookup t=some .globalImplicit)(hs:notStar a=true)(ha:PP X (Za T W k) a xa):PP X (Za T W k) (.Call (.Name "isinstance" p) [a,.Name t pt] [] pos) (.isi xa t):=by
 obtain⟨u,hu⟩:=Option.isSome_iff_exists.1 hu;exact plainT (Zig r.ok ha.1 hs (r.ok.kg _ hg) (r.ok.kg _ ht) hu) (fun _=>rfl)
theorem ZiM(hm:mtOf.lookup m=some t)(hs:es.all notStar=true)(hl:JW ap pos=true)(hn:es.length<=8)(hb:baseOk o=true)(ho:PP X (Za T W k) o xo)(ha:AA X (Za T W k) es xs):PP X (Za T W k) (.Call (.Attribute o m ap) es [] pos) (.mth xo t xs):=plainT (Zik hm ho.1 ha.1 ha.2 hs hl hn hb) (fun _=>rfl)
theorem Zgi(hs:notStar f=true)(hl:JW ap pos=true)(hb:baseOk o=true)(ho:PP X (Za T W k) o xo)(hk:AA X (Za T W k) ks xs)(hf:PP X (Za T W k) f xf):PP X (Za T W k) (.Call (.Attribute o "get" ap) [.Tuple ks jj pp,f] [] pos) (.dget xo xs xf):=
 plainT (Zf3 (by have:=r.ok.room.un;omega) ho.1 hk.1 hf.1 (Zix hs hl hb)) (fun _=>rfl)
omit r
include r
theorem Zes(hg:nm.lookup ("range":Str)=some .globalImplicit)(hs:notStar a=true)(h:PP X (Za T W k) a x):II X (Za T W k) tg (.Call (.Name "range" p) [a] [] pos) (.rng1 x):=⟨Zf2 r.ok (r.ok.kg _ hg) hs h.1,fun _=>rfl⟩
theorem Zet(hl:V4 nm x=true)(h1:slot x N=some i):PG X (.Name x pos) (tG X.K (asg (Za T W k) (.name i))):=Zf0 r.ok hl (by rw[r.n];exact h1)
theorem Zgj(hp:Yb i=true)(ho:PP X (Za T W k) o xo)(hi:PP X (Za T W k) i xi):PG X (.Subscript o i pos) (tG X.K (asg (Za T W k) (.sub xo xi))):=Zio (by have:=r.ok.room.un;omega) ho.1 hi.1 hp
omit r
end
end
section
variable {X:Cx}{T:Tab}{W k:Nat}{nm:List (Str×NameKind)}{N:List Str}
noncomputable def ZaL:Tgs->Nat
 |.nil=>0
 |.cons _ ts=>ZaL ts+1
theorem ZbQ{c:Cl}{ts:Tgs}:∀ {ds:List D}{env:En}{S:Sto}{r:En×Sto},asgs c ts ds env S=some r->ds.length=ZaL ts:=by
 intro ds
 induction ds generalizing ts with
 | nil=>
  intro env S r h;cases ts with
  |nil=>rfl
  |cons t ts=>simp[asgs] at h
 | cons d ds ih=>
  intro env S r h;cases ts with
  |nil=>simp[asgs] at h
  | cons t ts=>
   dsimp only[asgs] at h;obtain⟨r1,h5,h2⟩:=bO h;rw[length_cons,ih h2];rfl
theorem Zgk:PGs X [] (tGs X.K (asgs (Za T W k) .nil)):=Zin
theorem Zeu(hs:notStar e=true)(h1:PG X e (tG X.K (asg (Za T W k) t)))(h2:PGs X es (tGs X.K (asgs (Za T W k) ts))):PGs X (e::es) (tGs X.K (asgs (Za T W k) (.cons t ts))):=Zf1 h1 h2 hs
theorem Zgl(r:RX X T W k nm N){es:List Expr}{j:Nat}{pos:Pos}{ts:Tgs}(hs:es.all notStar=true)(hl:es.length=ZaL ts)(h:PGs X es (tGs X.K (asgs (Za T W k) ts))):PG X (.Tuple es j pos) (tG X.K (asg (Za T W k) (.tup ts))):=by
 obtain⟨l1,l2⟩:=Vy (env:=X.env) hs;intro pins s σ H v u Q I rr ⟨mu,env,S,d,he,hw,hd,env',S',hf,q⟩;cases d with
 | tup ds=>
  replace hf:asgs (Za T W k) ts ds env S=some (env',S'):=hf;obtain⟨a,xs,rfl,hq,rs⟩:=hd.tup_at;exact Zff r.ok.calm h l1 l2 pins s σ H _ u Q I rr ⟨a,xs,rfl,hq,by rw[<- rs.length,ZbQ hf,hl],mu,env,S,ds,he,hw,rs,env',S',hf,q⟩
 | lst ds=>
  replace hf:asgs (Za T W k) ts ds env S=some (env',S'):=hf;obtain⟨a,xs,rfl,hq,rs⟩:=hd.lst_at;exact ZfY r.ok.calm h l1 l2 pins s σ H _ u Q I rr ⟨a,xs,rfl,hq,by rw[<- rs.length,ZbQ hf,hl],mu,env,S,ds,he,hw,rs,env',S',hf,q⟩
 |_=>(first | cases hf | (simp[asg] at hf))
theorem ZbR:Y2 X [] (tT X.K (evTs c .nil)):=by
 intro pins s σ H Q I ⟨mu,env,S,he,hw,b,S',hf,q⟩;dsimp only[evTs] at hf;cases hf
 exact wpAny_tests_nil ⟨H,I,q mu H .refl hw⟩
theorem Zgm(h:PP X c e x):Y2 X [e] (tT X.K (evTs c (.cons x .nil))):=by
 intro pins s σ H Q I ⟨mu,env,S,he,hw,b,S',hf,q⟩;refine wpAny_tests_one (h.2 pins s σ H Q I ⟨mu,env,S,he,hw,b,S',?_,q⟩);dsimp only[evTs] at hf;obtain⟨d,S1,h3,hf⟩:=bP hf;obtain⟨t,h4,hf⟩:=bO hf;cases t with
 | true=>
  rw[if_pos rfl] at hf;dsimp only[evTs] at hf
  cases hf
  exact Yi h3 h4
 | false=>
  rw[if_neg oAg] at hf;cases hf
  exact Yi h3 h4
theorem RX.blk(r:RX X T W k nm N)(hc:YL N nm scope=true)(hk:X.env.scope.kind=.function)(C:Addr)(s2:Shared)(H2:Hp)(fp:List Addr)(pins:zPn):RX (Zl X (Z1 scope) scope C s2 H2 fp pins) T W k scope.names (Z1 scope):=
 ⟨Zeq r.ok (by rw[r.n];exact hc) hk C s2 H2 fp pins,rfl⟩
theorem RX.cn(r:RX X T W k nm N)(hc:YL N nm scope=true)(ho:(ownN scope).length=own)(hp:((YV scope).map fun y=>(slot y N).getD 0)=caps):YY X scope (Z1 scope) own caps:=by
 have:=Zf9 r.ok (scope:=scope) (by rw[r.n];exact hc)
 rw[r.n,ho,hp] at this;exact this
structure CR(X:Cx)(T:Tab)(W k:Nat)(elt tgt iter:Expr)(ifs:List Expr)(scope:Scope)(own:Nat)(caps:List Nat)(t:Tg)(it:Itx)(xi:Exs)(xe:Ex):Prop where
 n:YY X scope (Z1 scope) own caps
 i:II X (Za T W k) tgt iter it
 b:X.env.scope.kind=.function->∀ (C:Addr) (s2:Shared) (H2:Hp) (fp:List Addr) (pins:zPn),PG (Zl X (Z1 scope) scope C s2 H2 fp pins) tgt (tG X.K (fun d e S=>asg (Za T W k) t d e S))/\Y2 (Zl X (Z1 scope) scope C s2 H2 fp pins) ifs (tT X.K (fun e S=>evTs (Za T W k) xi e S))/\PE (Zl X (Z1 scope) scope C s2 H2 fp pins) elt (tE X.K (fun e S=>ev (Za T W k) xe e S))
theorem ZiN(r:RX X T W k nm N)(hc:YL N nm scope=true)(ho:(ownN scope).length=own)(hp:((YV scope).map fun y=>(slot y N).getD 0)=caps)(hi:II X (Za T W k) tgt iter it)
  (hb:∀ Y:Cx,RX Y T W k scope.names (Z1 scope)->PG Y tgt (tG Y.K (asg (Za T W k) t))/\Y2 Y ifs (tT Y.K (evTs (Za T W k) xi))/\PP Y (Za T W k) elt xe):CR X T W k elt tgt iter ifs scope own caps t it xi xe:=
 ⟨r.cn hc ho hp,hi,fun hk C s2 H2 fp pins=>by
  obtain⟨a,b,c⟩:=hb _ (r.blk hc hk C s2 H2 fp pins);exact⟨a,b,c.1⟩⟩
theorem Zgn(r:RX X T W k nm N)(cr:CR X T W k elt tgt iter ifs scope own caps t it xi xe)(b:Bool) :
  PP X (Za T W k) (.ListComp elt [⟨tgt,iter,ifs,0⟩] scope pos) (asL b (.comp own caps t it xi xe)):=by
 refine plainT (Uo b ?_) (fun _=>rfl);intro pins s σ H Q I q;have pc:=Zaa (elt:=elt) (tgt:=tgt) (iter:=iter) (ifs:=ifs) (pos:=pos) r.ok.calm cr.n cr.i.1 cr.i.2 (cr.b I.ok.kind);refine pc pins s σ H Q I ?_;obtain⟨mu,env,S,he,hw,d,S',hf,k'⟩:=q;exact⟨mu,env,S,he,hw,d,S',by dsimp only[evL] at hf;exact hf,k'⟩
theorem Zev(r:RX X T W k nm N)(cr:CR X T W k elt tgt iter ifs scope own caps t it xi xe) :
  PP X (Za T W k) (.ListComp elt [⟨tgt,iter,ifs,0⟩] scope pos) (.lv (.comp own caps t it xi xe)):=Zgn r cr false
theorem ZiO(hc:swapsWithSole [tg] e pos.line X.env=pure false)(hw:swappedStores [tg] e X.env=pure none)(h1:(assignEach [tg] X.env).map (·.2)=[assign tg X.env])(he:PP X (Za T W k) e x)(hg:PG X tg (tG X.K (asg (Za T W k) t))):PS X (.Assign [tg] e pos) (tSt X.K (evS (Za T W k) W (.asg t x))):=Zdi he.1 hg hc hw h1
theorem Zgo(r:RX X T W k nm N)(hn:qP nm tes=true)(he:PP X (Za T W k) (.Tuple es k2 p2) x)(hg:PG X (.Tuple tes k1 p1) (tG X.K (asg (Za T W k) t))):PS X (.Assign [.Tuple tes k1 p1] (.Tuple es k2 p2) pos) (tSt X.K (evS (Za T W k) W (.asg t x))):=Zdi he.1 hg rfl (Zep r.ok hn) rfl
theorem Zgp(r:RX X T W k nm N)(hs:Zdh nm y py scope pos=true)(hg:PG X (.Name y py) (tG X.K (asg (Za T W k) t)))(cr:CR X T W k elt tgt iter ifs scope own caps t' it xi xe) :
  PS X (.Assign [.Name y py] (.ListComp elt [⟨tgt,iter,ifs,0⟩] scope pos) spos) (tSt X.K (evS (Za T W k) W (.asg t (.lv (.comp own caps t' it xi xe))))):=by
 intro pins s σ H D I ⟨mu,env,S,her,hwr,fl,hf,q⟩;dsimp only[evS] at hf;obtain⟨d,S1,h2,hf⟩:=bP hf;obtain⟨⟨env',S2⟩,h3,e'⟩:=bM hf;cases e'
 unfold Zdh at hs;rw[and_eq_true,and_eq_true] at hs;have hbk:X.env.blockKind=.function:=by unfold Env.blockKind;rw[I.ok.kind];rfl
 have hsw:swapsWith (.ListComp elt [⟨tgt,iter,ifs,0⟩] scope pos) (some (.Name y py)) spos.line X.env=pure true:=by
  unfold swapsWith;show (pure (X.env.blockKind==.function&&X.env.kindOf y==some .local&&py.line==pos.line&&!(scope.names.any fun (n,k)=>n==y&&(k==.local||k==.cell))):Sem Bool)=_;have ky:X.env.kindOf y=some .local:=r.ok.kl y (oAj hs.1.1);rw[hbk,ky,hs.1.2,hs.2];rfl
 refine Zel (elt:=elt) (tgt:=tgt) (iter:=iter) (ifs:=ifs) (pos:=pos) r.ok.calm cr.n cr.i.1 cr.i.2 (cr.b I.ok.kind) hsw hg pins s σ H D I ?_;dsimp only[ev] at h2;obtain⟨⟨ds,S3⟩,h4,e⟩:=bM h2;cases e
 dsimp only[evL] at h4;refine⟨mu,env,S,her,hwr,ds,_,h4,fun vs p mu1 H1 e1 w1 hp r1=>?_⟩;exact⟨mu1,env,_,_,her.mono (e1.trans (Ext.new w1 hp)),w1.keep hp,qJ w1 hp r1,env',S2,h3,fun σ' mu' H' e2 w2 r2=>q σ' mu' H' ((e1.trans (Ext.new w1 hp)).trans e2) w2 r2⟩
theorem ZiP(r:RX X T W k nm N)(h:V6 nm x y px py a b=true)(hi:slot x N=some i)(hj:slot y N=some j)(ha:PP X (Za T W k) a xa)(hb:PP X (Za T W k) b xb):PS X (.Assign [.Tuple [.Name x px,.Name y py] kt pt] (.Tuple [a,b] k2 pt2) pos) (tSt X.K (evS (Za T W k) W (.par i j xa xb))):=Zis r.ok h (by rw[r.n];exact hi) (by rw[r.n];exact hj) ha.1 hb.1
theorem q_ex(hc:z8 e=true)(he:PP X (Za T W k) e x):PS X (.Expr e pos) (tSt X.K (evS (Za T W k) W (.ex x))):=p_ex he.1 hc
theorem ZiQ(he:PP X (Za T W k) e x):PS X (.Return (some e) pos) (tSt X.K (evS (Za T W k) W (.ret x))):=Ziu he.1
theorem q_if(ht:PP X (Za T W k) t x)(ha:PSs X a (tSt X.K (evSs (Za T W k) W xa)))(hb:PSs X b (tSt X.K (evSs (Za T W k) W xb))):PS X (.If t a b pos) (tSt X.K (evS (Za T W k) W (.ifs x xa xb))):=p_if ht.2 ha hb
theorem ZiR(r:RX X T W k nm N)(hi:II X (Za T W k) tg it x)(hg:PG X tg (tG X.K (asg (Za T W k) t)))(hb:PSs X b (tSt X.K (evSs (Za T W k) W xb))):PS X (.For tg it b [] pos) (tSt X.K (evS (Za T W k) W (.fr t x xb))):=Ziw r.ok hi.1 hi.2 hg hb
end
section
variable {X:Cx}{T:Tab}{W k:Nat}{nm:List (Str×NameKind)}{c:Cl}{pins:zPn}{σ:St}{H:Hp}{s:Shared}{mu:List Addr}{S:Sto}
noncomputable def ItT(d:Addr)(o:Obj)(us:List (List Key×V)):It:=⟨fun i H=>H d=some (.frz o (.dT us))/\i<us.length,fun i H x H'=>H'=H/\∃ b p,x=.ref b/\us[i]?=some p/\H b=some (.tup (p.1.map kV)),fun i H=>H d=some (.frz o (.dT us))/\us.length<=i⟩
theorem WS{α β:Type}{R:α->β->Prop}:∀ {l:List α}{m:List β}{i:Nat}{x:α},Paired R l m->l[i]?=some x->∃ y,m[i]?=some y/\R x y
 |_,_,i,x,.nil,e=>by simp at e
 |_,_,0,x,.cons r _,e=>by simp at e;subst e;exact⟨_,rfl,r⟩
 | _,_,i+1,x,.cons _ t,e=>by
  obtain⟨y,h1,h2⟩:=WS (i:=i) t (by simpa using e);exact⟨y,by simpa using h1,h2⟩
theorem ZbS{d:Addr}{o:Obj}{us:List (List Key×V)}{es:Array DictEntry}{ep:Nat}(hok:HOk X.prog X.w H s.heap)(e:H d=some (.frz o (.dT us)))(hd:o.data=.dict es ep):s.heap.get? d=some o/\es.size=us.length/\∀ (i:Nat) (p:List Key×V),us[i]?=some p->∃ en b,es[i]?=some en/\en.key=.ref b/\H b=some (.tup (p.1.map kV)):=by
 obtain⟨h1,h2⟩:=(show s.heap.get? d=some o/\ZC X.prog X.w H s.heap d (.dT us) from hok d _ e);obtain⟨z,hs,xs,rel,o',es',ep',g1,g2,g3,g4,g5⟩:=h2;rw[h1] at g1;cases g1
 rw[hd] at g3;cases g3
 have hl:es.size=xs.length:=by
  have:=congrArg List.length g4;simpa using this
 refine⟨h1,by rw[hl];exact(Paired.length rel).symm,fun i p hp=>?_⟩
 obtain⟨q,q1,q2⟩:=WS rel hp;refine⟨entryOfKey (tupleKind (ZH X.prog X.w)) q,q.2.1,?_,rfl,?_⟩
 ·rw[<- Array.getElem?_toList,g4,getElem?_map,q1];rfl
 ·rw[q2.2.1]
theorem Zew{P:Program}{w:World}{K:Frag}{tg:Expr}(d it:Addr)(o:Obj)(us:List (List Key×V))(es:Array DictEntry)(ep:Nat)(hd:o.data=.dict es ep)(hz:es.size=us.length):Turn P w K tg (ItT d o us) [it] it (fun i h=>h.IsKeyIter it d i es.size ep) where
 mem:=by simp
 obj:=fun i h st b hb=>by
  have:b=it:=by simpa using hb
  subst this;obtain⟨o,e,c,d⟩:=st;exact⟨o,e,fun v z=>by rw[d] at z;cases z⟩
 keep:=fun i h h' st k=>st.at fun o e=>k it (by simp) o e
 item:=by
  intro X hP hw hK hc i pins s σ H E I hf st hg;subst hP hw hK;obtain⟨f0,f1,f2,f3,f4,f5⟩:=hf it (by simp);obtain⟨h1,_,h3⟩:=ZbS I.hok hg.1 hd;obtain⟨en,b,h4,h5,h6⟩:=h3 i (us[i]'hg.2) (oAt hg.2);refine DI.Zd4 h1 hd st h4 fun h' st' sb=>?_;have I1:Inv X pins σ H { s with heap:=h' }:=I.turned (t':=s.toks) (fun b o hb e=>(sb.2 b hb).trans e) f0 f1 f3 f4 f5;obtain⟨oi,e,c,dd⟩:=id st';refine⟨en.key,rfl,VR (s:={ s with heap:=h' }) e c dd (by decide) ⟨.ref b,H,I1,?_,⟨rfl,b,us[i]'hg.2,rfl,oAt hg.2,h6⟩,st',fun b hb=>(hf b hb).1⟩⟩;rw[h5];rfl
 done:=by
  intro X hP hw hK hc i pins s σ H E I hf st hg;subst hP hw hK;obtain⟨f0,f1,f2,f3,f4,f5⟩:=hf it (by simp);obtain⟨h1,h2,h3⟩:=ZbS I.hok hg.1 hd;exact DI.ZfL (I.ok.hd hc) h1 hd st (by rw[Array.getElem?_eq_none];rw[h2];exact hg.2) fun h' eb=>⟨rfl,I.turned (t':=s.toks) (fun b o hb e=>eb b o hb e) f0 f1 f3 f4 f5⟩
 self:=fun _ _ _ _ _ st h=>wpAny_pyIter_keyiter st h
theorem Inv.freeze(I:Inv X pins σ H s)(e:H d=some (.dT us)):∃ o es ep,s.heap.get? d=some o/\o.ExactDict/\(d==sysModules)=false/\o.data=.dict es ep/\es.size=us.length/\Inv X pins σ (upd H d (.frz o (.dT us))) s:=by
 obtain⟨z,hs,xs,rel,o,es,ep,g1,g2,g3,g4,g5⟩:=(show ZC X.prog X.w H s.heap d (.dT us) from I.hok d _ e);have hl:es.size=us.length:=by
  have:=congrArg List.length g4;rw[Paired.length rel];simpa using this
 refine⟨o,es,ep,g1,g2,hs,g3,hl,?_⟩;have:=I.write (x:=d) (e:=d) (o:=.frz o (.dT us)) (t':=s.toks) (h':=s.heap) (by rw[e];exact True.intro) (.inl rfl) (fun b u _ z=>z) ⟨o,g1⟩ ⟨g1,z,hs,xs,Paired.mapP rel fun p q hq=>⟨hq.1,by rw[Zi (JE hq.2.1 e (fun z=>nomatch z))];exact hq.2.1,hq.2.2⟩,o,es,ep,g1,g2,g3,g4,g5⟩
 exact this
theorem Inv.thaw(I:Inv X pins σ H s)(e:H d=some (.frz o (.dT us)))(hn:∀ o u,X.H₀ d≠some (.frz o u)):Inv X pins σ (upd H d (.dT us)) s:=by
 have nn:∀ b,H b=none->upd H d (.dT us) b=none:=fun b hb=>by rw[Zi (fun z=>by subst z;rw[e] at hb;cases hb)];exact hb
 refine⟨I.ok,I.os,I.bare,⟨I.base.keep,I.base.slot,fun b o' q n hx=>nn b (I.base.free b o' q n hx),I.base.there,fun b xs q=>?_,fun b o' u q=>?_,fun b ps q=>?_⟩,I.loc,I.cell,nn _ I.free,fun x c q=>nn c (I.freeC x c q),fun p hp=>?_,fun b u q=>?_,I.len⟩
 ·have z:=I.base.tups b xs q;rw[Zi (JE z e (fun z=>nomatch z))];exact z
 ·have z:=I.base.frzs b o' u q;rw[Zi (fun w=>by subst w;exact hn o' u q)];exact z
 ·obtain⟨more,z⟩:=I.base.tbls b ps q;exact⟨more,by rw[Zi (JE z e (fun z=>nomatch z))];exact z⟩
 ·obtain⟨p1,p2,p3⟩:=I.pin p hp;exact⟨p1,nn _ p2,p3⟩
 ·by_cases hb:b=d
  ·subst hb;rw[Zv] at q;cases q
   obtain⟨h1,z,hs,xs,rel,rest⟩:=(show s.heap.get? b=some o/\ZC X.prog X.w H s.heap b (.dT us) from I.hok b _ e);exact⟨z,hs,xs,Paired.mapP rel fun p q hq=>⟨hq.1,by rw[Zi (JE hq.2.1 e (fun z=>nomatch z))];exact hq.2.1,hq.2.2⟩,rest⟩
  ·rw[Zi hb] at q;refine(I.hok b u q).stay (fun c v hc q=>q) (fun c q=>by rw[Zi (JE q e (fun z=>nomatch z))];exact q) fun c xs q=>by rw[Zi (JE q e (fun z=>nomatch z))];exact q
structure Ext0(mu:List Addr)(H:Hp)(mu':List Addr)(H':Hp):Prop where
 more:∃ z,mu'=mu++z
 keep:∀ a o,H a=some o->a∉mu->H' a=some o/\a∉mu'
theorem Ext0.get{mu mu':List Addr}{H H':Hp}(e:Ext0 mu H mu' H'){n:Nat}{a:Addr}(h:mu[n]?=some a):mu'[n]?=some a:=by
 obtain⟨z,rfl⟩:=e.more;have:n<mu.length:=(List.getElem?_eq_some_iff.1 h).1;rw[getElem?_append_left this];exact h
theorem Ext0.rd(e:Ext0 mu H mu' H')(n:a∉mu)(h:Rd H a u):a∉mu'/\Rd H' a u:=by
 rcases h with h | ⟨o,h⟩
 ·exact⟨(e.keep a _ h n).2,.inl (e.keep a _ h n).1⟩
 ·exact⟨(e.keep a _ h n).2,.inr ⟨o,(e.keep a _ h n).1⟩⟩
mutual
theorem RD.mono0{K:Frag}{mu mu':List Addr}{H H':Hp}(e:Ext0 mu H mu' H'):∀ (d:D) (v:V),RD K mu H d v->RD K mu' H' d v
 |.non,v,h=>by dsimp only[RD] at h ⊢;exact h
 |.bl _,v,h=>by dsimp only[RD] at h ⊢;exact h
 |.int _,v,h=>by dsimp only[RD] at h ⊢;exact h
 |.str _,v,h=>by dsimp only[RD] at h ⊢;exact h
 | .tup ds,v,h=>by
  dsimp only[RD] at h ⊢;obtain⟨a,xs,ev,h,hs⟩:=h;refine⟨a,xs,ev,?_,RDs.mono0 e ds xs hs⟩
  rcases h with ⟨n,h⟩ | h
  ·exact .inl ⟨(e.keep a _ h n).2,(e.keep a _ h n).1⟩
  ·exact .inr h
 | .lst ds,v,h=>by
  dsimp only[RD] at h ⊢;obtain⟨a,xs,ev,h,hs⟩:=h;refine⟨a,xs,ev,?_,RDs.mono0 e ds xs hs⟩
  rcases h with ⟨n,h⟩ | h
  ·exact .inl (e.rd n h)
  ·exact .inr h
 | .ref n,v,h=>by
  dsimp only[RD] at h ⊢;obtain⟨a,h,ev⟩:=h;exact⟨a,e.get h,ev⟩
theorem RDs.mono0{K:Frag}{mu mu':List Addr}{H H':Hp}(e:Ext0 mu H mu' H'):∀ (d:List D) (v:List V),RDs K mu H d v->RDs K mu' H' d v
 |[],v,h=>by dsimp only[RDs] at h ⊢;exact h
 | d::ds,v,h=>by
  dsimp only[RDs] at h ⊢;obtain⟨x,r,a,b,c⟩:=h;exact⟨x,r,a,RD.mono0 e d x b,RDs.mono0 e ds r c⟩
end
theorem RO.mono0{K:Frag}{mu mu':List Addr}{H H':Hp}(e:Ext0 mu H mu' H'){a:Addr}{o:Ob}(hk:H' a=H a)(h:RO K mu H a o):RO K mu' H' a o:=by
 cases o with
 | lst ds=>
  obtain⟨xs,h1,h2⟩:=h;exact⟨xs,by rw[hk];exact h1,RDs.mono0 e _ _ h2⟩
 | dk kvs=>
  obtain⟨xs,h1,h0,h2⟩:=h;exact⟨xs,by rw[hk];exact h1,h0,RDs.mono0 e _ _ h2⟩
 | dt kvs=>
  obtain⟨xs,h1,h0,h2⟩:=h;exact⟨xs,by rw[hk];exact h1,h0,RDs.mono0 e _ _ h2⟩
 | dtf kvs=>
  obtain⟨o,xs,h1,h0,h2⟩:=h;exact⟨o,xs,by rw[hk];exact h1,h0,RDs.mono0 e _ _ h2⟩
 | ins C fs=>
  obtain⟨Ca,dx,xs,h1,h0,h3,h2⟩:=h;exact⟨Ca,dx,xs,by rw[hk];exact h1,h0,h3,RDs.mono0 e _ _ h2⟩
theorem WR.thaw{K:Frag}(w:WR K mu H S){n:Nat}{a:Addr}{kvs:List (List Key×D)}{us:List (List Key×V)}(h:mu[n]?=some a)(hn:n<S.length)(dr:DRel K mu H kvs us):Ext0 mu H mu (upd H a (.dT us))/\WR K mu (upd H a (.dT us)) (S.set n (.dt kvs)):=by
 have ex:Ext0 mu H mu (upd H a (.dT us)):=⟨⟨[],by simp⟩,fun b u e hb=>⟨by
  rw[Zi];exact e
  intro z;subst z
  exact hb (mem_of_getElem? h),hb⟩⟩
 refine⟨ex,by simp[w.len],w.nd,fun i u e=>?_⟩;by_cases hi:n=i
 ·subst hi;rw[getElem?_set_self hn] at e;cases e
  exact⟨a,h,us,Zv,dr.1,RDs.mono0 ex _ _ dr.2⟩
 ·rw[getElem?_set_ne hi] at e;obtain⟨b,h1,h2⟩:=w.ob i u e;refine⟨b,h1,h2.mono0 ex ?_⟩;rw[Zi];intro z;subst z
  exact hi (w.same h h1)
theorem WR.notup{K:Frag}(w:WR K mu H S){b:Addr}{xs:List V}(h:H b=some (.tup xs)):b∉mu:=fun hm=>by
 obtain⟨n,hn,e⟩:=List.mem_iff_getElem.1 hm;obtain⟨o,ho⟩:∃ o,S[n]?=some o:=⟨S[n]'(by rw[<- w.len];exact hn),by simp⟩
 obtain⟨a,h1,h2⟩:=w.ob n o ho;have:a=b:=by rw[oAt hn] at h1;rw[<- e];exact(oAk h1).symm
 subst this;cases o with
 |lst ds=>obtain⟨xs,h1,_⟩:=h2;rw[h1] at h;cases h
 |dk ds=>obtain⟨xs,h1,_⟩:=h2;rw[h1] at h;cases h
 |dt ds=>obtain⟨xs,h1,_⟩:=h2;rw[h1] at h;cases h
 |dtf ds=>obtain⟨o,xs,h1,_⟩:=h2;rw[h1] at h;cases h
 |ins C fs=>obtain⟨Ca,dx,xs,h1,_⟩:=h2;rw[h1] at h;cases h
theorem WT{K:Frag}:∀ l:List Key,RDs K mu H (l.map unkey) (l.map kV)
 |[]=>.nil
 |x::l=>.cons ZcJ (WT l)
theorem ZiS{e tg:Expr}{x:Ex}(h:PE X e (tE X.K (ev c x))):PI X tg e (tI X.K (evI c (.dkt x))):=by
 intro pins s σ H R I ⟨mu,env,S,he,hw,ds,S',hf,q⟩;dsimp only[evI] at hf;obtain⟨da,S1,h1,hf⟩:=bP hf;cases da with
 | ref n=>
  dsimp only at hf;cases q9:S1[n]? with
  |none=>rw[q9] at hf;cases hf
  | some ob=>
   rw[q9] at hf;cases ob with
   | dt kvs=>
    cases hf
    refine thn (h pins s σ H (fun v H1=>Nx X.K mu H H1 S1 fun mu1=>RD X.K mu1 H1 (.ref n) v) I ⟨mu,env,S,he,hw,_,S1,h1,fun v mu1 H1 e1 w1 r1=>⟨mu1,e1,w1,r1⟩⟩) fun v s1 ⟨xv,H1,I1,rx,mu1,e1,w1,r1⟩=>?_;obtain⟨a,us,rfl,hm,ha,dr⟩:=JL w1 (show dtOf S1 (.ref n)=some kvs by show (match S1[n]? with | some (.dt kvs)=>some kvs | _=>none)=_;rw[q9]) r1
    cases rx
    obtain⟨o,es,ep,ho,hc,hs,hd,hz,I2⟩:=Inv.freeze I1 ha;have ex:Ext mu1 H1 mu1 (upd H1 a (.frz o (.dT us))):=Ext.write w1 hm (ZY ha);have dr2:=dr.mono ex;have w2:WR X.K mu1 (upd H1 a (.frz o (.dT us))) (S1.set n (.dtf kvs)):=w1.writeO hm (ZY ha) ⟨o,us,Zv,dr2.1,dr2.2⟩;refine DI.Zd5 hs hc ho hd ?_;refine⟨s1.heap.objs.size,[s1.heap.objs.size],_,_,_,rfl,I2.kept (t':=s1.toks) fun b o e=>oAd _ e,Zew a s1.heap.objs.size o us es ep hd hz,⟨_,oAe _ rfl,rfl,rfl⟩,fun b hb=>?_,q _ mu1 _ (e1.trans ex) w2 ?_⟩
    ·have:b=s1.heap.objs.size:=by simpa using hb
     subst this;exact I2.fpOk (oAl _) (I2.hok.fresh (oAl _))
    ·have hl:us.length=kvs.length:=by have:=congrArg List.length dr.1;simpa using this
     refine JY fun mu3 H3 S3 ex3 w3 i=>⟨fun d hd'=>?_,fun hi=>?_⟩
     ·have hi:i<kvs.length:=by
       have:=(List.getElem?_eq_some_iff.1 hd').1;simpa using this
      refine⟨⟨ex3.frz a o _ Zv,by rw[hl];exact hi⟩,fun x H4 ⟨e4,b,p,ex',hp,hb⟩=>?_⟩
      subst e4 ex';refine⟨.refl,w3,?_⟩;rw[getElem?_map,oAt hi] at hd';have ed:D.tup (kvs[i].1.map unkey)=d:=by simpa using hd'
      have ep:p.1=kvs[i].1:=by
       have z:=congrArg (fun l=>l[i]?) dr.1;simp only[getElem?_map,hp,List.getElem?_eq_getElem hi] at z;simpa using z
      rw[<- ed];dsimp only[RD]
      exact⟨b,_,rfl,.inl ⟨w3.notup hb,hb⟩,by rw[<- ep];exact WT _⟩
     ·exact⟨ex3.frz a o _ Zv,by simp at hi;lia⟩
   |_=>cases hf
 |_=>cases hf
theorem ZcM(h:a≠b):upd (upd H a u) b v=upd (upd H b v) a u:=by
 funext x
 unfold upd;by_cases h1:x=a
 ·subst h1;simp[h]
 ·by_cases h2:x=b
  ·subst h2;simp[h1]
  ·simp[h1,h2]
theorem Zex{elt tgt iter:Expr}{scope:Scope}{pos:Pos}{N:List Str}{own i:Nat}{caps:List Nat}{t:Tg}{xe:Ex}(calm:X.calm=true)(cn:YY X scope N own caps)(hi:PE X iter (tE X.K (ev c (.var i))))(hs:∀ y,foldedSetIterable iter X.env y=pure y)
  (blk:X.env.scope.kind=.function->∀ (C:Addr) (s2:Shared) (H2:Hp) (fp:List Addr) (pins:zPn),PG (Zl X N scope C s2 H2 fp pins) tgt (tG X.K (fun d e S=>asg c t d e S))/\PE (Zl X N scope C s2 H2 fp pins) elt (tE X.K (fun e S=>ev c xe e S))) :
  PE X (.ListComp elt [⟨tgt,iter,[],0⟩] scope pos) (tN X.K (evL c (.compD own caps t (.var i) xe))):=by
 intro pins s σ H Q I ⟨mu,env,S,he,hw,acc,S',hf,kk⟩;dsimp only[evL] at hf;obtain⟨da,S1,h1,hf⟩:=bP hf;have eS:S1=S:=by
  dsimp only[ev] at h1;split at h1
  ·cases h1;rfl
  ·cases h1
 subst eS;cases da with
 | ref n=>
  dsimp only at hf;cases q9:S1[n]? with
  |none=>rw[q9] at hf;cases hf
  | some ob=>
   rw[q9] at hf;cases ob with
   | dt kvs=>
    dsimp only at hf;obtain⟨ac,S2,h2,hf⟩:=bP hf;dsimp only at hf;cases q8:S2[n]? with
    |none=>rw[q8] at hf;cases hf
    | some ob2=>
     rw[q8] at hf;cases ob2 with
     | dtf kvs'=>
      cases hf
      obtain⟨a,hm,us0,ha,_⟩:=hw.get q9;have bk:=blk I.ok.kind;refine oAc (Zaa (elt:=elt) (tgt:=tgt) (iter:=iter) (ifs:=[]) (pos:=pos) (fI:=evI c (.dkt (.var i))) (fG:=fun d e S=>asg c t d e S) (fT:=fun e S=>evTs c .nil e S) (fE:=fun e S=>ev c xe e S) calm cn (ZiS hi) hs (fun C s2 H2 fp pins=>⟨(bk C s2 H2 fp pins).1,ZbR,(bk C s2 H2 fp pins).2⟩) pins s σ H (fun v H'=>∃ p vs mu1 H1,v=.ref p/\H'=upd H1 p (.lst vs)/\Ext mu H mu1 H1/\WR X.K mu1 H1 S2/\H1 p=none/\RDs X.K mu1 H1 acc vs) I ⟨mu,env,S1,he,hw,acc,S2,?_,fun vs p mu1 H1 e1 w1 hp rs=>⟨p,vs,mu1,H1,rfl,rfl,e1,w1,hp,rs⟩⟩) (fun v s4 q4=>?_) fun _ _ z=>z
      ·have e0:evI c (.dkt (.var i)) env S1=some (.vs (kvs.map fun kv=>D.tup (kv.1.map unkey)),S1.set n (.dtf kvs)):=by
        dsimp only[evI];rw[h1]
        dsimp only[Option.bind];rw[q9]
       show (evI c (.dkt (.var i)) env S1).bind _=_;rw[e0];show Z0 (.vs (kvs.map fun kv=>D.tup (kv.1.map unkey))) (ZX (fun d e S=>asg c t d e S) (fun e S=>evTs c .nil e S) (fun e S=>ev c xe e S)) (Sr.fuel (.vs (kvs.map fun kv=>D.tup (kv.1.map unkey)))) 0 (ZG own caps env) (S1.set n (.dtf kvs)) []=_;have ef:Sr.fuel (.vs (kvs.map fun kv=>D.tup (kv.1.map unkey)))=kvs.length+1:=by show (kvs.map _).length+1=_;rw[length_map]
       rw[ef];have et:(fun e S=>evTs c .nil e S)=(fun (e:En) (S:Sto)=>some (true,S)):=by funext e S;dsimp only[evTs]
       rw[et];exact h2
      ·obtain⟨xv,H4,J,rx,p,vs,mu1,H1,ex,eH,e1,w1,hp,rs⟩:=q4;subst ex eH;obtain⟨a',hm',o,us,ha',dr⟩:=w1.get q8;have ea:a'=a:=by
        have:=e1.get hm;rw[hm'] at this;exact oAk this
       subst ea;have nap:a'≠p:=fun z=>by rw[z,hp] at ha';cases ha'
       have hn2:n<S2.length:=(List.getElem?_eq_some_iff.1 q8).1;obtain⟨x0,w2⟩:=w1.thaw (kvs:=kvs') hm' hn2 dr;have J2:=Inv.thaw (d:=a') (o:=o) (us:=us) J (by rw[Zi nap];exact ha') (fun o' u' z=>by
        have:=I.base.frzs a' o' u' z;rw[ha] at this;cases this)
       rw[ZcM nap.symm] at J2;refine⟨.ref p,_,J2,rx,kk vs p mu1 _ ⟨e1.more,fun b u hb nb=>?_,fun b o' u hb=>?_⟩ w2 (by rw[Zi nap.symm];exact hp) (RDs.mono0 x0 _ _ rs)⟩
       ·obtain⟨g1,g2⟩:=e1.keep b u hb nb;exact⟨by rw[Zi (fun z=>nb (by rw[z];exact mem_of_getElem? hm))];exact g1,g2⟩
       ·rw[Zi (fun z=>by subst z;rw[ha] at hb;cases hb)]
        exact e1.frz b o' u hb
     |_=>cases hf
   |_=>cases hf
 |_=>cases hf
end
open PySem PySem.Spec PyProof.Rows L2
section
variable {X:Cx}{T:Tab}{W k:Nat}{nm:List (Str×NameKind)}{N:List Str}
theorem Zgq(r:RX X T W k nm N)(hm:lastMarks [op,op'] [b,e]=false)(ha:PP X (Za T W k) a xa)(hb:PP X (Za T W k) b xb)(he:PP X (Za T W k) e xe):PP X (Za T W k) (.Compare a [op,op'] [b,e] pos) (.cmp2 op op' xa xb xe):=by
 have hu:X.A.units+100<cLine:=by have:=r.ok.room.un;omega
 exact⟨ZfQ hu ha.1 hb.1 he.1 hm,Zd9 hu ha.1 hb.1 he.1 hm⟩
theorem Zgr(r:RX X T W k nm N)(ht:isTup tg=true)(hg:nm.lookup ("zip":Str)=some .globalImplicit)(hs:notStar a=true)(hs2:notStar b=true)(h:PP X (Za T W k) a x)(h2:PP X (Za T W k) b y):II X (Za T W k) tg (.Call (.Name "zip" p) [a,b] [] pos) (.zip x y):=⟨Ziq r.ok (r.ok.kg _ hg) hs hs2 ht h.1 h2.1,fun _=>rfl⟩
theorem YN(h:T.gds.lookup x=some kvs):(Za T W k).gd x=some kvs:=by cases k<;>exact h
theorem ZiT(r:RX X T W k nm N)(hn:ZE x=true)(hl:nm.lookup x=some .globalImplicit)(hd:T.gds.lookup x=some kvs)(ha:PP X (Za T W k) a xa):PP X (Za T W k) (.Compare a [.In] [.Name x p] pos) (.gin x xa):=
 ⟨UF (Zdg hn (r.ok.kg _ hl) (r.ok.gd x kvs hd) (YN hd) ha.1) rfl,UO (Zdg hn (r.ok.kg _ hl) (r.ok.gd x kvs hd) (YN hd) ha.1) rfl⟩
theorem Zgs(r:RX X T W k nm N)(hn:ZE x=true)(hl:nm.lookup x=some .globalImplicit)(hd:T.gds.lookup x=some kvs)(ha:PP X (Za T W k) a xa):PP X (Za T W k) (.Compare a [.NotIn] [.Name x p] pos) (.not (.gin x xa)):=
 ⟨UF (ZbG hn (r.ok.kg _ hl) (r.ok.gd x kvs hd) (YN hd) ha.1) rfl,UO (ZbG hn (r.ok.kg _ hl) (r.ok.gd x kvs hd) (YN hd) ha.1) rfl⟩
theorem ZiU(r:RX X T W k nm N)(hn:ZE x=true)(hl:nm.lookup x=some .globalImplicit)(hd:T.gds.lookup x=some kvs)(hp:Yb a=true)(ha:PP X (Za T W k) a xa):PP X (Za T W k) (.Subscript (.Name x p) a pos) (.gsb x xa):=
 plainT (Zid hn (r.ok.kg _ hl) (r.ok.gd x kvs hd) (YN hd) ha.1 hp) (fun _=>rfl)
theorem Zdj(h:FdF T X.K)(hc:(Za T W k).fd C x=true)(hn:PySem.W.nsIn X.K mainGlobals C=some (some (.ref Ca))):Cls X.K Ca/\Yq X.K Ca x:=h C x Ca (by cases k<;>exact hc) hn
theorem ZiV(r:RX X T W k nm N)(hb:baseOk a=true)(ha:PP X (Za T W k) a xa):PP X (Za T W k) (.Attribute a x pos) (.fld xa x):=
 plainT (Zic (fun C Ca h1 h2=>Zdj r.ok.cf h1 h2) ha.1 (UQ hb)) (fun _=>rfl)
theorem ZiW(r:RX X T W k nm N)(hs:swapsWith e (some (.Attribute o x pos')) pos.line X.env=pure false)(ho:PP X (Za T W k) o xo)(he:PP X (Za T W k) e xe):PS X (.Assign [.Attribute o x pos'] e pos) (tSt X.K (evS (Za T W k) W (.fas xo x xe))):=
 Zit (fun C Ca h1 h2=>Zdj r.ok.cf h1 h2) ho.1 he.1 hs
theorem ZiX(r:RX X T W k nm N){o:Expr}{m:Str}{es:List Expr}{ap pos:Pos}{xo:Ex}{xs:Exs}{pl:Sem Bool}(hmi:decide (m="__init__")=false)(hs:es.all notStar=true)(ht:eval (.Call (.Attribute o m ap) es [] pos) X.env=(do
      let ov<-eval o X.env
      standAt ap.atName
      let (f,first)<-holding [ov] (getMethod ov m pl)
      callWith pos f first (backTo pos (starEach es X.env)) (backToKw pos (keywordEach [] X.env))))(ho:PP X (Za T W k) o xo)(ha:AA X (Za T W k) es xs):PP X (Za T W k) (.Call (.Attribute o m ap) es [] pos) (.mcl xo m xs):=
  plainT (Zil r.ok (of_decide_eq_false hmi) ho.1 ha.1 ha.2 hs ht) (fun _=>rfl)
theorem ZiY(r:RX X T W k nm N)(hn:ZE C=true)(hg:nm.lookup C=some .globalImplicit)(hs:es.all notStar=true)(h:AA X (Za T W k) es xs):PP X (Za T W k) (.Call (.Name C p) es [] pos) (.new C xs):=
 plainT (Zim r.ok hn (r.ok.kg _ hg) hs h.2 h.1) (fun _=>rfl)
end
open PySem PySem.Spec PyProof.Rows L2
section
variable {X:Cx}{T:Tab}{W k:Nat}{nm:List (Str×NameKind)}{N:List Str}
theorem ZiZ:PS X (.Raise e f pos) (tSt X.K (evS c W .bad)):=by
 intro pins s σ H D I ⟨mu,env,S,her,hwr,fl,hf,q⟩;dsimp only[evS] at hf;cases hf
theorem Zgt:PP X c (.Dict [] [] pos) .dnew:=plainT ZfW (fun _=>rfl)
theorem Zgu(r:RX X T W k nm N)(hp:Yb i=true)(ha:PP X (Za T W k) a xa)(hi:PP X (Za T W k) i xi):PP X (Za T W k) (.Subscript a i pos) (.subK xa xi):=plainT (Zf4 (by have:=r.ok.room.un;omega) ha.1 hi.1 hp) (fun _=>rfl)
theorem Zey(r:RX X T W k nm N)(hp:Yb i=true)(ho:PP X (Za T W k) o xo)(hi:PP X (Za T W k) i xi):PG X (.Subscript o i pos) (tG X.K (asg (Za T W k) (.subK xo xi))):=Zf5 (by have:=r.ok.room.un;omega) ho.1 hi.1 hp
theorem Zgv(hs:notStar a=true)(hl:JW ap pos=true)(ha:PP X c a xa):PP X c (.Call (.Attribute (.Constant (.str sep) jj p) "join" ap) [a] [] pos) (.join sep xa):=plainT (Zf6 ha.1 hs hl) (fun _=>rfl)
theorem Zgw(r:RX X T W k nm N)(hg:nm.lookup ("sorted":Str)=some .globalImplicit)(hg2:nm.lookup ("set":Str)=some .globalImplicit)(hs:notStar a=true)(ha:PP X (Za T W k) a xa):PP X (Za T W k) (.Call (.Name "sorted" p) [.Call (.Name "set" p2) [a] [] pos2] [] pos) (.lv (.sset xa)):=plainT (Uo false (Zf7 r.ok (r.ok.kg _ hg) (r.ok.kg _ hg2) hs ha.1)) (fun _=>rfl)
theorem Zez(r:RX X T W k nm N)(hf:blOf.lookup f=some b)(hn:ZE f=true)(hg:nm.lookup f=some .globalImplicit)(hs:(e::es).all notStar=true)(h:AA X (Za T W k) (e::es) xs):PP X (Za T W k) (.Call (.Name f p) (e::es) [] pos) (.lr (.blt b xs)):=plainT (Uo true (ZbI r.ok hn (r.ok.kg _ hg) hf hs h.1)) (fun _=>rfl)
theorem ZeA(r:RX X T W k nm N)(hc:YL N nm scope=true)(ho:(ownN scope).length=own)(hp:((YV scope).map fun y=>(slot y N).getD 0)=caps)(hi:II X (Za T W k) tgt iter it)
  (hb:∀ Y:Cx,RX Y T W k scope.names (Z1 scope)->PG Y tgt (tG Y.K (asg (Za T W k) t))/\AA Y (Za T W k) ke xs/\PP Y (Za T W k) vx xv) :
  PP X (Za T W k) (.DictComp (.Tuple ke jj kp) vx [⟨tgt,iter,[],0⟩] scope pos) (.dcomp own caps t it xs xv):=
 plainT (Zeo r.ok (r.cn hc ho hp) hi.1 hi.2 (fun hk C s2 H2 fp pins=>by
  obtain⟨a,b,c⟩:=hb _ (r.blk hc hk C s2 H2 fp pins);exact⟨a,b.1,c.1⟩)) (fun _=>rfl)
theorem ZeB(r:RX X T W k nm N)(hc:YL N nm scope=true)(ho:(ownN scope).length=own)(hp:((YV scope).map fun y=>(slot y N).getD 0)=caps)(hs:∀ y,foldedSetIterable iter X.env y=pure y)(hi:PP X (Za T W k) iter (.var i))
  (hb:∀ Y:Cx,RX Y T W k scope.names (Z1 scope)->PG Y tgt (tG Y.K (asg (Za T W k) t))/\Y2 Y [] (tT Y.K (evTs (Za T W k) .nil))/\PP Y (Za T W k) elt xe) :
  PP X (Za T W k) (.ListComp elt [⟨tgt,iter,[],0⟩] scope pos) (.lv (.compD own caps t (.var i) xe)):=
 plainT (Uo false (Zex r.ok.calm (r.cn hc ho hp) hi.1 hs (fun hk C s2 H2 fp pins=>by
  obtain⟨a,_,b⟩:=hb _ (r.blk hc hk C s2 H2 fp pins);exact⟨a,b.1⟩))) (fun _=>rfl)
end
open PySem PySem.Spec PyProof.Rows L2
section
variable {P:Program}{w:World}{K:Frag}{mg:Str->Option Value}{base:Heap}{T:Tab}{W:Nat}
noncomputable def Zq(st:Stmt):List Str:=(Z7 st).args.map (·.arg)
noncomputable def namesOf(st:Stmt):List Str:=Zq st++(((Zo st).names.filter fun p=>(decide (p.2=.local)||decide (p.2=.cell))&&!(Zq st).contains p.1).map (·.1))
structure JM(T:Tab)(W:Nat)(K:Frag)(mg:Str->Option Value)(x:Str)(fi:FI)(st:Stmt)(fa:Addr)(fd:FuncData):Prop where
 fn:Fun K x x st fa fd
 gl:mg x=some (.ref fa)
 sc:Yl (namesOf st) (Zq st) (Zo st)
 bd:Binds K fd (Zq st) []
 pl:(Zq st).length=fi.ps
 nl:(namesOf st).length=fi.nn
 cs:∀ (k:Nat) (X:Cx),RX X T W k (Zo st).names (namesOf st)->PSs X (ZJ st) (tSt X.K (evSs (Za T W k) W fi.body))
theorem ZcN(r:RDs K mu H ds vs):ER K mu H (ZQ N.length ds) (L2.start N vs):=by
 unfold ZQ L2.start;have hl:=r.length;refine⟨by simp[hl],fun i d h=>?_⟩;by_cases hi:i<ds.length
 ·rw[getElem?_append_left (by simpa using hi),getElem?_map] at h;obtain⟨d',h1,h2⟩:=bM h;cases h2
  obtain⟨x,h3,h4⟩:=r.get h1;exact⟨x,by rw[getElem?_append_left (by simpa [<- hl] using hi),getElem?_map,h3];rfl,h4⟩
 ·rw[getElem?_append_right (by simpa using hi),List.getElem?_replicate] at h;split at h<;>cases h
structure JN(T:Tab)(W:Nat)(K:Frag)(mg:Str->Option Value)(C m:Str)(fi:FI)(st:Stmt)(Ca fa:Addr)(fd:FuncData):Prop where
 fn:Fun K m (Zh C m) st fa fd
 cl:PySem.W.nsIn K mainGlobals C=some (some (.ref Ca))
 me:m≠"__init__"->Cls K Ca/\Meth K Ca m fa
 mi:m="__init__"->mg C=some (.ref Ca)/\Mk K Ca fa
 sc:Yl (namesOf st) (Zq st) (Zo st)
 bd:Binds K fd (Zq st) []
 pl:(Zq st).length=fi.ps
 nl:(namesOf st).length=fi.nn
 cs:∀ (k:Nat) (X:Cx),RX X T W k (Zo st).names (namesOf st)->PSs X (ZJ st) (tSt X.K (evSs (Za T W k) W fi.body))
def FnsA(P:Program)(w:World)(K:Frag)(mg:Str->Option Value)(base:Heap)(T:Tab)(W k:Nat):Prop:=∀ (f:Str) (fi:FI) (st:Stmt) (fa:Addr) (fd:FuncData),T.lookup f=some fi->JM T W K mg f fi st fa fd->FnOk P w K mg base CX0 k fa fd (Zq st) (spOf K T W k f)
def FnsM(P:Program)(w:World)(K:Frag)(mg:Str->Option Value)(base:Heap)(T:Tab)(W k:Nat):Prop:=∀ (C m:Str) (fi:FI) (st:Stmt) (Ca fa:Addr) (fd:FuncData),T.mts.lookup (Zh C m)=some fi->JN T W K mg C m fi st Ca fa fd->FnOk P w K mg base CX0 k fa fd (Zq st) (spM K T W k (Zh C m))
theorem ZbT(all:∀ f fi,T.lookup f=some fi->∃ st fa fd,JM T W K mg f fi st fa fd)(mets:∀ C m fi,T.mts.lookup (Zh C m)=some fi->∃ st Ca fa fd,JN T W K mg C m fi st Ca fa fd)(bl:∀ f∈blts,mg f=none)
  (gl:∀ x d,T.gls.lookup x=some d->∃ u v,mg x=some u/\RelV v u/\∀ mu H,RD K mu H d v)(gd:∀ x kvs,T.gds.lookup x=some kvs->GdF K w mg x kvs)(cf:FdF T K){k:Nat}(ihA:FnsA P w K mg base T W k)(ihM:FnsM P w K mg base T W k)(ihN:∀ j,k=j+1->FnsM P w K mg base T W j)
  {qual:Str}{st:Stmt}{fa:Addr}{cdv:Value}{A:Around}{outer:List Env}{s:Shared}{H:Hp}{E:XK}(sc:Yl (namesOf st) (Zq st) (Zo st))(hr:Room k (A.deeper (envOfC qual (Zo st) s.heap.objs.size fa cdv))) :
  XOk (cxOf CX0 P w K mg base (namesOf st) qual (Zo st) fa cdv A outer s H E).nox T W k (Zo st).names:=by
 have nf:∀ x,(Zo st).names.lookup x≠some .free:=fun x hx=>sc.nofree _ (PySem.mem_of_lookup hx) rfl;refine⟨rfl,hr,sc.nd,PassesOwn.never,fun x hx=>hx,fun x hx=>?_,fun x hx=>hx,fun x hx=>hx,fun x hx=>?_,bl,fun g gi hg=>?_,gl,gd,cf,fun C m fi hmi hl=>?_,fun j hj C fi hl=>?_⟩
 ·unfold V4 at hx;rw[or_eq_true] at hx
  rcases hx with hx | hx
  ·exact⟨.inl (oAj hx),.inl rfl⟩
  ·exact⟨.inr (oAj hx),.inl rfl⟩
 ·rcases hx with hx | hx
  ·exact hx
  ·exact absurd hx (nf x)
 ·obtain⟨st',fa',fd',d'⟩:=all g gi hg;exact⟨fa',fd',Zq st',d'.pl,d'.gl,d'.fn.kp,d'.bd,ihA g gi st' fa' fd' hg d'⟩
 ·obtain⟨st',Ca,fa',fd',d'⟩:=mets C m fi hl;exact⟨Ca,fa',fd',Zq st',d'.pl,d'.cl,(d'.me hmi).1,(d'.me hmi).2,d'.bd,ihM C m fi st' Ca fa' fd' hl d'⟩
 ·obtain⟨st',Ca,fa',fd',d'⟩:=mets C "__init__" fi hl;exact⟨Ca,fa',fd',Zq st',d'.pl,d'.cl,(d'.mi rfl).1,(d'.mi rfl).2,d'.bd,ihN j hj C "__init__" fi st' Ca fa' fd' hl d'⟩
theorem ZbU{mu:List Addr}{H:Hp}{S S':Sto}{ds:List D}{vs:List V}{Q:VK}{fi:FI}{st:Stmt}{k:Nat}{dd:D}(nl:(namesOf st).length=fi.nn)(hw:WR K mu H S)(r:RDs K mu H ds vs)
  (h:(if ds.length=fi.ps then (evSs (Za T W k) W fi.body (ZQ fi.nn ds) S).bind fin else none)=some (dd,S'))(q:∀ v mu' H',Ext mu H mu' H'->WR K mu' H' S'->RD K mu' H' dd v->Q v H') :
  tSt K (evSs (Za T W k) W fi.body) { nx:=fun _ H'=>Q .non H',rt:=Q } (L2.start (namesOf st) vs) H:=by
 split at h
 ·obtain⟨fl,h1,h2⟩:=bO h;refine⟨mu,ZQ fi.nn ds,S,by rw[<- nl];exact ZcN r,hw,fl,h1,?_⟩
  cases fl with
  |rt d' S1=>cases h2;exact fun v mu' H' e w r=>q v mu' H' e w r
  |nx env S1=>cases h2;exact fun σ mu' H' e w r=>q .non mu' H' e w UK
  |bk env S1=>cases h2
  |ct env S1=>cases h2
 ·cases h
theorem Zgx(all:∀ f fi,T.lookup f=some fi->∃ st fa fd,JM T W K mg f fi st fa fd)(mets:∀ C m fi,T.mts.lookup (Zh C m)=some fi->∃ st Ca fa fd,JN T W K mg C m fi st Ca fa fd)(bl:∀ f∈blts,mg f=none)
  (gl:∀ x d,T.gls.lookup x=some d->∃ u v,mg x=some u/\RelV v u/\∀ mu H,RD K mu H d v)(gd:∀ x kvs,T.gds.lookup x=some kvs->GdF K w mg x kvs)(cf:FdF T K) :
  ∀ k,FnsA P w K mg base T W k/\FnsM P w K mg base T W k/\∀ j,k=j+1->FnsM P w K mg base T W j:=by
 intro k
 induction k with
 | zero=>
  refine⟨fun f fi st fa fd hl d=>⟨fun vs H Q E h=>?_,fun A outer s H args us vs Q E hr he hb hv h=>?_⟩,fun C m fi st Ca fa fd hl d=>⟨fun vs H Q E h=>?_,fun A outer s H args us vs Q E hr he hb hv h=>?_⟩,fun j hj=>by lia⟩
  ·obtain⟨mu,S,ds,_,_,_,d,S',h,_⟩:=h;cases h
  ·obtain⟨mu,S,ds,_,_,_,d,S',h,_⟩:=h;cases h
  ·obtain⟨mu,S,ds,_,_,_,d,S',h,_⟩:=h;cases h
  ·obtain⟨mu,S,ds,_,_,_,d,S',h,_⟩:=h;cases h
 | succ k ih=>
  obtain⟨ihA,ihM,ihN⟩:=ih;refine⟨fun f fi st fa fd hl d=>d.fn.ok d.sc (fun vs H Q E h=>?_) (fun cdv A outer s H vs Q E hr h=>?_),fun C m fi st Ca fa fd hl d=>d.fn.ok d.sc (fun vs H Q E h=>?_) (fun cdv A outer s H vs Q E hr h=>?_),fun j hj=>by cases hj;exact ihM⟩
  ·obtain⟨mu,S,ds,_,r,⟨fi',h1,h2⟩,_⟩:=h;rw[hl] at h1;cases h1
   rw[<- r.length,h2,d.pl]
  ·obtain⟨mu,S,ds,hw,r,_,dd,S',h,q⟩:=h;refine⟨_,d.cs k _ ⟨ZbT all mets bl gl gd cf ihA ihM ihN d.sc hr,rfl⟩,?_⟩;replace h:((T.lookup f).bind fun fi=>if ds.length=fi.ps then (evSs (Za T W k) W fi.body (ZQ fi.nn ds) S).bind fin else none)=some (dd,S'):=h;rw[hl] at h;exact ZbU d.nl hw r h q
  ·obtain⟨mu,S,ds,_,r,⟨fi',h1,h2⟩,_⟩:=h;rw[hl] at h1;cases h1
   rw[<- r.length,h2,d.pl]
  ·obtain⟨mu,S,ds,hw,r,_,dd,S',h,q⟩:=h;refine⟨_,d.cs k _ ⟨ZbT all mets bl gl gd cf ihA ihM ihN d.sc hr,rfl⟩,?_⟩;replace h:((T.mts.lookup (Zh C m)).bind fun fi=>if ds.length=fi.ps then (evSs (Za T W k) W fi.body (ZQ fi.nn ds) S).bind fin else none)=some (dd,S'):=h;rw[hl] at h;exact ZbU d.nl hw r h q
theorem Zgy(all:∀ f fi,T.lookup f=some fi->∃ st fa fd,JM T W K mg f fi st fa fd)(mets:∀ C m fi,T.mts.lookup (Zh C m)=some fi->∃ st Ca fa fd,JN T W K mg C m fi st Ca fa fd)(bl:∀ f∈blts,mg f=none)
  (gl:∀ x d,T.gls.lookup x=some d->∃ u v,mg x=some u/\RelV v u/\∀ mu H,RD K mu H d v)(gd:∀ x kvs,T.gds.lookup x=some kvs->GdF K w mg x kvs)(cf:FdF T K)(k:Nat):FnsA P w K mg base T W k:=(Zgx all mets bl gl gd cf k).1
theorem Zgz(hl:T.lookup x=some fi)(hp:fi.ps=1)(run:∀ ns:List Int,ns.length<=63->∃ S',(Za T W k).fn x [.lst (ns.map D.int)] []=some (.bl true,S'))
  (H:Hp)(a:Addr)(ns:List Int)(h:ns.length<=63)(hS:SqL K H a (ns.map V.int))(E:XK):spOf K T W k x [.ref a] H (fun v _=>v=.bl true) E:=by
 obtain⟨S',h1⟩:=run ns h;refine⟨[],[],[.lst (ns.map D.int)],⟨rfl,nodup_nil,fun n o e=>by simp at e⟩,?_,⟨fi,hl,hp.symm⟩,.bl true,S',h1,fun v mu' H' e w r=>YW r⟩;refine .cons ?_ .nil;dsimp only[RD];refine⟨a,ns.map V.int,rfl,?_,?_⟩
 ·rcases hS with h | h
  ·exact .inl ⟨by simp,h⟩
  ·exact .inr h
 ·clear h h1 hS
  induction ns with
  |nil=>exact .nil
  |cons n ns ih=>exact .cons ZK ih
end
section
variable {K:Frag}{mg:Str->Option Value}
structure Zd(K:Frag)(x:Str)(st:Stmt):Prop where
 ex:∃ (f:Addr) (oc:Value) (od an:Option Addr) (sl:Array (Option Value)) (kV doc pm cdv ct:Value),PySem.W.nsIn K mainGlobals x=some (some (.ref f)) /\
  K.lookup f=some ⟨oc,od,.func (PySem.W.fnOf x x (Z7 st) (ZJ st) (Zo st) .none kV doc pm an cdv ct),sl⟩/\PySem.W.codeIn K cdv x=true/\PySem.W.keepIn K (.ref f)=true
theorem Zd.mk'{x:Str}{st:Stmt}{f:Addr}{oc:Value}{od an:Option Addr}{sl:Array (Option Value)}{kV doc pm cdv ct:Value}(a:PySem.W.nsIn K mainGlobals x=some (some (.ref f)))
  (l:K.lookup f=some ⟨oc,od,.func (PySem.W.fnOf x x (Z7 st) (ZJ st) (Zo st) .none kV doc pm an cdv ct),sl⟩)(c:PySem.W.codeIn K cdv x=true)(k:PySem.W.keepIn K (.ref f)=true):Zd K x st:=
 ⟨⟨f,oc,od,an,sl,kV,doc,pm,cdv,ct,a,l,c,k⟩⟩
def Zs(x:Str)(st:Stmt):Prop:=∀ (kV doc pm:Value) (an:Option Addr) (cdv ct:Value) (us:List Value),us.length=(Zq st).length->bindArgs (PySem.W.fnOf x x (Z7 st) (ZJ st) (Zo st) .none kV doc pm an cdv ct) ⟨us,[]⟩=pure ((Zq st).zip us)
theorem Zd.ok{T:Tab}{W:Nat}{h:Heap}{x:Str}{st:Stmt}{fi:FI}(KX:K.In h)(G:h.Ns mainGlobals mg)(d:Zd K x st)(sc:Yl (namesOf st) (Zq st) (Zo st))(b:Zs x st)
  (hp:(Zq st).length=fi.ps)(hn:(namesOf st).length=fi.nn)(hc:∀ (k:Nat) (X:Cx),RX X T W k (Zo st).names (namesOf st)->PSs X (ZJ st) (tSt X.K (evSs (Za T W k) W fi.body))):∃ st fa fd,JM T W K mg x fi st fa fd:=by
 obtain⟨f,oc,od,an,sl,kV,doc,pm,cdv,ct,a,l,c,k⟩:=d.ex;have F:=Zbq (st:=st) l c k;exact⟨st,f,_,F,PySem.W.mg_of KX G a,sc,F.binds (fun kV doc pm an cdv ct us hl=>b kV doc pm an cdv ct us hl),hp,hn,hc⟩
theorem Zd.ok2{T:Tab}{W:Nat}{h:Heap}{x:Str}{st:Stmt}{fi:FI}(KX:K.In h)(G:h.Ns mainGlobals mg)(d:Zd K x st)(sc:Yl (namesOf st) (Zq st) (Zo st))(b:Zs x st)
  (hp:(Zq st).length=fi.ps)(hn:(namesOf st).length=fi.nn)(hc:∀ (k:Nat) (X:Cx),RX X T W k (Zo st).names (namesOf st)->PSs X (ZJ st) (tSt X.K (evSs (Za T W k) W fi.body))) :
  ∃ fa fd,JM T W K mg x fi st fa fd/\∀ (s:Shared) (us:List Value),us.length=(Zq st).length->BindsTo s fd ⟨us,[]⟩ ((Zq st).zip us):=by
 obtain⟨f,oc,od,an,sl,kV,doc,pm,cdv,ct,a,l,c,k⟩:=d.ex;have F:=Zbq (st:=st) l c k;exact⟨f,_,⟨F,PySem.W.mg_of KX G a,sc,F.binds (fun kV doc pm an cdv ct us hl=>b kV doc pm an cdv ct us hl),hp,hn,hc⟩,fun s us hl=>.of_eq (b _ _ _ _ _ _ us hl)⟩
theorem Zi0(KX:K.In h)(G:h.Ns mainGlobals mg)(b:∀ f∈blts,PySem.W.nsIn K mainGlobals f=some none):∀ f∈blts,mg f=none:=fun f hf=>PySem.W.mg_none_of KX G (b f hf)
theorem ZgA{T:Tab}{C:Str->FI->Prop}(h:∀ p∈T.fns,C p.1 p.2):∀ f fi,T.lookup f=some fi->C f fi:=fun f fi hl=>h (f,fi) (PySem.mem_of_lookup (l:=T.fns) hl)
end
open PySem L2
section
variable {T:Tab}{W k:Nat}{S:Sto}
theorem ZeC(hl:T.lookup f=some fi)(hp:ds.length=fi.ps):(Za T W (k+1)).fn f ds S=(evSs (Za T W k) W fi.body (ZQ fi.nn ds) S).bind fin:=by
 show ((T.lookup f).bind fun fi=>if ds.length=fi.ps then (evSs (Za T W k) W fi.body (ZQ fi.nn ds) S).bind fin else none)=_;rw[hl];show (if ds.length=fi.ps then _ else none)=_;rw[if_pos hp]
theorem ZeD:bltD S .abs [.int i]=some (.int (if i<0 then -i else i)):=rfl
theorem ZeE:bltD S .min [.int i,.int j]=some (.int (if j<i then j else i)):=rfl
theorem ZbV:bltD S .int [.bl b]=some (.int (if b then 1 else 0)):=rfl
theorem VA:bltD S .len [.lst ds]=some (.int ds.length):=rfl
theorem JQ:bltD S .len [.tup ds]=some (.int ds.length):=rfl
theorem Jx:Z9.lookup ("int":Str)=some "int":=by decide +kernel
theorem JO:Z9.lookup ("bool":Str)=some "bool":=by decide +kernel
theorem zD:isiD S (.int i) "int"=some true:=by rw[isiD,Jx];rfl
theorem qW:isiD S (.int i) "bool"=some false:=by rw[isiD,JO];rfl
theorem zE(h1:-(2 ^ 64)<i)(h2:i<2 ^ 64):binop S .Mult (.int i) (.int j)=some (.int (i * j)):=by
 show (if MulOk i j then some (D.int (i * j)) else none)=_;rw[if_pos (.inl ⟨h1,h2⟩)]
theorem zF(h1:-(2 ^ 64)<j)(h2:j<2 ^ 64):binop S .Mult (.int i) (.int j)=some (.int (i * j)):=by
 show (if MulOk i j then some (D.int (i * j)) else none)=_;rw[if_pos (.inr (.inl ⟨h1,h2⟩))]
theorem ZeF(h1:i.natAbs<2 ^ 100000)(h2:j.natAbs<2 ^ 100000):binop S .Mult (.int i) (.int j)=some (.int (i * j)):=by
 show (if MulOk i j then some (D.int (i * j)) else none)=_;rw[if_pos (.inr (.inr ⟨h1,h2⟩))]
theorem ZeG(h:0<j):binop S .Mod (.int i) (.int j)=some (.int (i % j)):=by
 show (if 0<j then some (D.int (i % j)) else none)=_;rw[if_pos h]
theorem ZgB(h:j<=10 ^ 70):j<bigJ:=by
 have e:(10:Int) ^ 70<bigJ:=by unfold bigJ;decide +kernel
 lia
theorem ZcO(h:0<j)(h2:j<=10 ^ 70):binop S .FloorDiv (.int i) (.int j)=some (.int (i / j)):=by
 show (if 0<j/\j<bigJ then some (D.int (i / j)) else none)=_;rw[if_pos ⟨h,ZgB h2⟩]
theorem pow10(h:0<=n)(h2:n<=1000):binop S .Pow (.int 10) (.int n)=some (.int (10 ^ n.toNat)):=by
 show (if Um 10 n then some (D.int (10 ^ n.toNat)) else none)=_;rw[if_pos ⟨h,.inl ⟨by lia,by decide⟩⟩]
end
open PySem L2
inductive Ev(o:Option (D×Sto))(P:D->Sto->Prop):Prop
 |it (d:D) (S:Sto) (e:o=some (d,S)) (k:P d S)
inductive Es(o:Option (List D×Sto))(P:List D->Sto->Prop):Prop
 |it (d:List D) (S:Sto) (e:o=some (d,S)) (k:P d S)
inductive Eo(o:Option (Option Int×Sto))(P:Option Int->Sto->Prop):Prop
 |it (d:Option Int) (S:Sto) (e:o=some (d,S)) (k:P d S)
inductive Eg(o:Option (En×Sto))(P:En->Sto->Prop):Prop
 |it (d:En) (S:Sto) (e:o=some (d,S)) (k:P d S)
inductive Op{α:Type}(o:Option α)(P:α->Prop):Prop
 |it (d:α) (e:o=some d) (k:P d)
inductive Fo(o:Option Fl)(P:Fl->Prop):Prop
 |it (f:Fl) (e:o=some f) (k:P f)
def V7(c:Cl)(W:Nat)(ss:Sms)(P:Fl->Prop):Fl->Prop
 |.nx e S=>Fo (evSs c W ss e S) P
 |.rt d S=>P (.rt d S)
 |.bk e S=>P (.bk e S)
 |.ct e S=>P (.ct e S)
def finK(P:D->Sto->Prop):Fl->Prop
 |.rt d S=>P d S
 |.nx _ S=>P .non S
 |_=>False
section
variable {c:Cl}{W:Nat}{env:En}{S:Sto}{P:D->Sto->Prop}{Q:Fl->Prop}{R:List D->Sto->Prop}{G:En->Sto->Prop}
theorem Op.mk{α:Type}{o:Option α}{a:α}{P:α->Prop}(h:o=some a)(k:P a):Op o P:=⟨a,h,k⟩
theorem Ev.mono{P P':D->Sto->Prop}(h:Ev o P)(k:∀ d S,P d S->P' d S):Ev o P':=by
 obtain⟨d,S,e,p⟩:=h;exact⟨d,S,e,k d S p⟩
theorem Zc(h:env[i]?=some (some d))(k:P d S):Ev (ev c (.var i) env S) P:=⟨d,S,by dsimp only[ev];rw[h],k⟩
theorem JZ(k:P .non S):Ev (ev c .non env S) P:=⟨_,S,by dsimp only[ev],k⟩
theorem Zi1(k:P (.bl b) S):Ev (ev c (.bl b) env S) P:=⟨_,S,by dsimp only[ev],k⟩
theorem Zg(k:P (.int b) S):Ev (ev c (.int b) env S) P:=⟨_,S,by dsimp only[ev],k⟩
theorem Yj(k:P (.str b) S):Ev (ev c (.str b) env S) P:=⟨_,S,by dsimp only[ev],k⟩
theorem ZR(h:Ev (ev c a env S) fun x S1=>Ev (ev c b env S1) fun y S2=>Op (binop S2 op x y) fun d=>P d S2):Ev (ev c (.bin op a b) env S) P:=by
 obtain⟨x,S1,h1,y,S2,h2,d,h3,k⟩:=h;refine⟨d,S2,?_,k⟩;dsimp only[ev];rw[h1];show (ev c b env S1).bind _=_;rw[h2];show (binop S2 op x y).map _=_;rw[h3];rfl
theorem Yk(h:Ev (ev c a env S) fun x S1=>Op (truth S1 x) fun b=>P (.bl (!b)) S1):Ev (ev c (.not a) env S) P:=by
 obtain⟨x,S1,h1,b,h2,k⟩:=h;refine⟨_,S1,?_,k⟩;dsimp only[ev];rw[h1];show (truth S1 x).map _=_;rw[h2];rfl
theorem ZbW(h:Ev (ev c a env S) fun x S1=>Op (truth S1 x) fun t=>(t=true->Ev (ev c b env S1) P)/\(t=false->P x S1)):Ev (ev c (.and a b) env S) P:=by
 obtain⟨x,S1,h1,t,h2,k1,k2⟩:=h;cases t with
 | true=>
  obtain⟨y,S2,h3,k⟩:=k1 rfl;refine⟨y,S2,?_,k⟩;dsimp only[ev];rw[h1];show (truth S1 x).bind _=_;rw[h2];exact h3
 | false=>
  refine⟨x,S1,?_,k2 rfl⟩;dsimp only[ev];rw[h1];show (truth S1 x).bind _=_;rw[h2];rfl
theorem YO(h:Ev (ev c a env S) fun x S1=>Op (truth S1 x) fun t=>(t=true->P x S1)/\(t=false->Ev (ev c b env S1) P)):Ev (ev c (.or a b) env S) P:=by
 obtain⟨x,S1,h1,t,h2,k1,k2⟩:=h;cases t with
 | false=>
  obtain⟨y,S2,h3,k⟩:=k2 rfl;refine⟨y,S2,?_,k⟩;dsimp only[ev];rw[h1];show (truth S1 x).bind _=_;rw[h2];exact h3
 | true=>
  refine⟨x,S1,?_,k1 rfl⟩;dsimp only[ev];rw[h1];show (truth S1 x).bind _=_;rw[h2];rfl
theorem Y3(h:Ev (ev c x env S) fun x S1=>Op (truth S1 x) fun t=>(t=true->Ev (ev c a env S1) P)/\(t=false->Ev (ev c b env S1) P)):Ev (ev c (.ite x a b) env S) P:=by
 obtain⟨x',S1,h1,t,h2,k1,k2⟩:=h;cases t with
 | true=>
  obtain⟨y,S2,h3,k⟩:=k1 rfl;refine⟨y,S2,?_,k⟩;dsimp only[ev];rw[h1];show (truth S1 x').bind _=_;rw[h2];exact h3
 | false=>
  obtain⟨y,S2,h3,k⟩:=k2 rfl;refine⟨y,S2,?_,k⟩;dsimp only[ev];rw[h1];show (truth S1 x').bind _=_;rw[h2];exact h3
theorem ZA(h:Ev (ev c a env S) fun x S1=>Ev (ev c b env S1) fun y S2=>Op (cmpop S2 op x y) fun d=>P (.bl d) S2):Ev (ev c (.cmp op a b) env S) P:=by
 obtain⟨x,S1,h1,y,S2,h2,d,h3,k⟩:=h;refine⟨_,S2,?_,k⟩;dsimp only[ev];rw[h1];show (ev c b env S1).bind _=_;rw[h2];show (cmpop S2 op x y).map _=_;rw[h3];rfl
theorem Wl(h:Ev (ev c a env S) fun x S1=>Ev (ev c b env S1) fun y S2=>Op (cmpop S2 op x y) fun t=>(t=true->Ev (ev c e env S2) fun z S3=>Op (cmpop S3 op' y z) fun d=>P (.bl d) S3)/\(t=false->P (.bl false) S2)) :
  Ev (ev c (.cmp2 op op' a b e) env S) P:=by
 obtain⟨x,S1,h1,y,S2,h2,t,h3,k1,k2⟩:=h;cases t with
 | true=>
  obtain⟨z,S3,h4,d,h5,k⟩:=k1 rfl;refine⟨_,S3,?_,k⟩;dsimp only[ev];rw[h1];show (ev c b env S1).bind _=_;rw[h2];show (cmpop S2 op x y).bind _=_;rw[h3];show (ev c e env S2).bind _=_;rw[h4];show (cmpop S3 op' y z).map _=_;rw[h5];rfl
 | false=>
  refine⟨_,S2,?_,k2 rfl⟩;dsimp only[ev];rw[h1];show (ev c b env S1).bind _=_;rw[h2];show (cmpop S2 op x y).bind _=_;rw[h3];rfl
theorem UV(h:Ev (ev c a env S) fun x S1=>P (.bl (decide (x=.non))) S1):Ev (ev c (.isN a) env S) P:=by
 obtain⟨x,S1,h1,k⟩:=h;refine⟨_,S1,?_,k⟩;dsimp only[ev];rw[h1];rfl
theorem Zac(h:Ev (ev c a env S) fun x S1=>P (.bl (!decide (x=.non))) S1):Ev (ev c (.notN a) env S) P:=by
 obtain⟨x,S1,h1,k⟩:=h;refine⟨_,S1,?_,k⟩;dsimp only[ev];rw[h1];rfl
theorem V8(h:Ev (ev c a env S) fun x S1=>Op (isiD S1 x t) fun b=>P (.bl b) S1):Ev (ev c (.isi a t) env S) P:=by
 obtain⟨x,S1,h1,b,h2,k⟩:=h;refine⟨_,S1,?_,k⟩;dsimp only[ev];rw[h1];show (isiD S1 x t).map _=_;rw[h2];rfl
theorem Zm(h:Ev (ev c a env S) fun x S1=>Ev (ev c i env S1) fun y S2=>Op (subD S2 x y) fun d=>P d S2):Ev (ev c (.sub a i) env S) P:=by
 obtain⟨x,S1,h1,y,S2,h2,d,h3,k⟩:=h;refine⟨_,S2,?_,k⟩;dsimp only[ev];rw[h1];show (ev c i env S1).bind _=_;rw[h2];show (subD S2 x y).map _=_;rw[h3];rfl
theorem J0{a:Ex}{lo hi:Ox}(h:Ev (ev c a env S) fun x S1=>Eo (evO c lo env S1) fun l S2=>Eo (evO c hi env S2) fun u S3=>Op (Z2 S3 x l u) fun d=>P d S3):Ev (ev c (.slc a lo hi) env S) P:=by
 obtain⟨x,S1,h1,l,S2,h2,u,S3,h3,d,h4,k⟩:=h;refine⟨_,S3,?_,k⟩;dsimp only[ev];rw[h1];show (evO c lo env S1).bind _=_;rw[h2];show (evO c hi env S2).bind _=_;rw[h3];show (Z2 S3 x l u).map _=_;rw[h4];rfl
theorem qc{P:Option Int->Sto->Prop}(k:P none S):Eo (evO c .no env S) P:=⟨_,S,by dsimp only[evO],k⟩
theorem Y4{P:Option Int->Sto->Prop}(h:Ev (ev c e env S) fun x S1=>∃ i,x=.int i/\P (some i) S1):Eo (evO c (.yes e) env S) P:=by
 obtain⟨x,S1,h1,i,rfl,k⟩:=h;refine⟨_,S1,?_,k⟩;dsimp only[evO];rw[h1];rfl
theorem Zf(k:R [] S):Es (evs c .nil env S) R:=⟨_,S,by dsimp only[evs],k⟩
theorem Zb(h:Ev (ev c e env S) fun x S1=>Es (evs c es env S1) fun xs S2=>R (x::xs) S2):Es (evs c (.cons e es) env S) R:=by
 obtain⟨x,S1,h1,xs,S2,h2,k⟩:=h;refine⟨_,S2,?_,k⟩;dsimp only[evs];rw[h1];show (evs c es env S1).map _=_;rw[h2];rfl
theorem ZP(h:Es (evs c es env S) fun xs S1=>xs.length<=line/\P (.tup xs) S1):Ev (ev c (.tup es) env S) P:=by
 obtain⟨xs,S1,h1,hz,k⟩:=h;refine⟨_,S1,?_,k⟩;dsimp only[ev];rw[h1];show (if xs.length<=line then _ else _)=_;rw[if_pos hz]
theorem ZO(h:Es (evL c l env S) fun xs S1=>P (.lst xs) S1):Ev (ev c (.lv l) env S) P:=by
 obtain⟨xs,S1,h1,k⟩:=h;exact⟨_,_,by dsimp only[ev];rw[h1];rfl,k⟩
theorem Zdk(h:Es (evL c l env S) fun xs S1=>P (.ref S1.length) (S1++[.lst xs])):Ev (ev c (.lr l) env S) P:=by
 obtain⟨xs,S1,h1,k⟩:=h;exact⟨_,_,by dsimp only[ev];rw[h1];rfl,k⟩
theorem Jy(h:Es (evs c es env S) fun xs S1=>xs.length<=line/\R xs S1):Es (evL c (.dsp es) env S) R:=by
 obtain⟨xs,S1,h1,hz,k⟩:=h;exact⟨xs,S1,by dsimp only[evL];rw[h1];show (if xs.length<=line then _ else _)=_;rw[if_pos hz],k⟩
theorem V9(h:Es (evs c es env S) fun xs S1=>Op (bltL S1 f xs) fun ds=>R ds S1):Es (evL c (.blt f es) env S) R:=by
 obtain⟨xs,S1,h1,d,h2,k⟩:=h;exact⟨d,S1,by dsimp only[evL];rw[h1];show (bltL S1 f xs).map _=_;rw[h2];rfl,k⟩
theorem Va(h:c.gl x=some d)(k:P d S):Ev (ev c (.gl x) env S) P:=⟨d,S,by dsimp only[ev];rw[h];rfl,k⟩
theorem ZcP(h:S[r]?=some (.lst ds)):W8 S (.ref r)=true:=by
 show (items S (.ref r)).isSome=true;rw[items,h];rfl
theorem ZgC(h:Ev (ev c o env S) fun x S1=>W8 S1 x=true/\Es (evs c es env S1) fun xs S2=>Ev (mthD S2 m x xs) P):Ev (ev c (.mth o m es) env S) P:=by
 obtain⟨x,S1,h1,hl,xs,S2,h2,d,S3,h3,k⟩:=h;exact⟨d,S3,by dsimp only[ev];rw[h1];show (if W8 S1 x=true then _ else _)=_;rw[if_pos hl,h2];exact h3,k⟩
theorem Zn(h:Es (evs c es env S) fun xs S1=>Ev (c.fn f xs S1) P):Ev (ev c (.call f es) env S) P:=by
 obtain⟨xs,S1,h1,d,S2,h2,k⟩:=h;refine⟨d,S2,?_,k⟩;dsimp only[ev];rw[h1];exact h2
theorem Y5(h:Es (evs c es env S) fun xs S1=>Op (bltD S1 f xs) fun d=>P d S1):Ev (ev c (.blt f es) env S) P:=by
 obtain⟨xs,S1,h1,d,h2,k⟩:=h;refine⟨d,S1,?_,k⟩;dsimp only[ev];rw[h1];show (bltD S1 f xs).map _=_;rw[h2];rfl
theorem g_nm(k:G (env.set i (some d)) S):Eg (asg c (.name i) d env S) G:=⟨_,S,by dsimp only[asg],k⟩
theorem g_tp(k:Eg (asgs c ts ds env S) G):Eg (asg c (.tup ts) (.tup ds) env S) G:=by
 obtain⟨e,S1,h1,k⟩:=k;exact⟨e,S1,h1,k⟩
theorem Wa(k:G env S):Eg (asgs c .nil [] env S) G:=⟨env,S,by dsimp only[asgs],k⟩
theorem Yx(h:Eg (asg c t d env S) fun e1 S1=>Eg (asgs c ts ds e1 S1) G):Eg (asgs c (.cons t ts) (d::ds) env S) G:=by
 obtain⟨e1,S1,h1,e2,S2,h2,k⟩:=h;exact⟨e2,S2,by dsimp only[asgs];rw[h1];exact h2,k⟩
theorem g_sb(h:Ev (ev c o env S) fun x S1=>Ev (ev c i env S1) fun y S2=>∃ n kk ds j,x=.ref n/\y=.int kk/\S2[n]?=some (.lst ds)/\L2.ixN ds.length kk=some j/\G env (S2.set n (.lst (ds.set j d)))):Eg (asg c (.sub o i) d env S) G:=by
 obtain⟨x,S1,h1,y,S2,h2,n,kk,ds,j,rfl,rfl,h3,h4,k⟩:=h;refine⟨env,_,?_,k⟩;dsimp only[asg];rw[h1];show (ev c i env S1).bind _=_;rw[h2];show (match S2[n]? with | some (.lst ds)=>(L2.ixN ds.length kk).map fun j=>(env,S2.set n (.lst (ds.set j d))) | _=>none)=_
 rw[h3];show (L2.ixN ds.length kk).map _=_;rw[h4];rfl
theorem Zi2(h:Ev (ev c o env S) fun x S1=>Ev (ev c i env S1) fun y S2=>∃ n kk ds j ds',x=.ref n/\y=.int kk/\S2[n]?=some (.lst ds)/\L2.ixN ds.length kk=some j/\ds.set j d=ds' /\
  ∀ S3:Sto,S3[n]?=some (.lst ds')->(∀ m:Nat,m≠n->S3[m]?=S2[m]?)->S3.length=S2.length->G env S3):Eg (asg c (.sub o i) d env S) G:=by
 obtain⟨x,S1,h1,y,S2,h2,n,kk,ds,j,ds',rfl,rfl,h3,h4,h5,k⟩:=h;refine g_sb ⟨_,S1,h1,_,S2,h2,n,kk,ds,j,rfl,rfl,h3,h4,?_⟩;rw[h5];have hr:n<S2.length:=(List.getElem?_eq_some_iff.1 h3).1;exact k _ (getElem?_set_self hr) (fun m hm=>getElem?_set_ne (Ne.symm hm)) (by simp)
theorem Zj(k:Fo (evSs c W ss e S) Q):V7 c W ss Q (.nx e S):=k
theorem ZeH(k:Q (.rt d S)):V7 c W ss Q (.rt d S):=k
theorem ZgD(k:P d S):finK P (.rt d S):=k
theorem ZgE(k:P .non S):finK P (.nx e S):=k
theorem Yd(k:Q (.nx env S)):Fo (evSs c W .nil env S) Q:=⟨_,by dsimp only[evSs],k⟩
theorem Ze(h:Fo (evS c W s env S) (V7 c W ss Q)):Fo (evSs c W (.cons s ss) env S) Q:=by
 obtain⟨f,h1,k⟩:=h;cases f with
 | nx e S1=>
  obtain⟨g,h2,k⟩:=k;exact⟨g,by dsimp only[evSs];rw[h1];exact h2,k⟩
 |rt d S1=>exact⟨_,by dsimp only[evSs];rw[h1];rfl,k⟩
 |bk d S1=>exact⟨_,by dsimp only[evSs];rw[h1];rfl,k⟩
 |ct d S1=>exact⟨_,by dsimp only[evSs];rw[h1];rfl,k⟩
theorem ZF(h:Ev (ev c e env S) fun x S1=>Eg (asg c t x env S1) fun e2 S2=>Q (.nx e2 S2)):Fo (evS c W (.asg t e) env S) Q:=by
 obtain⟨x,S1,h1,e2,S2,h2,k⟩:=h;exact⟨_,by dsimp only[evS];rw[h1];show (asg c t x env S1).map _=_;rw[h2];rfl,k⟩
theorem o_ex(h:Ev (ev c e env S) fun x S1=>Q (.nx env S1)):Fo (evS c W (.ex e) env S) Q:=by
 obtain⟨x,S1,h1,k⟩:=h;exact⟨_,by dsimp only[evS];rw[h1];rfl,k⟩
theorem Zy(h:Ev (ev c e env S) fun x S1=>Q (.rt x S1)):Fo (evS c W (.ret e) env S) Q:=by
 obtain⟨x,S1,h1,k⟩:=h;exact⟨_,by dsimp only[evS];rw[h1];rfl,k⟩
theorem Zu(h:Ev (ev c x env S) fun x S1=>Op (truth S1 x) fun t=>(t=true->Fo (evSs c W a env S1) Q)/\(t=false->Fo (evSs c W b env S1) Q)):Fo (evS c W (.ifs x a b) env S) Q:=by
 obtain⟨x',S1,h1,t,h2,k1,k2⟩:=h;cases t with
 | true=>
  obtain⟨f,h3,k⟩:=k1 rfl;exact⟨f,by dsimp only[evS];rw[Yi h1 h2];exact h3,k⟩
 | false=>
  obtain⟨f,h3,k⟩:=k2 rfl;exact⟨f,by dsimp only[evS];rw[Yi h1 h2];exact h3,k⟩
def qd(N:En->Sto->Prop)(Q:Fl->Prop):Fl->Prop
 |.nx e S=>N e S
 |.ct e S=>N e S
 |.bk e S=>Q (.nx e S)
 |.rt d S=>Q (.rt d S)
theorem ZeI{N:En->Sto->Prop}(k:N e S):qd N Q (.nx e S):=k
theorem Zdl(ds:List D)(S1:Sto)(hi:evI c it env S=some (.vs ds,S1))(Pv:Nat->En->Sto->Prop)(h0:Pv 0 env S1)
  (hs:∀ (i:Nat) (d:D) (e2:En) (S2:Sto),ds[i]?=some d->Pv i e2 S2->Eg (asg c t d e2 S2) fun e3 S3=>Fo (evSs c W b e3 S3) (qd (Pv (i+1)) Q))(hd:∀ e2 S2,Pv ds.length e2 S2->Q (.nx e2 S2)):Fo (evS c W (.fr t it b) env S) Q:=by
 suffices gen:∀ (n i:Nat) e2 S2,i<=ds.length->n=ds.length - i->Pv i e2 S2->Fo (forL (.vs ds) (fun d e1 S1=>(asg c t d e1 S1).bind fun q=>evSs c W b q.1 q.2) (n+1) i e2 S2) Q by
  obtain⟨f,h1,k⟩:=gen ds.length 0 env S1 (zero_le _) rfl h0;refine⟨f,?_,k⟩;dsimp only[evS];rw[hi]
  exact h1
 intro n
 induction n with
 | zero=>
  intro i e2 S2 hle hn hp;have e:i=ds.length:=by lia
  subst e;refine⟨.nx e2 S2,?_,hd e2 S2 hp⟩;dsimp only[forL];show (some ds[ds.length]?).bind _=_;rw[getElem?_eq_none (oAl _)];rfl
 | succ n ih=>
  intro i e2 S2 hle hn hp;have hlt:i<ds.length:=by lia
  have hdd:ds[i]?=some ds[i]:=oAt hlt;obtain⟨e3,S3,h1,f,h2,k⟩:=hs i _ e2 S2 hdd hp;have hst:(asg c t ds[i] e2 S2).bind (fun q=>evSs c W b q.1 q.2)=some f:=by rw[h1];exact h2
  have un:∀ X,(match some f with
   |some (.nx e1 S1)=>forL (.vs ds) (fun d e1 S1=>(asg c t d e1 S1).bind fun q=>evSs c W b q.1 q.2) (n+1) (i+1) e1 S1
   |some (.ct e1 S1)=>forL (.vs ds) (fun d e1 S1=>(asg c t d e1 S1).bind fun q=>evSs c W b q.1 q.2) (n+1) (i+1) e1 S1
   |some (.bk e1 S1)=>some (.nx e1 S1)
   |some (.rt d S1)=>some (.rt d S1)
   |none=>none)=X->forL (.vs ds) (fun d e1 S1=>(asg c t d e1 S1).bind fun q=>evSs c W b q.1 q.2) (n+1+1) i e2 S2=X:=fun X hX=>by
   dsimp only[forL];show (some ds[i]?).bind _=_;rw[hdd];rw[<- hst] at hX;exact hX
  cases f with
  | nx e4 S4=>
   obtain⟨g,h5,k5⟩:=ih (i+1) e4 S4 hlt (by lia) k;exact⟨g,un _ h5,k5⟩
  | ct e4 S4=>
   obtain⟨g,h5,k5⟩:=ih (i+1) e4 S4 hlt (by lia) k;exact⟨g,un _ h5,k5⟩
  |bk e4 S4=>exact⟨_,un _ rfl,k⟩
  |rt d4 S4=>exact⟨_,un _ rfl,k⟩
inductive Et(o:Option (Bool×Sto))(P:Bool->Sto->Prop):Prop
 |it (b:Bool) (S:Sto) (e:o=some (b,S)) (k:P b S)
theorem Ys{P:Bool->Sto->Prop}(k:P true S):Et (evTs c .nil env S) P:=⟨_,S,by dsimp only[evTs],k⟩
theorem Vb{P:Bool->Sto->Prop}(h:Ev (ev c e env S) fun x S1=>Op (truth S1 x) fun t=>(t=true->Et (evTs c es env S1) P)/\(t=false->P false S1)):Et (evTs c (.cons e es) env S) P:=by
 obtain⟨x,S1,h1,t,h2,k1,k2⟩:=h;cases t with
 | true=>
  obtain⟨b,S2,h3,k⟩:=k1 rfl;refine⟨b,S2,?_,k⟩;dsimp only[evTs];rw[h1];show (truth S1 x).bind _=_;rw[h2];exact h3
 | false=>
  refine⟨false,S1,?_,k2 rfl⟩;dsimp only[evTs];rw[h1];show (truth S1 x).bind _=_;rw[h2];rfl
theorem Ym(r:Sr)(ds:List D)(S1:Sto)(hi:evI c it env S=some (r,S1))(Pv:Nat->En->Sto->List D->Prop)(h0:Pv 0 (ZG own caps env) S1 [])
  (hr:r=.vs ds\/(ds.length<=line/\∃ m,r=.rf m/\∀ i e2 S2 acc,Pv i e2 S2 acc->S2[m]?=some (.lst ds)))
  (hs:∀ (i:Nat) (d:D) (e2:En) (S2:Sto) (acc:List D),ds[i]?=some d->Pv i e2 S2 acc->Eg (asg c t d e2 S2) fun e3 S3=>Et (evTs c ifs e3 S3) fun b S4=>(b=true->Ev (ev c elt e3 S4) fun x S5=>acc.length<line/\Pv (i+1) e3 S5 (acc++[x]))/\(b=false->Pv (i+1) e3 S4 acc))
  (hd:∀ e2 S2 acc,Pv ds.length e2 S2 acc->R acc S2):Es (evL c (.comp own caps t it ifs elt) env S) R:=by
 have nx:∀ i e2 S2 acc,Pv i e2 S2 acc->r.nx i S2=some ds[i]?:=fun i e2 S2 acc hp=>by
  rcases hr with rfl | ⟨_,m,rfl,hm⟩
  ·rfl
  ·show (items S2 (.ref m)).map (fun ds'=>ds'[i]?)=_;rw[items,hm _ _ _ _ hp];rfl
 have fu:ds.length<r.fuel:=by
  rcases hr with rfl | ⟨hl,m,rfl,hm⟩
  ·exact oAs _
  ·have e:(Sr.rf m).fuel=line+2:=rfl;rw[e];lia
 suffices gen:∀ (n i m:Nat) e2 S2 acc,i<=ds.length->n=ds.length - i->n<m->Pv i e2 S2 acc->∃ acc' S3,Z0 r (ZX (fun d e S=>asg c t d e S) (fun e S=>evTs c ifs e S) (fun e S=>ev c elt e S)) m i e2 S2 acc=some (acc',S3)/\R acc' S3 by
  obtain⟨acc',S3,h1,k⟩:=gen ds.length 0 r.fuel _ S1 [] (zero_le _) rfl fu h0;refine⟨acc',S3,?_,k⟩;dsimp only[evL];rw[hi]
  exact h1
 intro n
 induction n with
 | zero=>
  intro i m e2 S2 acc hle hn hm hp;have e:i=ds.length:=by lia
  subst e;obtain⟨m,rfl⟩:∃ m',m=m'+1:=⟨m - 1,by lia⟩;refine⟨acc,S2,?_,hd e2 S2 acc hp⟩;dsimp only[Z0];rw[nx _ _ _ _ hp,getElem?_eq_none (oAl _)]
  rfl
 | succ n ih=>
  intro i m e2 S2 acc hle hn hm hp;have hlt:i<ds.length:=by lia
  have hdd:ds[i]?=some ds[i]:=oAt hlt;obtain⟨m,rfl⟩:∃ m',m=m'+1:=⟨m - 1,by lia⟩;obtain⟨e3,S3,h1,b,S4,h2,kt,kf⟩:=hs _ _ e2 S2 acc hdd hp;dsimp only[Z0];rw[nx _ _ _ _ hp,hdd]
  cases b with
  | true=>
   obtain⟨x,S5,h3,hz,k⟩:=kt rfl;have hst:ZX (fun d e S=>asg c t d e S) (fun e S=>evTs c ifs e S) (fun e S=>ev c elt e S) ds[i] e2 S2=some (some x,e3,S5):=by
    unfold ZX;dsimp only;rw[h1];show (evTs c ifs e3 S3).bind _=_;rw[h2];show (ev c elt e3 S4).map _=_;rw[h3];rfl
   obtain⟨acc',S6,h6,k6⟩:=ih (i+1) m e3 S5 (acc++[x]) hlt (by lia) (by lia) k;refine⟨acc',S6,?_,k6⟩;show (ZX _ _ _ ds[i] e2 S2).bind _=_;rw[hst];show (if acc.length<line then _ else _)=_;rw[if_pos hz];exact h6
  | false=>
   have hst:ZX (fun d e S=>asg c t d e S) (fun e S=>evTs c ifs e S) (fun e S=>ev c elt e S) ds[i] e2 S2=some (none,e3,S4):=by
    unfold ZX;dsimp only;rw[h1];show (evTs c ifs e3 S3).bind _=_;rw[h2];rfl
   obtain⟨acc',S6,h6,k6⟩:=ih (i+1) m e3 S4 acc hlt (by lia) (by lia) (kf rfl);refine⟨acc',S6,?_,k6⟩;show (ZX _ _ _ ds[i] e2 S2).bind _=_;rw[hst];exact h6
theorem Zw(hl:T.lookup f=some fi)(hp:ds.length=fi.ps)(h:Fo (evSs (Za T W k) W fi.body (ZQ fi.nn ds) S) (finK P)):Ev ((Za T W (k+1)).fn f ds S) P:=by
 obtain⟨fl,h1,k⟩:=h;rw[ZeC hl hp,h1];cases fl with
 |rt d S1=>exact⟨d,S1,rfl,k⟩
 |nx e S1=>exact⟨.non,S1,rfl,k⟩
 |bk e S1=>exact k.elim
 |ct e S1=>exact k.elim
variable {i j:Int}{PD:D->Prop}{PB:Bool->Prop}
theorem p_add(k:PD (.int (i+j))):Op (binop S .Add (.int i) (.int j)) PD:=⟨_,rfl,k⟩
theorem qe(k:PD (.int (i - j))):Op (binop S .Sub (.int i) (.int j)) PD:=⟨_,rfl,k⟩
theorem ZgF(h1:-(2 ^ 64)<i)(h2:i<2 ^ 64)(k:PD (.int (i * j))):Op (binop S .Mult (.int i) (.int j)) PD:=⟨_,zE h1 h2,k⟩
theorem ZgG(h1:-(2 ^ 64)<j)(h2:j<2 ^ 64)(k:PD (.int (i * j))):Op (binop S .Mult (.int i) (.int j)) PD:=⟨_,zF h1 h2,k⟩
theorem Zi3(h:0<j)(k:PD (.int (i % j))):Op (binop S .Mod (.int i) (.int j)) PD:=⟨_,ZeG h,k⟩
theorem ZgH(h:0<j)(h2:j<=10 ^ 70)(k:PD (.int (i / j))):Op (binop S .FloorDiv (.int i) (.int j)) PD:=⟨_,ZcO h h2,k⟩
theorem ZeJ(h:0<=n)(h2:n<=1000)(hv:(10:Int) ^ n.toNat=v)(k:PD (.int v)):Op (binop S .Pow (.int 10) (.int n)) PD:=⟨_,pow10 h h2,by rw[hv];exact k⟩
theorem c_lt(k:PB (decide (i<j))):Op (cmpop S .Lt (.int i) (.int j)) PB:=⟨_,rfl,k⟩
theorem c_le(k:PB (decide (i<=j))):Op (cmpop S .LtE (.int i) (.int j)) PB:=⟨_,rfl,k⟩
theorem c_gt(k:PB (decide (j<i))):Op (cmpop S .Gt (.int i) (.int j)) PB:=⟨_,rfl,k⟩
theorem c_ge(k:PB (decide (j<=i))):Op (cmpop S .GtE (.int i) (.int j)) PB:=⟨_,rfl,k⟩
theorem Vc(k:PB (decide (i=j))):Op (cmpop S .Eq (.int i) (.int j)) PB:=by
 refine⟨_,rfl,?_⟩;have e:decide (D.int i=D.int j)=decide (i=j):=by simp
 rw[e];exact k
theorem t_bl(k:PB b):Op (truth S (.bl b)) PB:=⟨_,rfl,k⟩
theorem two_of{p:Prop}[Decidable p]{A B:Prop}(h1:p->A)(h2:¬ p->B):(decide p=true->A)/\(decide p=false->B):=⟨fun h=>h1 (oAj h),fun h=>h2 (of_decide_eq_false h)⟩
theorem two_t{A B:Prop}(h:A):(true=true->A)/\(true=false->B):=⟨fun _=>h,fun z=>nomatch z⟩
theorem two_f{A B:Prop}(h:B):(false=true->A)/\(false=false->B):=⟨fun z=>(nomatch z),fun _=>h⟩
theorem two_nt{A B:Prop}(h:A):((!false)=true->A)/\((!false)=false->B):=⟨fun _=>h,fun z=>nomatch z⟩
theorem two_nf{A B:Prop}(h:B):((!true)=true->A)/\((!true)=false->B):=⟨fun z=>(nomatch z),fun _=>h⟩
theorem ZB(h:L2.atI ds i=some d)(k:PD d):Op (subD S (.lst ds) (.int i)) PD:=⟨d,h,k⟩
theorem Zp(h:L2.atI ds i=some d)(k:PD d):Op (subD S (.tup ds) (.int i)) PD:=⟨d,h,k⟩
theorem ZeK(hS:S[n]?=some (.lst ds))(h:L2.atI ds i=some d)(k:PD d):Op (subD S (.ref n) (.int i)) PD:=⟨d,by show (items S (.ref n)).bind (fun ds=>L2.atI ds i)=some d;rw[items,hS];exact h,k⟩
end
open PySem L2
def Gr(S S':Sto):Prop:=∃ z,S'=S++z
theorem Gr.refl:Gr S S:=⟨[],by simp⟩
theorem Gr.trans(a:Gr S S1)(b:Gr S1 S2):Gr S S2:=by
 obtain⟨z,rfl⟩:=a;obtain⟨y,rfl⟩:=b;exact⟨z++y,by simp⟩
theorem Gr.one:Gr S (S++[o]):=⟨[o],rfl⟩
theorem Gr.get{S S':Sto}(g:Gr S S'){r:Nat}{o:Ob}(h:S[r]?=some o):S'[r]?=some o:=by
 obtain⟨z,rfl⟩:=g;rw[getElem?_append_left (List.getElem?_eq_some_iff.1 h).1];exact h
def Fr(r:Nat)(S S':Sto):Prop:=S.length<=S'.length/\∀ m,m<S.length->m≠r->S'[m]?=S[m]?
theorem Fr.refl:Fr r S S:=⟨oAl _,fun _ _ _=>rfl⟩
theorem Fr.trans(a:Fr r S S1)(b:Fr r S1 S2):Fr r S S2:=
 ⟨oAq a.1 b.1,fun m hm hr=>(b.2 m (oAo hm a.1) hr).trans (a.2 m hm hr)⟩
theorem Zi4(hl:S'.length=S.length)(ho:∀ m:Nat,m≠r->S'[m]?=S[m]?):Fr r S S':=⟨by omega,fun m _ hm=>ho m hm⟩
theorem Fr.get(f:Fr r S S')(hr:m≠r)(h:S[m]?=some o):S'[m]?=some o:=by
 rw[f.2 m (List.getElem?_eq_some_iff.1 h).1 hr];exact h
theorem Yy:(S++[o])[S.length]?=some o:=by simp
theorem Vd:(S++[o]).set S.length o'=S++[o']:=by simp
section
variable {c:Cl}{W:Nat}{env:En}{S:Sto}{P:D->Sto->Prop}{Q:Fl->Prop}{G:En->Sto->Prop}{i j:Int}{PD:D->Prop}{PB:Bool->Prop}
theorem UW(h:bltD S b ds=some d)(k:PD d):Op (bltD S b ds) PD:=⟨d,h,k⟩
theorem Jz{x d:D}{lo hi:Option Int}(h:Z2 S x lo hi=some d)(k:PD d):Op (Z2 S x lo hi) PD:=⟨d,h,k⟩
theorem ZbX(hz:xs.length+ys.length<=line)(k:PD (.tup (xs++ys))):Op (binop S .Add (.tup xs) (.tup ys)) PD:=⟨_,by show (if xs.length+ys.length<=line then some (D.tup (xs++ys)) else none)=_;rw[if_pos hz],k⟩
theorem ZgI(h1:i.natAbs<2 ^ 100000)(h2:j.natAbs<2 ^ 100000)(k:PD (.int (i * j))):Op (binop S .Mult (.int i) (.int j)) PD:=⟨_,ZeF h1 h2,k⟩
theorem Zdm(k:PB (!decide (i=j))):Op (cmpop S .NotEq (.int i) (.int j)) PB:=by
 refine⟨_,rfl,?_⟩;have e:decide (D.int i=D.int j)=decide (i=j):=by simp
 rw[e];exact k
theorem Zad(h:n<=3840):((10:Int) ^ n).natAbs<2 ^ 100000:=by
 rw[Int.natAbs_pow];have h1:Int.natAbs 10 ^ n<=16 ^ n:=Nat.pow_le_pow_left (by decide) n;have h2:(16:Nat) ^ n=2 ^ (4 * n):=by rw[show (16:Nat)=2 ^ 4 by decide,<-Nat.pow_mul]
 have h3:(2:Nat) ^ (4 * n)<2 ^ 100000:=Nat.pow_lt_pow_right (by decide) (by lia);lia
theorem pow60:binop S .Pow (.int 10) (.int 60)=some (.int 1000000000000000000000000000000000000000000000000000000000000):=by
 rw[pow10 (by decide) (by decide)];rfl
theorem ZeL(k:P (.ref S.length) (S++[.dt []])):Ev (ev c .dnew env S) P:=⟨_,_,by dsimp only[ev],k⟩
theorem WU(h:S[n]?=some (.dt kvs)):dtOf S (.ref n)=some kvs:=by
 show (match S[n]? with | some (.dt kvs)=>some kvs | _=>none)=_;rw[h]
theorem Zae(h:Ev (ev c o env S) fun x S1=>∃ n kvs0,x=.ref n/\S1[n]?=some (.dt kvs0)/\Es (evs c es env S1) fun xs S2=>xs.length<=line/\Ev (ev c f env S2) fun z S3=>∃ kvs ks,S3[n]?=some (.dt kvs)/\ZW xs=some ks/\P ((valD kvs ks).getD z) S3):Ev (ev c (.dget o es f) env S) P:=by
 obtain⟨x,S1,h1,n,kvs0,rfl,h2,xs,S2,h3,hz,z,S3,h4,kvs,ks,h5,h6,k⟩:=h;refine⟨_,S3,?_,k⟩;dsimp only[ev];rw[h1]
 show (dtOf S1 (.ref n)).bind _=_;rw[WU h2];show (evs c es env S1).bind _=_;rw[h3];show (if xs.length<=line then _ else none)=_;rw[if_pos hz,h4];show (dtOf S3 (.ref n)).bind _=_;rw[WU h5];show (ZW xs).map _=_;rw[h6];rfl
theorem two_bn{p:Prop}[Decidable p]{A B:Prop}(h1:p->B)(h2:¬ p->A):((!decide p)=true->A)/\((!decide p)=false->B):=by
 by_cases h:p
 ·rw[oAi h];exact⟨fun z=>(nomatch z),fun _=>h1 h⟩
 ·rw[oAh h];exact⟨fun _=>h2 h,fun z=>(nomatch z)⟩
theorem Zaf{n i:Nat}{d:D}(h:((List.range n).map fun (k:Nat)=>D.int (0+(k:Int)))[i]?=some d):i<n/\d=.int i:=by
 have hi:i<n:=by
  have:=(List.getElem?_eq_some_iff.1 h).1;simpa using this
 refine⟨hi,?_⟩;rw[getElem?_map,List.getElem?_range hi] at h;have:=(oAk h).symm;rw[this];simp
theorem ZbY(he:ev c e env S=some (.int z,S'))(z1:-(2 ^ 62)<=z)(z2:z<2 ^ 62):evI c (.rng1 e) env S=some (.vs ((List.range z.toNat).map fun (k:Nat)=>D.int (0+(k:Int))),S'):=by
 dsimp only[evI];rw[he];show (if -(2 ^ 62)<=z/\z<2 ^ 62 then _ else _)=_;rw[if_pos ⟨z1,z2⟩]
theorem UX(h:Ev (ev c a env S) fun d S1=>∃ (z:Int) (Pv:Nat->En->Sto->Prop),d=.int z/\-(2 ^ 62)<=z/\z<2 ^ 62/\Pv 0 env S1 /\
      (∀ (i:Nat) (e2:En) (S2:Sto),i<z.toNat->Pv i e2 S2->Eg (asg c t (.int i) e2 S2) fun e3 S3=>Fo (evSs c W b e3 S3) (qd (Pv (i+1)) Q))/\(∀ e2 S2,Pv z.toNat e2 S2->Q (.nx e2 S2))):Fo (evS c W (.fr t (.rng1 a) b) env S) Q:=by
  obtain⟨d,S1,h1,z,Pv,rfl,z1,z2,h0,hs,hd⟩:=h;refine Zdl _ S1 (by dsimp only[evI];rw[h1];show (if -(2 ^ 62)<=z/\z<2 ^ 62 then _ else _)=_;rw[if_pos ⟨z1,z2⟩]) Pv h0 ?_ ?_
  · intro i d e2 S2 hi hp;obtain⟨a1,rfl⟩:=Zaf hi;exact hs i e2 S2 a1 hp
  · intro e2 S2 hp;refine hd e2 S2 ?_;simpa using hp
theorem ZaM(h:Ev (ev c e env S) fun d S1=>∃ (ds:List D) (Pv:Nat->En->Sto->Prop),vals d=some ds/\Pv 0 env S1 /\
      (∀ (i:Nat) (d:D) (e2:En) (S2:Sto),ds[i]?=some d->Pv i e2 S2->Eg (asg c t d e2 S2) fun e3 S3=>Fo (evSs c W b e3 S3) (qd (Pv (i+1)) Q))/\(∀ e2 S2,Pv ds.length e2 S2->Q (.nx e2 S2))):Fo (evS c W (.fr t (.seq e) b) env S) Q:=by
  obtain⟨d,S1,h1,ds,Pv,hv,h0,hs,hd⟩:=h;refine Zdl ds S1 ?_ Pv h0 hs hd;dsimp only[evI];rw[h1]
  cases d<;>first | (cases hv;done) | (cases hv;rfl)
end
open PySem PySem.Spec PyProof.Rows L2
def GlIn(K:Frag)(x:Str)(d:D):Prop:=∃ (u:Value) (v:V),PySem.W.nsIn K mainGlobals x=some (some u)/\RelV v u/\∀ mu H,RD K mu H d v
section
variable {K:Frag}{mg:Str->Option Value}
theorem gl_str{x s s':Str}{tk:Tok}(h:PySem.W.nsIn K mainGlobals x=some (some (.str s' tk)))(e:s'=s):GlIn K x (.str s):=by
 subst e;exact⟨_,.str s',h,⟨tk,rfl⟩,fun mu H=>by dsimp only[RD]⟩
theorem gl_int{x:Str}{z:Int}{tk:Tok}(h:PySem.W.nsIn K mainGlobals x=some (some (.int z tk))):GlIn K x (.int z):=⟨_,.int z,h,⟨tk,rfl⟩,fun mu H=>by dsimp only[RD]⟩
theorem ZgJ{T:Tab}{h:Heap}(KX:K.In h)(G:h.Ns mainGlobals mg)(b:∀ p∈T.gls,GlIn K p.1 p.2):∀ x d,T.gls.lookup x=some d->∃ u v,mg x=some u/\RelV v u/\∀ mu H,RD K mu H d v:=fun x d hl=>by
 obtain⟨u,v,h1,h2,h3⟩:=b (x,d) (PySem.mem_of_lookup (l:=T.gls) hl);exact⟨u,v,PySem.W.mg_of KX G h1,h2,h3⟩
end
open PySem PySem.Spec PyProof.Rows L2
section
variable {c:Cl}{W:Nat}{env:En}{S:Sto}{P:D->Sto->Prop}{Q:Fl->Prop}
theorem JA(h:Ev (ev c a env S) fun d S1=>∃ n C fs v,d=.ref n/\S1[n]?=some (.ins C fs)/\c.fd C x=true/\fs.lookup x=some v/\P v S1):Ev (ev c (.fld a x) env S) P:=by
 obtain⟨d,S1,h1,n,C,fs,v,rfl,h2,h3,h4,k⟩:=h;refine⟨v,S1,?_,k⟩;dsimp only[ev];rw[h1]
 show (match S1[n]? with
   |some (.ins C fs)=>if c.fd C x then (fs.lookup x).map fun d=>(d,S1) else none
   |_=>none)=_
 rw[h2];show (if c.fd C x then (fs.lookup x).map fun d=>(d,S1) else none)=_;rw[if_pos h3,h4];rfl
theorem YA(h:Ev (ev c o env S) fun d S1=>∃ n C fs,d=.ref n/\S1[n]?=some (.ins C fs)/\(fs.lookup m).isNone=true/\Es (evs c es env S1) fun xs S2=>Ev (c.mt (Zh C m) (.ref n::xs) S2) P):Ev (ev c (.mcl o m es) env S) P:=by
 obtain⟨d,S1,h1,n,C,fs,rfl,h2,h3,xs,S2,h4,v,S3,h5,k⟩:=h;refine⟨v,S3,?_,k⟩;dsimp only[ev];rw[h1]
 show (match S1[n]? with
   |some (.ins C fs)=>if (fs.lookup m).isNone then (evs c es env S1).bind fun q=>c.mt (Zh C m) (.ref n::q.1) q.2 else none
   |_=>none)=_
 rw[h2];show (if (fs.lookup m).isNone then (evs c es env S1).bind fun q=>c.mt (Zh C m) (.ref n::q.1) q.2 else none)=_;rw[if_pos h3,h4];exact h5
theorem qX(h:Es (evs c es env S) fun xs S1=>Ev (c.nw (Zh C "__init__") (.ref S1.length::xs) (S1++[.ins C []])) fun d S2=>d=.non/\P (.ref S1.length) S2):Ev (ev c (.new C es) env S) P:=by
 obtain⟨xs,S1,h1,d,S2,h2,rfl,k⟩:=h;refine⟨_,S2,?_,k⟩;dsimp only[ev];rw[h1]
 show (c.nw (Zh C "__init__") (.ref S1.length::xs) (S1++[.ins C []])).bind _=_;rw[h2];rfl
theorem Ut(h:Ev (ev c v env S) fun d S1=>Ev (ev c o env S1) fun e S2=>∃ n C fs,e=.ref n/\S2[n]?=some (.ins C fs)/\(c.fd C x=true/\fs.length<1000)/\Q (.nx env (S2.set n (.ins C (putN x d fs))))):Fo (evS c W (.fas o x v) env S) Q:=by
 obtain⟨d,S1,h1,e,S2,h2,n,C,fs,rfl,h3,h4,k⟩:=h;refine⟨_,?_,k⟩;dsimp only[evS];rw[h1]
 show (ev c o env S1).bind _=_;rw[h2];show (match S2[n]? with
   |some (.ins C fs)=>if c.fd C x=true/\fs.length<1000 then some (Fl.nx env (S2.set n (.ins C (putN x d fs)))) else none
   |_=>none)=_
 rw[h3];show (if c.fd C x=true/\fs.length<1000 then some (Fl.nx env (S2.set n (.ins C (putN x d fs)))) else none)=_;rw[if_pos h4]
theorem Ye(hl:T.mts.lookup f=some fi)(hp:ds.length=fi.ps)(h:Fo (evSs (Za T W k) W fi.body (ZQ fi.nn ds) S) (finK P)):Ev ((Za T W (k+1)).mt f ds S) P:=by
 obtain⟨fl,h1,kk⟩:=h;have e:(Za T W (k+1)).mt f ds S=(some fl).bind fin:=by
  show ((T.mts.lookup f).bind fun fi=>if ds.length=fi.ps then (evSs (Za T W k) W fi.body (ZQ fi.nn ds) S).bind fin else none)=_;rw[hl];show (if ds.length=fi.ps then (evSs (Za T W k) W fi.body (ZQ fi.nn ds) S).bind fin else none)=_;rw[if_pos hp,h1]
 rw[e];cases fl with
 |rt d S1=>exact⟨d,S1,rfl,kk⟩
 |nx e S1=>exact⟨.non,S1,rfl,kk⟩
 |bk e S1=>exact kk.elim
 |ct e S1=>exact kk.elim
end
section
variable {K:Frag}{mg:Str->Option Value}
structure Zk(K:Frag)(C m:Str)(st:Stmt):Prop where
 ex:∃ (Ca f:Addr) (q:Str) (oc:Value) (od an:Option Addr) (sl:Array (Option Value)) (kV doc pm cdv ct:Value),PySem.W.nsIn K mainGlobals C=some (some (.ref Ca))/\Cls K Ca/\(m="__init__"->PySem.W.makesIn K Ca=true/\PySem.W.keepIn K (.ref Ca)=true) /\
  PySem.W.findIn K (.ref Ca) m=some (some (.ref f))/\PySem.W.isFn K (.ref f)=true/\q=Zh C m /\
  K.lookup f=some ⟨oc,od,.func (PySem.W.fnOf m q (Z7 st) (ZJ st) (Zo st) .none kV doc pm an cdv ct),sl⟩/\PySem.W.codeIn K cdv q=true/\PySem.W.keepIn K (.ref f)=true
theorem Zk.mk'{C m:Str}{st:Stmt}{Ca f:Addr}{q:Str}{oc:Value}{od an:Option Addr}{sl:Array (Option Value)}{kV doc pm cdv ct:Value}(a:PySem.W.nsIn K mainGlobals C=some (some (.ref Ca)))
  (fi:PySem.W.findIn K (.ref Ca) m=some (some (.ref f)))(l:K.lookup f=some ⟨oc,od,.func (PySem.W.fnOf m q (Z7 st) (ZJ st) (Zo st) .none kV doc pm an cdv ct),sl⟩)(e:q=Zh C m)
  (c1:PySem.W.plainGet K Ca Str.empty=true)(c2:PySem.W.hasDictIn K Ca=true)(c3:PySem.W.plainOver K Ca=true)(c4:PySem.W.findIn K (.ref Ca) "__setattr__"=some (some (.builtin "object.__setattr__")))
  (mk:PySem.W.makesIn K Ca=true)(kc:PySem.W.keepIn K (.ref Ca)=true)(fn:PySem.W.isFn K (.ref f)=true)(cd:PySem.W.codeIn K cdv q=true)(kf:PySem.W.keepIn K (.ref f)=true):Zk K C m st:=
 ⟨⟨Ca,f,q,oc,od,an,sl,kV,doc,pm,cdv,ct,a,⟨c1,c2,c3,c4⟩,fun _=>⟨mk,kc⟩,fi,fn,e,l,cd,kf⟩⟩
def Z5(m q:Str)(st:Stmt):Prop:=∀ (kV doc pm:Value) (an:Option Addr) (cdv ct:Value) (us:List Value),us.length=(Zq st).length->bindArgs (PySem.W.fnOf m q (Z7 st) (ZJ st) (Zo st) .none kV doc pm an cdv ct) ⟨us,[]⟩=pure ((Zq st).zip us)
theorem Zk.ok{T:Tab}{W:Nat}{h:Heap}{C m:Str}{st:Stmt}{fi:FI}(KX:K.In h)(G:h.Ns mainGlobals mg)(d:Zk K C m st)(sc:Yl (namesOf st) (Zq st) (Zo st))(b:Z5 m (Zh C m) st)
  (hp:(Zq st).length=fi.ps)(hn:(namesOf st).length=fi.nn)(hc:∀ (k:Nat) (X:Cx),RX X T W k (Zo st).names (namesOf st)->PSs X (ZJ st) (tSt X.K (evSs (Za T W k) W fi.body))):∃ st Ca fa fd,JN T W K mg C m fi st Ca fa fd:=by
 obtain⟨Ca,f,q,oc,od,an,sl,kV,doc,pm,cdv,ct,h1,h2,h3,h4,h5,rfl,h6,h7,h8⟩:=d.ex;refine⟨st,Ca,f,_,⟨⟨oc,od,kV,doc,pm,an,cdv,ct,sl,rfl,h6,h7⟩,h8⟩,h1,fun _=>⟨h2,h4,h5,h8⟩,fun e=>?_,sc,.all (fun us hl=>b _ _ _ _ _ _ us hl),hp,hn,hc⟩;subst e;exact⟨PySem.W.mg_of KX G h1,(h3 rfl).1,h4,h5,(h3 rfl).2⟩
def EntK(P:Params):List DictEntry->List (Str×Int)->Prop
 |[],[]=>True
 |e::es,(x,i)::kvs=>(∃ t,e.key=.str x t/\e.hash=PyData.keyHash P x)/\(∃ u,e.val=.int i u)/\EntK P es kvs
 |_,_=>False
theorem EntK.keys{P:Params}:∀ {es:List DictEntry}{kvs:List (Str×Int)},EntK P es kvs->PySem.W.KeysLit P es
 |[],[],_=>trivial
 |e::es,(x,i)::kvs,h=>⟨⟨x,h.1.choose,h.1.choose_spec⟩,EntK.keys h.2.2⟩
 |[],_::_,h=>h.elim
 |_::_,[],h=>h.elim
theorem EntK.find{P:Params}{y:Str}:∀ {es:List DictEntry}{kvs:List (Str×Int)},EntK P es kvs->es.any (·.refKey)=false/\(match kvs.lookup y with
      |some i=>∃ e t,es.find? (·.key.isStr y)=some e/\e.val=.int i t
      |none=>es.find? (·.key.isStr y)=none)
  |[],[],_=>⟨rfl,rfl⟩
  | e::es,(x,i)::kvs,h=>by
    obtain⟨⟨t,hk,_⟩,⟨u,hv⟩,hr⟩:=h;obtain⟨r1,r2⟩:=EntK.find (y:=y) hr;have e1:e.refKey=false:=by unfold DictEntry.refKey;rw[hk]
    refine⟨by rw[any_cons,e1,r1];rfl,?_⟩
    have e2:e.key.isStr y=(y==x):=by
      rw[hk];show (x==y)=(y==x);exact Bool.eq_iff_iff.2 (by rw[beq_iff_eq,beq_iff_eq];exact eq_comm)
    rw[lookup_cons,find?_cons,e2];cases q:y==x with
    |true=>exact⟨e,u,rfl,hv⟩
    |false=>exact r2
  |[],_::_,h=>h.elim
  |_::_,[],h=>h.elim
theorem Zdn{w:World}{h:Heap}{x:Str}{kvs:List (Str×Int)}{a:Addr}{es:Array DictEntry}{n:Nat}(KX:K.In h)(G:h.Ns mainGlobals mg)(h1:PySem.W.nsIn K mainGlobals x=some (some (.ref a)))(h2:K.lookup a=some ⟨.type "dict",none,.dict es n,#[]⟩)(he:EntK w.params es.toList kvs)(hs:(a==sysModules)=false):GdF K w mg x kvs:=by
 refine⟨a,es,n,PySem.W.mg_of KX G h1,h2,he.keys,hs,fun y=>?_⟩;obtain⟨r1,r2⟩:=he.find (y:=y);unfold PySem.W.nsIn;rw[h2];dsimp only;cases q:kvs.lookup y with
 | none=>
  rw[q] at r2;rw[show es.toList.find? (·.key.isStr y)=none from r2];refine⟨none,?_,rfl⟩;show (if es.toList.any (·.refKey) then none else some none)=_;rw[r1];rfl
 | some i=>
  rw[q] at r2;obtain⟨e,t,h3,h4⟩:=r2;rw[h3];exact⟨some e.val,rfl,t,by rw[h4]⟩
structure FdIn(K:Frag)(C x:Str):Prop where
 ex:∃ Ca:Addr,PySem.W.nsIn K mainGlobals C=some (some (.ref Ca))/\Cls K Ca/\Yq K Ca x
theorem FdIn.mk'(a:PySem.W.nsIn K mainGlobals C=some (some (.ref Ca)))(n:PySem.W.findIn K (.ref Ca) x=some none)(c1:PySem.W.plainGet K Ca Str.empty=true)(c2:PySem.W.hasDictIn K Ca=true)(c3:PySem.W.plainOver K Ca=true)
  (c4:PySem.W.findIn K (.ref Ca) "__setattr__"=some (some (.builtin "object.__setattr__"))):FdIn K C x:=⟨⟨Ca,a,⟨c1,c2,c3,c4⟩,n⟩⟩
theorem Zi5(h:∀ p∈T.fds,FdIn K p.1 p.2):FdF T K:=fun C x Ca hc hn=>by
 obtain⟨Cb,h1,h2,h3⟩:=(h (C,x) (List.contains_iff_mem.1 hc)).ex;rw[h1] at hn;cases hn
 exact⟨h2,h3⟩
theorem WV:∀ (a a0 b b0:List Nat),46∉a0->46∉b0->a++46::b=a0++46::b0->a=a0/\b=b0
 |[],[],b,b0,_,_,e=>⟨rfl,(List.cons.inj e).2⟩
 |[],x::a0,b,b0,h,_,e=>absurd (List.mem_cons.2 (.inl (List.cons.inj e).1)) h
 |x::a,[],b,b0,_,h,e=>absurd (by rw[<- (List.cons.inj e).2];exact List.mem_append.2 (.inr (oAn ..))) h
 | x::a,y::a0,b,b0,h,h2,e=>by
  obtain⟨e1,e2⟩:=List.cons.inj e;obtain⟨r1,r2⟩:=WV a a0 b b0 (fun z=>h (oAm _ z)) h2 e2;exact⟨by rw[e1,r1],r2⟩
theorem ZbZ(h0:46∉C0.cps.toList)(h1:46∉m0.cps.toList)(e:Zh C m=Zh C0 m0):C=C0/\m=m0:=by
 have e2:C.cps.toList++46::m.cps.toList=C0.cps.toList++46::m0.cps.toList:=by
  have:=congrArg (fun s:Str=>s.cps.toList) e;have k:∀ A B:Str,(Zh A B).cps.toList=A.cps.toList++46::B.cps.toList:=fun A B=>by
   show (A.cps++((Str.ofString ".").cps++B.cps)).toList=_;rw[Array.toList_append,Array.toList_append];rfl
  rwa [k C m,k C0 m0] at this
 obtain⟨r1,r2⟩:=WV _ _ _ _ h0 h1 e2;exact⟨by cases C;cases C0;exact congrArg Str.mk (Array.toList_inj.1 r1),by cases m;cases m0;exact congrArg Str.mk (Array.toList_inj.1 r2)⟩
theorem ZeM(h:∀ p∈T.mts,∃ C m,p.1=Zh C m/\46∉C.cps.toList/\46∉m.cps.toList/\∃ st Ca fa fd,JN T W K mg C m p.2 st Ca fa fd):∀ C m fi,T.mts.lookup (Zh C m)=some fi->∃ st Ca fa fd,JN T W K mg C m fi st Ca fa fd:=fun C m fi hl=>by
 obtain⟨C0,m0,e,h0,h1,st,Ca,fa,fd,d⟩:=h (Zh C m,fi) (PySem.mem_of_lookup (l:=T.mts) hl);obtain⟨rfl,rfl⟩:=ZbZ h0 h1 e;exact⟨st,Ca,fa,fd,d⟩
noncomputable def ZeN:Stmt->List Stmt
 |.ClassDef _ _ _ body ..=>body
 |_=>[]
end
open PySem PySem.Spec PyProof.Rows L2
section
variable {c:Cl}{W:Nat}{env:En}{S:Sto}{P:D->Sto->Prop}{Q:Fl->Prop}{R:List D->Sto->Prop}{G:En->Sto->Prop}
theorem ZeO(h:Ev (ev c a env S) fun d S1=>∃ ds l,lsOf S1 d=some ds/\ZM ds=some l/\YQ x l=true/\P (.str (Str.join x l)) S1):Ev (ev c (.join x a) env S) P:=by
 obtain⟨d,S1,h1,ds,l,h2,h3,h4,k⟩:=h;refine⟨_,S1,?_,k⟩;dsimp only[ev];rw[h1]
 show (lsOf S1 d).bind _=_;rw[h2];show (ZM ds).bind _=_;rw[h3];show (if YQ x l=true then _ else _)=_;rw[if_pos h4]
theorem ZeP(h:Ev (ev c a env S) fun x S1=>Ev (ev c i env S1) fun y S2=>∃ ks kvs k d,y=.tup ks/\ks.length=3/\dtRd S2 x=some kvs/\ZW ks=some k/\valD kvs k=some d/\P d S2):Ev (ev c (.subK a i) env S) P:=by
 obtain⟨x,S1,h1,y,S2,h2,ks,kvs,k,d,rfl,h3,h4,h5,h6,kk⟩:=h;refine⟨d,S2,?_,kk⟩;dsimp only[ev];rw[h1]
 show (ev c i env S1).bind _=_;rw[h2];show (if ks.length=3 then _ else _)=_;rw[if_pos h3,h4];show (ZW ks).bind _=_;rw[h5];show (valD kvs k).map _=_;rw[h6];rfl
theorem Zi6(h:Ev (ev c o env S) fun x S1=>Ev (ev c i env S1) fun y S2=>∃ n ks kvs k,x=.ref n/\y=.tup ks/\S2[n]?=some (.dt kvs)/\(ks.length=3/\kvs.length<line)/\ZW ks=some k/\G env (S2.set n (.dt (putD kvs k d)))):Eg (asg c (.subK o i) d env S) G:=by
 obtain⟨x,S1,h1,y,S2,h2,n,ks,kvs,k,rfl,rfl,h3,h4,h5,kk⟩:=h;refine⟨env,_,?_,kk⟩;dsimp only[asg];rw[h1]
 show (ev c i env S1).bind _=_;rw[h2];show (match S2[n]? with
   |some (.dt kvs)=>if ks.length=3/\kvs.length<line then (ZW ks).map fun k=>(env,S2.set n (.dt (putD kvs k d))) else none
   |_=>none)=_
 rw[h3];show (if ks.length=3/\kvs.length<line then _ else _)=_;rw[if_pos h4,h5];rfl
theorem ZeQ(h:Ev (ev c a env S) fun d S1=>∃ ds l,lsOf S1 d=some ds/\ZM ds=some l/\(2<=(SX.ddS l).length/\(SX.ddS l).length<64/\l.length<4000)/\R ((YK (SX.ddS l)).map .str) S1):Es (evL c (.sset a) env S) R:=by
 obtain⟨d,S1,h1,ds,l,h2,h3,h4,k⟩:=h;refine⟨_,S1,?_,k⟩;dsimp only[evL];rw[h1]
 show (lsOf S1 d).bind _=_;rw[h2];show (ZM ds).bind _=_;rw[h3];show (if 2<=(SX.ddS l).length/\(SX.ddS l).length<64/\l.length<4000 then _ else _)=_;rw[if_pos h4]
theorem ZcQ(g:List Key×D->D)(E:En->Prop)(hv:env[i]?=some (some (.ref n)))(hS:S[n]?=some (.dt kvs))(hl:kvs.length<=1000000)(h0:E (ZG own caps env))
    (hs:∀ kv∈kvs,∀ e2,E e2->E (e2.set 1 (some (.tup (kv.1.map unkey))))/\Ev (ev c elt (e2.set 1 (some (.tup (kv.1.map unkey)))) (S.set n (.dtf kvs))) fun x S3=>x=g kv/\S3=S.set n (.dtf kvs))(k:R (kvs.map g) S):Es (evL c (.compD own caps (.name 1) (.var i) elt) env S) R:=by
  have hn:n<S.length:=(List.getElem?_eq_some_iff.1 hS).1;have gen:∀ (m j:Nat) (e2:En) (acc:List D),j<=kvs.length->m=kvs.length - j->E e2->acc=(kvs.take j).map g->∃ r,Z0 (.vs (kvs.map fun kv=>D.tup (kv.1.map unkey))) (ZX (fun d e S=>asg c (.name 1) d e S) (fun e S=>some (true,S)) (fun e S=>ev c elt e S)) (m+1) j e2 (S.set n (.dtf kvs)) acc=some (r,S.set n (.dtf kvs))/\r=kvs.map g:=by
    intro m
    induction m with
    | zero=>
      intro j e2 acc hj hm he ha;have ej:j=kvs.length:=by lia
      subst ej;refine⟨acc,?_,by rw[ha,take_length]⟩;dsimp only[Z0];show (some (kvs.map fun kv=>D.tup (kv.1.map unkey))[kvs.length]?).bind _=_;rw[getElem?_eq_none (by simp)];rfl
    | succ m ih=>
      intro j e2 acc hj hm he ha;have hlt:j<kvs.length:=by lia
      dsimp only[Z0];show ∃ r,(some (kvs.map fun kv=>D.tup (kv.1.map unkey))[j]?).bind _=_/\_;rw[getElem?_map,oAt hlt];obtain⟨h1,x,S3,h2,rfl,rfl⟩:=hs kvs[j] (getElem_mem hlt) e2 he;have hst:ZX (fun d e S=>asg c (.name 1) d e S) (fun e S=>some (true,S)) (fun e S=>ev c elt e S) (D.tup (kvs[j].1.map unkey)) e2 (S.set n (.dtf kvs))=some (some (g kvs[j]),e2.set 1 (some (.tup (kvs[j].1.map unkey))),S.set n (.dtf kvs)):=by
        have ha':asg c (.name 1) (D.tup (kvs[j].1.map unkey)) e2 (S.set n (.dtf kvs))=some (e2.set 1 (some (.tup (kvs[j].1.map unkey))),S.set n (.dtf kvs)):=by dsimp only[asg]
        unfold ZX;show (asg c (.name 1) (D.tup (kvs[j].1.map unkey)) e2 (S.set n (.dtf kvs))).bind _=_;rw[ha'];show ((ev c elt (e2.set 1 (some (.tup (kvs[j].1.map unkey)))) (S.set n (.dtf kvs))).map _)=_;rw[h2];rfl
      obtain⟨r,h3,h4⟩:=ih (j+1) (e2.set 1 (some (.tup (kvs[j].1.map unkey)))) (acc++[g kvs[j]]) (by lia) (by lia) h1 (by rw[ha,take_succ,oAt hlt,map_append];rfl)
      refine⟨r,?_,h4⟩;show (ZX _ _ _ _ e2 _).bind _=_;rw[hst];show (if acc.length<line then _ else _)=_;rw[if_pos (by rw[ha,length_map,length_take];show _<16777216;lia)]
      exact h3
  obtain⟨r,h1,rfl⟩:=gen kvs.length 0 (ZG own caps env) [] (by lia) (by lia) h0 rfl;refine⟨kvs.map g,S,?_,k⟩;dsimp only[evL];have hvar:ev c (.var i) env S=some (.ref n,S):=by dsimp only[ev];rw[hv]
  rw[hvar];show (match S[n]? with
      |some (.dt kvs)=>_
      |_=>none)=_
  rw[hS];show (Z0 _ _ (kvs.length+1) 0 (ZG own caps env) (S.set n (.dtf kvs)) []).bind _=_;rw[h1];show (match (S.set n (.dtf kvs))[n]? with
        |some (.dtf kvs')=>some (kvs.map g,(S.set n (.dtf kvs)).set n (.dt kvs'))
        |_=>none)=_
  rw[getElem?_set_self hn];show some (kvs.map g,(S.set n (.dtf kvs)).set n (.dt kvs))=_;rw[set_set];congr 2
  apply List.ext_getElem?;intro j;by_cases hj:n=j
  · subst hj;rw[getElem?_set_self hn,hS]
  · rw[getElem?_set_ne hj]
theorem ZcR(f:D->List Key×D)(E:En->Prop)(hi:evI c it env S=some (.vs ds,S))(hl:ds.length<=1000000)(h0:E (ZG own caps env))
  (hs:∀ d∈ds,∀ e2 S2,E e2->Eg (asg c t d e2 S2) fun e3 S3=>S3=S2/\E e3/\Es (evs c ks e3 S2) fun xs S4=>S4=S2/\xs.length<=line/\ZW xs=some (f d).1/\Ev (ev c v e3 S2) fun x S5=>S5=S2/\x=(f d).2)(k:P (.ref S.length) (S++[.dt ((ds.map f).foldl (fun a kv=>putD a kv.1 kv.2) [])])):Ev (ev c (.dcomp own caps t it ks v) env S) P:=by
 have Wo:∀ (a:List (List Key×D)) (kk:List Key) (x:D),(putD a kk x).length<=a.length+1:=fun a kk x=>by
  unfold putD;split<;>simp
 have fold_len:∀ (l:List (List Key×D)) (a:List (List Key×D)),(l.foldl (fun a kv=>putD a kv.1 kv.2) a).length<=a.length+l.length:=fun l=>by
  induction l with
  |nil=>intro a;simp
  |cons x l ih=>intro a;rw[foldl_cons];have:=ih (putD a x.1 x.2);have:=Wo a x.1 x.2;simp only[length_cons];lia
 have gen:∀ (m j:Nat) (e2:En),j<=ds.length->m=ds.length - j->E e2->dcL (.vs ds) (fun d e S'=>(asg c t d e S').bind fun q=>(evs c ks q.1 q.2).bind fun kk=>if kk.1.length<=line then (ZW kk.1).bind fun k=>(ev c v q.1 kk.2).bind fun x=>(match x.2[S.length]? with
   |some (.dt kvs)=>if kvs.length<line then some (q.1,x.2.set S.length (.dt (putD kvs k x.1))) else none
   |_=>none) else none) (m+1) j e2 (S++[.dt (((ds.take j).map f).foldl (fun a kv=>putD a kv.1 kv.2) [])])=some (S++[.dt ((ds.map f).foldl (fun a kv=>putD a kv.1 kv.2) [])]):=by
  intro m
  induction m with
  | zero=>
   intro j e2 hj hm he;have ej:j=ds.length:=by lia
   subst ej;dsimp only[dcL];show (some ds[ds.length]?).bind _=_;rw[getElem?_eq_none (oAl _),take_length];rfl
  | succ m ih=>
   intro j e2 hj hm he;have hlt:j<ds.length:=by lia
   dsimp only[dcL];show (some ds[j]?).bind _=_;rw[oAt hlt];obtain⟨e3,S3,h1,rfl,h2,xs,S4,h3,rfl,h4,h5,x,S5,h6,rfl,rfl⟩:=hs ds[j] (getElem_mem hlt) e2 (S++[.dt (((ds.take j).map f).foldl (fun a kv=>putD a kv.1 kv.2) [])]) he;show ((asg c t ds[j] e2 _).bind _).bind _=_;rw[h1];show ((evs c ks e3 _).bind _).bind _=_;rw[h3];show (if xs.length<=line then _ else _:Option (En×Sto)).bind _=_;rw[if_pos h4,h5];show ((ev c v e3 _).bind _).bind _=_;rw[h6];show (match (S++[Ob.dt (((ds.take j).map f).foldl (fun a kv=>putD a kv.1 kv.2) [])])[S.length]? with
   |some (.dt kvs)=>if kvs.length<line then some (e3,(S++[Ob.dt (((ds.take j).map f).foldl (fun a kv=>putD a kv.1 kv.2) [])]).set S.length (.dt (putD kvs (f ds[j]).1 (f ds[j]).2))) else none
   |_=>none:Option (En×Sto)).bind _=_
   rw[Yy];show (if (((ds.take j).map f).foldl (fun a kv=>putD a kv.1 kv.2) []).length<line then _ else _:Option (En×Sto)).bind _=_;have hz:=fold_len ((ds.take j).map f) [];rw[if_pos (by rw[length_map,length_take] at hz;simp only[length_nil] at hz;show _<16777216;lia),Vd]
   rw[Option.bind_some];dsimp only;have e:putD (((ds.take j).map f).foldl (fun a kv=>putD a kv.1 kv.2) []) (f ds[j]).1 (f ds[j]).2=((ds.take (j+1)).map f).foldl (fun a kv=>putD a kv.1 kv.2) []:=by
    rw[take_succ,oAt hlt,map_append,List.foldl_append];rfl
   rw[e];exact ih (j+1) e3 (by lia) (by lia) h2
 refine⟨_,_,?_,k⟩;dsimp only[ev];rw[hi]
 show (dcL (.vs ds) _ (ds.length+1) 0 (ZG own caps env) (S++[.dt []])).map _=_;have:=gen ds.length 0 (ZG own caps env) (by lia) (by lia) h0;rw[show (((ds.take 0).map f).foldl (fun a kv=>putD a kv.1 kv.2) [])=[] from by simp] at this;exact congrArg (Option.map fun S'=>(D.ref S.length,S')) this
end
end PF
open PySem L2 PF
set_option compiler.extract_closed false
local macro_rules | `(tactic| walk_at "s1") => `(tactic| first
 | with_reducible first
  |refine Zc rfl ?_ | refine Zg ?_ | refine ZR ?_ | refine Zi1 ?_ | refine JZ ?_ | refine Yj ?_ | refine p_add ?_ | refine qe ?_ | refine Zb ?_ | refine Zf ?_ | refine Zn ?_ | refine Y5 ?_ | refine Ze ?_ | refine Yd ?_ | refine ZF ?_ | refine g_nm ?_ | refine Zj ?_ | refine ZeH ?_ | refine ZgD ?_ | refine ZgE ?_ | refine Zy ?_ | refine ZA ?_ | refine Zm ?_ | refine Yk ?_ | refine ZbW ?_ | refine YO ?_ | refine V8 ?_ | refine UV ?_ | refine Zac ?_ | refine c_lt ?_ | refine c_le ?_ | refine c_gt ?_ | refine c_ge ?_ | refine Vc ?_ | refine Zdm ?_ | refine t_bl ?_ | refine J0 ?_ | refine qc ?_ | refine Y4 ?_ | refine Zi2 ?_ | refine g_tp ?_ | refine Yx ?_ | refine Wa ?_ | refine Zae ?_ | refine o_ex ?_ | refine ZeI ?_ | refine Op.mk ZeD ?_ | refine Op.mk ZeE ?_ | refine Op.mk ZbV ?_ | refine Op.mk VA ?_ | refine Op.mk JQ ?_ | refine Op.mk zD ?_ | refine Op.mk qW ?_ | refine two_t ?_ | refine two_f ?_ | refine two_nt ?_ | refine two_nf ?_ | refine ZO ?_ | refine ZP ?_ | refine Zdk ?_ | refine Jy ?_ | refine V9 ?_
 |(refine ZeK (by with_reducible assumption) rfl ?_) | (refine ZB rfl ?_) | (refine Zp rfl ?_) | (refine Zi3 (by first | with_reducible assumption | omega) ?_) | (refine ZgH (by omega) (by omega) ?_) | (refine ZgF (by omega) (by omega) ?_) | (refine ZgG (by omega) (by omega) ?_) | (refine ZeJ (by omega) (by omega) (by simp only[Int.reduceToNat,Int.reducePow];rfl) ?_)
 |((with_reducible refine' Exists.intro _ (Exists.intro _ (Exists.intro _ (Exists.intro _ (Exists.intro _ (And.intro rfl (And.intro rfl (And.intro ?ax (And.intro ?bx (And.intro ?cx ?dx))))))))));(case ax=>assumption);(case bx=>exact rfl);(case cx=>(simp only[Int.reduceToNat,List.set_cons_succ,List.set_cons_zero];rfl));intro Sn hSn hOn hLn) | (with_reducible refine And.intro (by simp only[length_cons,length_nil];decide) ?_) | (refine UW rfl ?_) | (refine Jz rfl ?_) | (with_reducible refine Exists.intro _ (And.intro rfl ?_)))
local macro_rules | `(tactic| walk_at "go") => `(tactic| repeat (walk_at "s1"))
local macro_rules | `(tactic| walk_at "st") => `(tactic| (dsimp only [ZQ, map_cons, map_nil, length_cons, length_nil, List.replicate, List.cons_append, nil_append, Nat.reduceSub, Nat.reduceAdd]; walk_at "go"))
local macro_rules | `(tactic| walk_at "r1") => `(tactic| first
 | with_reducible first
  |exact Ziv | refine Zf8 ?_ ?_ | exact Zgc | exact ZiI | exact Zgk | exact ZbR | refine ZiQ ?_ | refine q_if ?_ ?_ ?_ | refine ZiR (by assumption) ?_ ?_ ?_ | refine ZiP (by assumption) ?_ ?_ ?_ ?_ ?_ | refine Zgp (by assumption) ?_ ?_ ?_ | refine Zgo (by assumption) ?_ ?_ ?_ | refine ZiO ?_ ?_ ?_ ?_ ?_ | refine q_ex ?_ ?_ | refine Ziy (by assumption) ?_ ?_ ?_ | refine Zer ?_ | refine Ziz ?_ ?_ | refine' ZiT (by assumption) ?_ ?_ ?_ ?_ | refine' Zgs (by assumption) ?_ ?_ ?_ ?_ | refine ZiJ (by assumption) ?_ ?_ ?_ ?_ | refine Zgq (by assumption) ?_ ?_ ?_ ?_ | refine ZiE ?_ | refine Zgb ?_ | refine ZiA ?_ | refine Zga ?_ | refine ZiC ?_ ?_ | refine b_or ?_ ?_ | refine ZiB ?_ | refine ZiD ?_ ?_ ?_ | refine ZiG ?_ ?_ ?_ | refine Zgd ?_ | refine' ZiU (by assumption) ?_ ?_ ?_ ?_ ?_ | refine ZiF ?_ ?_ ?_ | refine Zgu (by assumption) ?_ ?_ ?_ | refine Zey (by assumption) ?_ ?_ ?_ | exact ZiZ | exact Zgt | refine Zgw (by assumption) ?_ ?_ ?_ ?_ | refine Zgv ?_ ?_ ?_ | refine Zez (by assumption) ?_ ?_ ?_ ?_ ?_ | refine ZeA (by assumption) ?_ ?_ ?_ ?_ ?_ | refine ZeB (by assumption) ?_ ?_ ?_ ?_ ?_ ?_ | refine ZiV (by assumption) ?_ ?_ | refine' ZiX (by assumption) ?_ ?_ ?_ ?_ ?_ | refine ZiY (by assumption) ?_ ?_ ?_ ?_ | refine ZiW (by assumption) ?_ ?_ ?_ | refine ZiH ?_ | refine r_lv ?_ | refine r_lr ?_ | refine Zge ?_ ?_ ?_ | refine ZiL (by assumption) ?_ ?_ ?_ ?_ ?_ | refine ZiK (by assumption) ?_ ?_ ?_ ?_ ?_ | refine Zgh (by assumption) ?_ ?_ ?_ ?_ ?_ | refine Zgg (by assumption) ?_ ?_ ?_ ?_ | refine Zgi (by assumption) ?_ ?_ ?_ ?_ ?_ ?_ | refine ZiM (by assumption) ?_ ?_ ?_ ?_ ?_ ?_ ?_ | refine Zev (by assumption) ?_ | refine ZiN (by assumption) ?_ ?_ ?_ ?_ ?_ | refine Zes (by assumption) ?_ ?_ ?_ | refine Zgr (by assumption) ?_ ?_ ?_ ?_ ?_ ?_ | refine Zgf ?_ ?_ | refine Zet (by assumption) ?_ ?_ | refine Zgl (by assumption) ?_ ?_ ?_ | refine Zeu ?_ ?_ ?_ | refine Zgj (by assumption) ?_ ?_ ?_ | refine Zgm ?_ | refine r_gl (by assumption) ?_ ?_
 |refine fun Y ry=>⟨?_,?_,?_⟩ | with_reducible assumption | decide +kernel | rfl | exact fun _=>rfl | with_reducible refine And.intro ?_ ?_)
local macro_rules | `(tactic| walk_at "b1") => `(tactic| exact fun _ _ _ _ _ _ us hl => match us, hl with | [_], _ => rfl)
local macro_rules | `(tactic| walk_at "b2") => `(tactic| exact fun _ _ _ _ _ _ us hl => match us, hl with | [_, _], _ => rfl)
local macro_rules | `(tactic| walk_at "b3") => `(tactic| exact fun _ _ _ _ _ _ us hl => match us, hl with | [_, _, _], _ => rfl)
local macro_rules | `(tactic| walk_at "b4") => `(tactic| exact fun _ _ _ _ _ _ us hl => match us, hl with | [_, _, _, _], _ => rfl)
local macro_rules | `(tactic| walk_at "sc") => `(tactic| exact ⟨rfl, rfl, rfl, by decide +kernel, by decide +kernel, by decide +kernel, by decide +kernel⟩)
local macro_rules | `(tactic| walk_at "dv") => `(tactic| (refine Zf8 ?_ ?_; repeat' walk_at "r1"))
namespace K06
open PySem L2 PF
noncomputable def top(i:Nat):Stmt:=PySem.Challenge.pw_firetogether_k06_slowed.main.body.getD i (.Pass ⟨0,0,0,0⟩)
noncomputable def mth(i j:Nat):Stmt:=(ZeN (top i)).getD j (.Pass ⟨0,0,0,0⟩)
end K06
abbrev HD.Under{P:Prop}(_:P)(Q:Prop):Prop:=Q
open PySem PySem.W in
theorem HQ.PySem.W.holds_open{P:Prop}{Z:P}{r:OpenRow}{q:Program}{loose:List Str}{α:Type}{N:Nat}
  {Xt:Shared->Bool}{Yf:Shared->α}{Ya:World->α}
  {XP:(Str->Option Value)->Heap->Prop}{YP:World->Heap->Prop}{d:DefRec}{kwd:List (Str×Expr)}
  (a1:LeftO r.prog q loose Xt Yf Ya N)
  (a2:∀ w s,Yf s=Ya w->YP w s.heap)
  (a3:∀ w h h',YP w h->(∀ b o,h.get? b=some o->h'.get? b=some o)->YP w h')
  (a4:∀ s,Xt s=true->XP (s.heap.nsMap mainGlobals) s.heap)
  (a5:∀ mg h h',XP mg h->(∀ b o,h.get? b=some o->h'.get? b=some o)->XP mg h')
  (a6:defOf q r.name=some (d,kwd))
  (a7:r.prog.theDef r.name=some (d.params,d.body,d.scope))
  (a8:kwWritten? d.params.kwonlyargs d.params.kw_defaults=some kwd)
  (a9:∀ s,Xt s=true->RecFacts r.records s.heap)
  (b1:(!r.writes||r.records.isEmpty)=true)
  (b2:r.wellSaid=true)
  (b3:(chainsOk q&&opensWell r.prog&&(frees r.toRowW&&r.within.isEmpty))=true)
  (b4:r.prog.bare)
  (b5:r.toRowW.promised)
  (b6:HD.Under Z (WalkO q loose XP YP r.toRowW d kwd fun f vs=>PySem.call f vs)):HD.Under Z r.Holds:=
 _root_.PySem.W.holds_open a1 a2 a3 a4 a5 a6 a7 a8 a9 b1 b2 b3 b4 b5 b6
local macro_rules | `(tactic| walk_at "d1") => `(tactic| (dsimp only [L2.KOf]; refine' PF.Zd.mk' ?a ?l ?c ?k; (case a => k_is); (case l => k_is); (case c => k_is); (case k => k_is)))
local macro_rules | `(tactic| walk_at "m1") => `(tactic| (dsimp only [L2.KOf]; refine' PF.Zk.mk' ?a ?fi ?l ?e ?c1 ?c2 ?c3 ?c4 ?mk ?kc ?fn ?cd ?kf; (case a => k_is); (case fi => k_is); (case l => k_is); (case e => rfl); (case c1 => k_is); (case c2 => k_is); (case c3 => k_is); (case c4 => k_is); (case mk => k_is); (case kc => k_is); (case fn => k_is); (case cd => k_is); (case kf => k_is)))
local macro_rules | `(tactic| walk_at "f1") => `(tactic| (dsimp only [L2.KOf]; refine' PF.FdIn.mk' ?a ?n ?c1 ?c2 ?c3 ?c4; (case a => k_is); (case n => k_is); (case c1 => k_is); (case c2 => k_is); (case c3 => k_is); (case c4 => k_is)))
local macro_rules | `(tactic| walk_at "g1") => `(tactic| (dsimp only [L2.KOf]; refine' PF.gl_str ?a ?e; (case a => k_is); (case e => first | rfl | decide +kernel)))
local macro_rules | `(tactic| walk_at "i1") => `(tactic| (dsimp only [L2.KOf]; refine' PF.gl_int ?a; (case a => k_is)))
namespace K06
open PySem L2 PF
theorem fm{α:Type}{p:α->Prop}{a:α}{l:List α}(h:p a)(t:∀ x∈l,p x):∀ x∈a::l,p x:=List.forall_mem_cons.2 ⟨h,t⟩
theorem blf{K:Frag}(b0:PySem.W.nsIn K mainGlobals "len"=some none)(b1:PySem.W.nsIn K mainGlobals "abs"=some none)(b2:PySem.W.nsIn K mainGlobals "min"=some none)(b3:PySem.W.nsIn K mainGlobals "max"=some none)(b4:PySem.W.nsIn K mainGlobals "int"=some none)(b5:PySem.W.nsIn K mainGlobals "bool"=some none)(b6:PySem.W.nsIn K mainGlobals "str"=some none)(b7:PySem.W.nsIn K mainGlobals "tuple"=some none)(b8:PySem.W.nsIn K mainGlobals "list"=some none)(b9:PySem.W.nsIn K mainGlobals "isinstance"=some none)(b10:PySem.W.nsIn K mainGlobals "range"=some none)(b11:PySem.W.nsIn K mainGlobals "enumerate"=some none)(b12:PySem.W.nsIn K mainGlobals "zip"=some none)(b13:PySem.W.nsIn K mainGlobals "all"=some none)(b14:PySem.W.nsIn K mainGlobals "any"=some none)(b15:PySem.W.nsIn K mainGlobals "divmod"=some none)(b16:PySem.W.nsIn K mainGlobals "sorted"=some none)(b17:PySem.W.nsIn K mainGlobals "set"=some none)(b18:PySem.W.nsIn K mainGlobals "dict"=some none)(b19:PySem.W.nsIn K mainGlobals "reversed"=some none)(b20:PySem.W.nsIn K mainGlobals "sum"=some none):∀ f∈blts,PySem.W.nsIn K mainGlobals f=some none:=by
 unfold blts;refine fm b0 ?_;refine fm b1 ?_;refine fm b2 ?_;refine fm b3 ?_;refine fm b4 ?_;refine fm b5 ?_;refine fm b6 ?_;refine fm b7 ?_;refine fm b8 ?_;refine fm b9 ?_;refine fm b10 ?_;refine fm b11 ?_;refine fm b12 ?_;refine fm b13 ?_;refine fm b14 ?_;refine fm b15 ?_;refine fm b16 ?_;refine fm b17 ?_;refine fm b18 ?_;refine fm b19 ?_;refine fm b20 ?_;exact forall_mem_nil _
end K06
namespace PySem.W.Fast
theorem tw349878861818824295:1=1:=rfl
theorem tw10074261270938459319:1=1:=rfl
theorem tw4032978169777125686:1=1:=rfl
theorem tw12422361940126361666:1=1:=rfl
theorem tw14140093152821975564:1=1:=rfl
theorem tw11554191258346066192:1=1:=rfl
theorem tw17033017269581385219:1=1:=rfl
theorem tw2050029534412275271:1=1:=rfl
theorem tw13812392871142171879:1=1:=rfl
theorem tw1920126902650469791:1=1:=rfl
theorem tw10926919814440276895:1=1:=rfl
theorem tw17058111225332365686:1=1:=rfl
theorem tw1427702902893980898:1=1:=rfl
theorem tw17907596613658227952:1=1:=rfl
theorem tw17885161013712013214:1=1:=rfl
theorem tw2850343567607579469:1=1:=rfl
theorem tw7434208865579015663:1=1:=rfl
theorem tw12225456694370978863:1=1:=rfl
theorem tw10772598642745645647:1=1:=rfl
theorem tw18141933048797661069:1=1:=rfl
theorem tw8103292743067688494:1=1:=rfl
theorem tw8572290909837705576:1=1:=rfl
theorem tw15857645819571251799:1=1:=rfl
theorem tw11762703171204765646:1=1:=rfl
theorem tw6509456256819884386:1=1:=rfl
theorem tw6104777775591623568:1=1:=rfl
theorem tw4275606724734880694:1=1:=rfl
theorem tw543042778576284124:1=1:=rfl
theorem tw17598247334789518739:1=1:=rfl
theorem tw6964087677262319772:1=1:=rfl
theorem tw10057624406737993536:1=1:=rfl
theorem tw4470542087749892547:1=1:=rfl
theorem tw5582713986784219564:1=1:=rfl
theorem tw10223906235356363460:1=1:=rfl
theorem tw13462828266031404753:1=1:=rfl
theorem tw18022889866364634709:1=1:=rfl
theorem tw1149618209810571863:1=1:=rfl
theorem tw6928325210728064206:1=1:=rfl
theorem tw18376377700425683507:1=1:=rfl
theorem tw11523567069830673295:1=1:=rfl
theorem tw13093073369823330673:1=1:=rfl
theorem tw15408379453356085155:1=1:=rfl
theorem tw8544483645253200243:1=1:=rfl
theorem tw3707476703439312397:1=1:=rfl
theorem tw4497288807934732657:1=1:=rfl
theorem tw18352935009625494285:1=1:=rfl
theorem tw16705458432886524091:1=1:=rfl
theorem tw9905273884657730495:1=1:=rfl
theorem tw10938868778406859103:1=1:=rfl
theorem tw6815911431398760679:1=1:=rfl
theorem tw991939271399512658:1=1:=rfl
theorem tw4724832042748166946:1=1:=rfl
theorem tw13070026340675208893:1=1:=rfl
theorem tw5906998808093784581:1=1:=rfl
theorem tw9014275622698590265:1=1:=rfl
theorem tw2807216716423494359:1=1:=rfl
theorem tw13293421461327848784:1=1:=rfl
theorem tw15725973220204442115:1=1:=rfl
theorem tw2049077819505838970:1=1:=rfl
theorem tw2510210366787435352:1=1:=rfl
theorem tw1675727700522469725:1=1:=rfl
theorem tw15770446361716646386:1=1:=rfl
theorem tw647594939341855599:1=1:=rfl
theorem tw2870279061566683920:1=1:=rfl
theorem tw8017256682331440631:1=1:=rfl
theorem tw1802083067788237354:1=1:=rfl
theorem tw301048902405470795:1=1:=rfl
theorem tw6368866579697354479:1=1:=rfl
theorem tw5043407042007874732:1=1:=rfl
theorem tw5644817444495789335:1=1:=rfl
theorem tw17540778769334815061:1=1:=rfl
theorem tw11916959670315666421:1=1:=rfl
theorem tw3480166143173165336:1=1:=rfl
theorem tw9032459989180187528:1=1:=rfl
theorem tw18352508426762290842:1=1:=rfl
theorem tw13599712936311392639:1=1:=rfl
theorem tw6904120281839609478:1=1:=rfl
theorem tw2839490266560940532:1=1:=rfl
theorem tw7640916422338878540:1=1:=rfl
theorem tw3613882549209961250:1=1:=rfl
theorem tw3375151456781359912:1=1:=rfl
theorem tw4044639568876168642:1=1:=rfl
theorem tw11232857145869858741:1=1:=rfl
theorem tw2395721927104795082:1=1:=rfl
theorem tw8533788705686978524:1=1:=rfl
theorem tw2678760523030225790:1=1:=rfl
theorem tw345818789167099126:1=1:=rfl
theorem tw15749273882845281891:1=1:=rfl
theorem tw7377785387196645995:1=1:=rfl
theorem tw10306190663663172776:1=1:=rfl
theorem tw5042863156745227718:1=1:=rfl
theorem tw17115014548616717254:1=1:=rfl
theorem tw4652537188216984787:1=1:=rfl
theorem tw10554487101952940596:1=1:=rfl
theorem tw5468591361691200936:1=1:=rfl
theorem tw4201934312450944550:1=1:=rfl
theorem tw9428627543353855634:1=1:=rfl
theorem tw18105859652214626350:1=1:=rfl
theorem tw17390815863423298815:1=1:=rfl
theorem tw13781816196461371090:1=1:=rfl
theorem tw16478338430921822060:1=1:=rfl
theorem tw6644071298394887440:1=1:=rfl
theorem tw16181148967710503362:1=1:=rfl
theorem tw15680703055513669847:1=1:=rfl
theorem tw18082768624210366891:1=1:=rfl
theorem tw109575237696498827:1=1:=rfl
theorem tw1366176599630977490:1=1:=rfl
theorem tw9173238435379312967:1=1:=rfl
theorem tw17323320196956549682:1=1:=rfl
theorem tw18242409285965033478:1=1:=rfl
theorem tw3415654243754407166:1=1:=rfl
theorem tw15253913398602147710:1=1:=rfl
theorem tw611585262375181274:1=1:=rfl
theorem tw1373464293179510130:1=1:=rfl
theorem tw11855207410841087326:1=1:=rfl
theorem tw13393806284001697085:1=1:=rfl
theorem tw1457867006071721615:1=1:=rfl
theorem tw5072869817374991280:1=1:=rfl
theorem tw13491994688673116822:1=1:=rfl
theorem tw336394417709833212:1=1:=rfl
theorem tw5128464527236869772:1=1:=rfl
theorem tw16909812047341334646:1=1:=rfl
theorem tw2328501569511360899:1=1:=rfl
theorem tw5795910360035555285:1=1:=rfl
theorem tw3026348141647231872:1=1:=rfl
theorem tw3283788000555107740:1=1:=rfl
theorem tw15308017695539761980:1=1:=rfl
theorem tw6773818668316274789:1=1:=rfl
theorem tw292540717894168366:1=1:=rfl
theorem tw12397091120155474034:1=1:=rfl
theorem tw3808702144545314192:1=1:=rfl
theorem tw9713369282005077650:1=1:=rfl
theorem tw3196951829559216998:1=1:=rfl
theorem tw14071476476317680917:1=1:=rfl
theorem tw10082648470863675408:1=1:=rfl
theorem tw14091194888111625062:1=1:=rfl
theorem tw7333091637938049237:1=1:=rfl
theorem tw8065434058926200607:1=1:=rfl
theorem tw9372384240746810939:1=1:=rfl
theorem tw9713203219891015511:1=1:=rfl
theorem tw8111649500476707055:1=1:=rfl
theorem tw9988152293325898094:1=1:=rfl
theorem tw2510659412667786929:1=1:=rfl
theorem tw2151758627789550111:1=1:=rfl
theorem tw13168969484038194168:1=1:=rfl
theorem tw26547979506656204:1=1:=rfl
theorem tw8951413435538820992:1=1:=rfl
theorem tw8364954358866098864:1=1:=rfl
theorem tw15312361970966533576:1=1:=rfl
theorem tw15983521301553995392:1=1:=rfl
theorem tw466936041542193711:1=1:=rfl
theorem tw10612693739058035948:1=1:=rfl
theorem tw2758487358566673585:1=1:=rfl
theorem tw1971098958769993423:1=1:=rfl
theorem tw8259898966608515332:1=1:=rfl
theorem tw8073334685383725155:1=1:=rfl
theorem tw14165288907165055605:1=1:=rfl
theorem tw6478575137721247925:1=1:=rfl
theorem tw13236996204831096481:1=1:=rfl
theorem tw12933847163788451901:1=1:=rfl
theorem tw6621457060466603586:1=1:=rfl
theorem tw9136954606610599876:1=1:=rfl
theorem tw11464754854685436274:1=1:=rfl
theorem tw5289264508985833613:1=1:=rfl
theorem tw194334626004952384:1=1:=rfl
theorem tw7495588211753438327:1=1:=rfl
end PySem.W.Fast
section
open PySem PySem.W PyProof.Rows L2 PF K06
structure K06.Rest(CX:CXT)(sp:Frag->Sp):Prop where
 F:∀ (w:World) (K:Frag) (mg:Str->Option Value) (fa:Addr) (h:Heap),K.In h->h.Ns mainGlobals mg->mg "law"=some (.ref fa)->(Zd K "is_whole" (K06.top 5))->(Zd K "is_between" (K06.top 6))->(Zd K "is_tuple_of" (K06.top 7))->(Zd K "is_name" (K06.top 11))->(Zd K "is_neighbour" (K06.top 12))->(Zd K "is_table_row" (K06.top 13))->(Zd K "are_table_rows" (K06.top 14))->(Zd K "is_table" (K06.top 15))->(Zd K "names_in" (K06.top 16))->(Zd K "has_form" (K06.top 22))->(Zd K "parts_of" (K06.top 23))->(Zd K "is_machine_within" (K06.top 24))->(Zd K "is_machine" (K06.top 25))->(Zd K "need_machine" (K06.top 26))->(Zd K "part_at" (K06.top 27))->(Zd K "works_of" (K06.top 33))->(Zd K "_law_cell" (K06.top 36))->(Zd K "_law_left" (K06.top 37))->(Zd K "_law_pick" (K06.top 38))->(Zd K "_law_names" (K06.top 39))->(Zd K "_law_may" (K06.top 40))->(Zd K "_law_table" (K06.top 41))->(Zd K "_law_parts" (K06.top 42))->(Zd K "_law_first" (K06.top 43))->(Zd K "_law_fires" (K06.top 44))->(Zd K "_law_behind" (K06.top 45))->(Zd K "_law_slow_behind" (K06.top 46))->(Zd K "_law_state" (K06.top 47))->(Zd K "_law_side" (K06.top 48))->(Zd K "_law_same" (K06.top 49))->(Zd K "_law_right" (K06.top 50))->(Zd K "law" (K06.top 51))->(Zk K "TableWorks" "__init__" (K06.mth 28 0))->(Zk K "TableWorks" "quiet" (K06.mth 28 1))->(Zk K "TableWorks" "start" (K06.mth 28 2))->(Zk K "TableWorks" "fires" (K06.mth 28 3))->(Zk K "TableWorks" "behind" (K06.mth 28 4))->(Zk K "SlowedWorks" "__init__" (K06.mth 31 0))->(Zk K "SlowedWorks" "quiet" (K06.mth 31 1))->(Zk K "SlowedWorks" "start" (K06.mth 31 2))->(Zk K "SlowedWorks" "fires" (K06.mth 31 3))->(Zk K "SlowedWorks" "behind" (K06.mth 31 4))->(Zk K "Works" "__init__" (K06.mth 34 0))->(Zk K "Works" "quiet" (K06.mth 34 1))->(Zk K "Works" "start" (K06.mth 34 2))->(Zk K "Works" "fires" (K06.mth 34 3))->(Zk K "Works" "behind" (K06.mth 34 4))->(FdIn K "TableWorks" "calm")->(FdIn K "TableWorks" "opening")->(FdIn K "TableWorks" "firing")->(FdIn K "TableWorks" "states")->(FdIn K "TableWorks" "news")->(FdIn K "Works" "inner")->(FdIn K "SlowedWorks" "most")->(FdIn K "SlowedWorks" "part")->(FdIn K "SlowedWorks" "calm")->(GlIn K "LONGEST_NAME" (.int (8)))->(GlIn K "NOBODY" (.str ""))->(GlIn K "DEEPEST" (.int (4)))->(GlIn K "MOST_COUNT" (.int (60)))->(∀ f∈blts,PySem.W.nsIn K mainGlobals f=some none)->(GdF K w mg "LEAST_COUNT" [("later",0),("slowed",1)])->(GdF K w mg "PARTS" [("mirrored",1),("later",1),("slowed",1),("both",2),("either",2)]) ->
  ∃ fd:FuncData,(∀ (s:Shared) (u:Value),BindsTo s fd ⟨[u],[]⟩ [("_law_script",u)])/\∀ base:Heap,K.In base->base.Ns mainGlobals mg->FnOk PySem.Challenge.rw_firetogether_k06_slowed.prog w K mg base CX 20 fa fd ["_law_script"] (sp K)
 S:∀ (K:Frag) (H:Hp) (a:Addr) (ns:List Int),ns.length<=63->Only H->SqL K H a (ns.map V.int)->sp K [.ref a] H (fun v _=>v=.bl true) fun _ _ _=>False
 C:∀ (H:Hp) (s:Shared) (e:Value) (s':Shared),CX [] H s (fun _ _ _=>False) e s'->False
namespace HQ
set_option maxRecDepth 100000 in
set_option maxHeartbeats 0 in
theorem hd{CX:CXT}{sp:Frag->Sp}(Z:K06.Rest CX sp):PySem.Challenge.rw_firetogether_k06_slowed.Holds:=by
 w_on;o_law
 show HD.Under Z PySem.Challenge.rw_firetogether_k06_slowed.row.Holds
 k_head;(case hw=>w_witness2)
 k_fill
 refine L2.Zcr (l:=PySem.Challenge.rw_firetogether_k06_slowed) (n:=63) (k:=20) (x:="_law_script") (CX:=CX) (sp:=sp) rfl (by decide) rfl ⟨rfl,by decide,by decide⟩ (fun w h Y=>PySem.W.kIn_of Y) ?F Z.S Z.C
 case F=>
  intro w mg fa h KX G hmg;have d5:Zd (L2.KOf KX) "is_whole" (top 5):=by walk_at "d1"
  have d6:Zd (L2.KOf KX) "is_between" (top 6):=by walk_at "d1"
  have d7:Zd (L2.KOf KX) "is_tuple_of" (top 7):=by walk_at "d1"
  have d11:Zd (L2.KOf KX) "is_name" (top 11):=by walk_at "d1"
  have d12:Zd (L2.KOf KX) "is_neighbour" (top 12):=by walk_at "d1"
  have d13:Zd (L2.KOf KX) "is_table_row" (top 13):=by walk_at "d1"
  have d14:Zd (L2.KOf KX) "are_table_rows" (top 14):=by walk_at "d1"
  have d15:Zd (L2.KOf KX) "is_table" (top 15):=by walk_at "d1"
  have d16:Zd (L2.KOf KX) "names_in" (top 16):=by walk_at "d1"
  have d22:Zd (L2.KOf KX) "has_form" (top 22):=by walk_at "d1"
  have d23:Zd (L2.KOf KX) "parts_of" (top 23):=by walk_at "d1"
  have d24:Zd (L2.KOf KX) "is_machine_within" (top 24):=by walk_at "d1"
  have d25:Zd (L2.KOf KX) "is_machine" (top 25):=by walk_at "d1"
  have d26:Zd (L2.KOf KX) "need_machine" (top 26):=by walk_at "d1"
  have d27:Zd (L2.KOf KX) "part_at" (top 27):=by walk_at "d1"
  have d33:Zd (L2.KOf KX) "works_of" (top 33):=by walk_at "d1"
  have d36:Zd (L2.KOf KX) "_law_cell" (top 36):=by walk_at "d1"
  have d37:Zd (L2.KOf KX) "_law_left" (top 37):=by walk_at "d1"
  have d38:Zd (L2.KOf KX) "_law_pick" (top 38):=by walk_at "d1"
  have d39:Zd (L2.KOf KX) "_law_names" (top 39):=by walk_at "d1"
  have d40:Zd (L2.KOf KX) "_law_may" (top 40):=by walk_at "d1"
  have d41:Zd (L2.KOf KX) "_law_table" (top 41):=by walk_at "d1"
  have d42:Zd (L2.KOf KX) "_law_parts" (top 42):=by walk_at "d1"
  have d43:Zd (L2.KOf KX) "_law_first" (top 43):=by walk_at "d1"
  have d44:Zd (L2.KOf KX) "_law_fires" (top 44):=by walk_at "d1"
  have d45:Zd (L2.KOf KX) "_law_behind" (top 45):=by walk_at "d1"
  have d46:Zd (L2.KOf KX) "_law_slow_behind" (top 46):=by walk_at "d1"
  have d47:Zd (L2.KOf KX) "_law_state" (top 47):=by walk_at "d1"
  have d48:Zd (L2.KOf KX) "_law_side" (top 48):=by walk_at "d1"
  have d49:Zd (L2.KOf KX) "_law_same" (top 49):=by walk_at "d1"
  have d50:Zd (L2.KOf KX) "_law_right" (top 50):=by walk_at "d1"
  have d51:Zd (L2.KOf KX) "law" (top 51):=by walk_at "d1"
  have d28_0:Zk (L2.KOf KX) "TableWorks" "__init__" (mth 28 0):=by walk_at "m1"
  have d28_1:Zk (L2.KOf KX) "TableWorks" "quiet" (mth 28 1):=by walk_at "m1"
  have d28_2:Zk (L2.KOf KX) "TableWorks" "start" (mth 28 2):=by walk_at "m1"
  have d28_3:Zk (L2.KOf KX) "TableWorks" "fires" (mth 28 3):=by walk_at "m1"
  have d28_4:Zk (L2.KOf KX) "TableWorks" "behind" (mth 28 4):=by walk_at "m1"
  have d31_0:Zk (L2.KOf KX) "SlowedWorks" "__init__" (mth 31 0):=by walk_at "m1"
  have d31_1:Zk (L2.KOf KX) "SlowedWorks" "quiet" (mth 31 1):=by walk_at "m1"
  have d31_2:Zk (L2.KOf KX) "SlowedWorks" "start" (mth 31 2):=by walk_at "m1"
  have d31_3:Zk (L2.KOf KX) "SlowedWorks" "fires" (mth 31 3):=by walk_at "m1"
  have d31_4:Zk (L2.KOf KX) "SlowedWorks" "behind" (mth 31 4):=by walk_at "m1"
  have d34_0:Zk (L2.KOf KX) "Works" "__init__" (mth 34 0):=by walk_at "m1"
  have d34_1:Zk (L2.KOf KX) "Works" "quiet" (mth 34 1):=by walk_at "m1"
  have d34_2:Zk (L2.KOf KX) "Works" "start" (mth 34 2):=by walk_at "m1"
  have d34_3:Zk (L2.KOf KX) "Works" "fires" (mth 34 3):=by walk_at "m1"
  have d34_4:Zk (L2.KOf KX) "Works" "behind" (mth 34 4):=by walk_at "m1"
  have fd0:FdIn (L2.KOf KX) "TableWorks" "calm":=by walk_at "f1"
  have fd1:FdIn (L2.KOf KX) "TableWorks" "opening":=by walk_at "f1"
  have fd2:FdIn (L2.KOf KX) "TableWorks" "firing":=by walk_at "f1"
  have fd3:FdIn (L2.KOf KX) "TableWorks" "states":=by walk_at "f1"
  have fd4:FdIn (L2.KOf KX) "TableWorks" "news":=by walk_at "f1"
  have fd5:FdIn (L2.KOf KX) "Works" "inner":=by walk_at "f1"
  have fd6:FdIn (L2.KOf KX) "SlowedWorks" "most":=by walk_at "f1"
  have fd7:FdIn (L2.KOf KX) "SlowedWorks" "part":=by walk_at "f1"
  have fd8:FdIn (L2.KOf KX) "SlowedWorks" "calm":=by walk_at "f1"
  have gl0:GlIn (L2.KOf KX) "LONGEST_NAME" (.int (8)):=by walk_at "i1"
  have gl1:GlIn (L2.KOf KX) "NOBODY" (.str ""):=by walk_at "g1"
  have gl2:GlIn (L2.KOf KX) "DEEPEST" (.int (4)):=by walk_at "i1"
  have gl3:GlIn (L2.KOf KX) "MOST_COUNT" (.int (60)):=by walk_at "i1"
  have bb:∀ f∈blts,PySem.W.nsIn (L2.KOf KX) mainGlobals f=some none:=by
   dsimp only[L2.KOf];refine' blf ?b0 ?b1 ?b2 ?b3 ?b4 ?b5 ?b6 ?b7 ?b8 ?b9 ?b10 ?b11 ?b12 ?b13 ?b14 ?b15 ?b16 ?b17 ?b18 ?b19 ?b20
   (case b0=>k_is)
   (case b1=>k_is)
   (case b2=>k_is)
   (case b3=>k_is)
   (case b4=>k_is)
   (case b5=>k_is)
   (case b6=>k_is)
   (case b7=>k_is)
   (case b8=>k_is)
   (case b9=>k_is)
   (case b10=>k_is)
   (case b11=>k_is)
   (case b12=>k_is)
   (case b13=>k_is)
   (case b14=>k_is)
   (case b15=>k_is)
   (case b16=>k_is)
   (case b17=>k_is)
   (case b18=>k_is)
   (case b19=>k_is)
   (case b20=>k_is)
  have gd0:GdF (L2.KOf KX) w mg "LEAST_COUNT" [("later",0),("slowed",1)]:=by
   dsimp only[L2.KOf];refine' Zdn KX G ?a ?l ?e ?s
   (case a=>k_is);(case l=>k_is);(case e=>exact⟨⟨_,rfl,rfl⟩,⟨_,rfl⟩,⟨_,rfl,rfl⟩,⟨_,rfl⟩,trivial⟩);(case s=>rfl)
  have gd1:GdF (L2.KOf KX) w mg "PARTS" [("mirrored",1),("later",1),("slowed",1),("both",2),("either",2)]:=by
   dsimp only[L2.KOf];refine' Zdn KX G ?a ?l ?e ?s
   (case a=>k_is);(case l=>k_is);(case e=>exact⟨⟨_,rfl,rfl⟩,⟨_,rfl⟩,⟨_,rfl,rfl⟩,⟨_,rfl⟩,⟨_,rfl,rfl⟩,⟨_,rfl⟩,⟨_,rfl,rfl⟩,⟨_,rfl⟩,⟨_,rfl,rfl⟩,⟨_,rfl⟩,trivial⟩);(case s=>rfl)
  exact Z.F w _ mg fa h KX G hmg d5 d6 d7 d11 d12 d13 d14 d15 d16 d22 d23 d24 d25 d26 d27 d33 d36 d37 d38 d39 d40 d41 d42 d43 d44 d45 d46 d47 d48 d49 d50 d51 d28_0 d28_1 d28_2 d28_3 d28_4 d31_0 d31_1 d31_2 d31_3 d31_4 d34_0 d34_1 d34_2 d34_3 d34_4 fd0 fd1 fd2 fd3 fd4 fd5 fd6 fd7 fd8 gl0 gl1 gl2 gl3 bb gd0 gd1
end HQ
end
namespace LA
open PySem L2 PF
end LA
namespace LC
open PySem L2 PF LA
theorem ZeR{S:Sto}{ds:List D}{bs:List Bool}{b:Bool}(h:YZ ds=some bs)(hb:bs.all id=b):bltD S .all [.lst ds]=some (.bl b):=by
 show (YZ ds).map _=_;rw[h];show some (D.bl (bs.all id))=_;rw[hb]
theorem ZaN:Z9.lookup ("tuple":Str)=some "tuple":=by decide +kernel
theorem ZcS:Z9.lookup ("str":Str)=some "str":=by decide +kernel
section
variable {T:Tab}{W k:Nat}
theorem J1{S:Sto}{d:D}{ty:Str}{u t:String}{PB:Bool->Prop}(hl:Z9.lookup ty=some u)(ht:tyD S d=some t)(kk:PB (decide (t=u)||(decide (t="bool")&&decide (u="int")))):Op (isiD S d ty) PB:=⟨_,by rw[isiD,hl];show (tyD S d).map _=_;rw[ht];rfl,kk⟩
theorem Zdo{S:Sto}{d:D}{ty:Str}{u t:String}{PB:Bool->Prop}(hl:Z9.lookup ty=some u)(ht:tyD S d=some t)(hn:(decide (t=u)||(decide (t="bool")&&decide (u="int")))=false)(kk:PB false):Op (isiD S d ty) PB:=J1 hl ht (by rw[hn];exact kk)
end
end LC
namespace LZ
open PySem L2 PF LC
noncomputable def Ve:FI:=⟨2,2,(.cons (.ret (.and (.isi (.var 0) "tuple") (.cmp .Eq (.blt .len (.cons (.var 0) .nil)) (.var 1))))
  .nil)⟩
noncomputable def Vf:FI:=⟨1,1,(.cons (.ifs (.or (.not (.isi (.var 0) "str")) (.not (.cmp2 .LtE .LtE (.int (1)) (.blt .len (.cons (.var 0) .nil)) (.gl "LONGEST_NAME")))) (.cons (.ret (.bl false))
  .nil) .nil)
  (.cons (.ret (.blt .all (.cons (.lv (.comp 2 [] (.name 1) (.seq (.var 0)) .nil (.cmp2 .LtE .LtE (.str "a") (.var 1) (.str "z")))) .nil)))
  .nil))⟩
noncomputable def J3:FI:=⟨1,1,(.cons (.ret (.and (.isi (.var 0) "str") (.or (.cmp .Eq (.var 0) (.gl "NOBODY")) (.call "is_name" (.cons (.var 0) .nil)))))
  .nil)⟩
noncomputable def rowF:FI:=⟨3,8,(.cons (.ifs (.not (.call "is_tuple_of" (.cons (.var 0) (.cons (.int (4)) .nil)))) (.cons (.ret (.bl false))
  .nil) .nil)
  (.cons (.asg (.tup (.cons (.name 3) (.cons (.name 4) (.cons (.name 5) (.cons (.name 6) .nil))))) (.var 0))
  (.cons (.ifs (.not (.and (.call "is_neighbour" (.cons (.var 3) .nil)) (.and (.call "is_name" (.cons (.var 4) .nil)) (.and (.call "is_neighbour" (.cons (.var 5) .nil)) (.call "is_name" (.cons (.var 6) .nil)))))) (.cons (.ret (.bl false))
  .nil) .nil)
  (.cons (.ifs (.or (.cmp .Eq (.var 4) (.var 6)) (.cmp .Eq (.var 4) (.var 2))) (.cons (.ret (.bl false))
  .nil) .nil)
  (.cons (.asg (.name 7) (.tup (.cons (.var 1) (.cons (.gl "NOBODY") .nil))))
  (.cons (.ret (.or (.cmp .NotEq (.var 4) (.var 1)) (.or (.cmp .NotIn (.var 3) (.var 7)) (.cmp .NotIn (.var 5) (.var 7)))))
  .nil))))))⟩
noncomputable def Vg:FI:=⟨3,3,(.cons (.ifs (.not (.isi (.var 0) "tuple")) (.cons (.ret (.bl false))
  .nil) .nil)
  (.cons (.ifs (.not (.blt .all (.cons (.lv (.comp 2 [2,1] (.name 1) (.seq (.var 0)) .nil (.call "is_table_row" (.cons (.var 1) (.cons (.var 3) (.cons (.var 2) .nil)))))) .nil))) (.cons (.ret (.bl false))
  .nil) .nil)
  (.cons (.ret (.blt .all (.cons (.lv (.comp 3 [] (.tup (.cons (.name 1) (.cons (.name 2) .nil))) (.zip (.var 0) (.slc (.var 0) (.yes (.int (1))) .no)) .nil (.cmp .Lt (.slc (.var 1) .no (.yes (.int (3)))) (.slc (.var 2) .no (.yes (.int (3))))))) .nil)))
  .nil)))⟩
noncomputable def J4:FI:=⟨1,6,(.cons (.ifs (.not (.call "is_tuple_of" (.cons (.var 0) (.cons (.int (5)) .nil)))) (.cons (.ret (.bl false))
  .nil) .nil)
  (.cons (.asg (.tup (.cons (.name 1) (.cons (.name 2) (.cons (.name 3) (.cons (.name 4) (.cons (.name 5) .nil)))))) (.var 0))
  (.cons (.ifs (.or (.not (.isi (.var 1) "str")) (.cmp .NotEq (.var 1) (.str "table"))) (.cons (.ret (.bl false))
  .nil) .nil)
  (.cons (.ifs (.not (.and (.call "is_name" (.cons (.var 2) .nil)) (.and (.call "is_name" (.cons (.var 3) .nil)) (.call "is_name" (.cons (.var 4) .nil))))) (.cons (.ret (.bl false))
  .nil) .nil)
  (.cons (.ifs (.or (.cmp .Eq (.var 2) (.var 3)) (.or (.cmp .Eq (.var 2) (.var 4)) (.cmp .Eq (.var 3) (.var 4)))) (.cons (.ret (.bl false))
  .nil) .nil)
  (.cons (.ret (.call "are_table_rows" (.cons (.var 5) (.cons (.var 2) (.cons (.var 4) .nil)))))
  .nil))))))⟩
structure Zt(T:Tab):Prop where
 tu:T.lookup ("is_tuple_of":Str)=some Ve
 na:T.lookup ("is_name":Str)=some Vf
 ne:T.lookup ("is_neighbour":Str)=some J3
 ro:T.lookup ("is_table_row":Str)=some rowF
 rs:T.lookup ("are_table_rows":Str)=some Vg
 ta:T.lookup ("is_table":Str)=some J4
 lo:T.gls.lookup ("LONGEST_NAME":Str)=some (.int 8)
 no:T.gls.lookup ("NOBODY":Str)=some (.str "")
noncomputable def vd(S:Sto):D->Bool
 |.tup ds=>decide (ds.length<1000000)
 |.lst ds=>decide (ds.length<1000000)
 |.str z=>decide (z.length<1000000)
 | .ref n=>(match S[n]? with
  |some (.lst _)=>true
  |some (.dk _)=>true
  |some (.dt _)=>true
  |_=>false)
 |_=>true
theorem ZaO{S:Sto}{d:D}(h:vd S d=true):∃ t,tyD S d=some t/\(t="tuple"↔∃ ds,d=.tup ds)/\(t="str"↔∃ z,d=.str z):=by
 cases d with
 | ref n=>
  have h':(match S[n]? with
   |some (.lst _)=>true
   |some (.dk _)=>true
   |some (.dt _)=>true
   |_=>false)=true:=h
  cases ho:S[n]? with
  |none=>rw[ho] at h';cases h'
  | some o=>
   rw[ho] at h';cases o with
   |lst l=>exact⟨"list",by rw[tyD,ho],by simp,by simp⟩
   |dk l=>exact⟨"dict",by rw[tyD,ho],by simp,by simp⟩
   |dt l=>exact⟨"dict",by rw[tyD,ho],by simp,by simp⟩
   |_=>cases h'
 |non=>exact⟨_,rfl,by simp,by simp⟩
 |bl b=>exact⟨_,rfl,by simp,by simp⟩
 |int i=>exact⟨_,rfl,by simp,by simp⟩
 |str z=>exact⟨_,rfl,by simp,by simp⟩
 |tup l=>exact⟨_,rfl,by simp,by simp⟩
 |lst l=>exact⟨_,rfl,by simp,by simp⟩
noncomputable def isT:D->Bool
 |.tup _=>true
 |_=>false
noncomputable def isS:D->Bool
 |.str _=>true
 |_=>false
theorem Wm{S:Sto}{d:D}{PB:Bool->Prop}(h:vd S d=true)(k:PB (isT d)):Op (isiD S d "tuple") PB:=by
 obtain⟨t,h1,h2,h3⟩:=ZaO h;refine J1 ZaN h1 ?_;have e:(decide (t="tuple")||(decide (t="bool")&&decide ("tuple"="int")))=isT d:=by
  rw[show decide (("tuple":String)="int")=false by decide,Bool.and_false,Bool.or_false];cases d with
  |tup l=>exact oAi (h2.2 ⟨l,rfl⟩)
  |_=>exact oAh (fun z=>by obtain⟨l,e⟩:=h2.1 z;cases e)
 rw[e];exact k
theorem qf{S:Sto}{d:D}{PB:Bool->Prop}(h:vd S d=true)(k:PB (isS d)):Op (isiD S d "str") PB:=by
 obtain⟨t,h1,h2,h3⟩:=ZaO h;refine J1 ZcS h1 ?_;have e:(decide (t="str")||(decide (t="bool")&&decide ("str"="int")))=isS d:=by
  rw[show decide (("str":String)="int")=false by decide,Bool.and_false,Bool.or_false];cases d with
  |str l=>exact oAi (h3.2 ⟨l,rfl⟩)
  |_=>exact oAh (fun z=>by obtain⟨l,e⟩:=h3.1 z;cases e)
 rw[e];exact k
noncomputable def isN:D->Bool
 |.str z=>decide (1<=z.length)&&decide (z.length<=8)&&z.cps.toList.all fun c=>decide (97<=c)&&decide (c<=122)
 |_=>false
theorem Uu{d:D}(h:isN d=true):∃ z,d=.str z:=by
 cases d with
 |str z=>exact⟨z,rfl⟩
 |_=>cases h
section
variable {T:Tab}{W k:Nat}{S:Sto}{P:D->Sto->Prop}
theorem glo{x:Str}{d:D}(h:T.gls.lookup x=some d):(Za T W k).gl x=some d:=by cases k<;>exact h
theorem all_bools:∀ {bs:List Bool},YZ (bs.map D.bl)=some bs
 |[]=>rfl
 |b::bs=>by rw[map_cons,YZ,all_bools];rfl
theorem qg{bs:List Bool}{PD:D->Prop}(k:PD (.bl (bs.all id))):Op (bltD S .all [.lst (bs.map D.bl)]) PD:=⟨_,ZeR all_bools rfl,k⟩
theorem Wb{c:Cl}{env:En}{own:Nat}{caps:List Nat}{it:Itx}{elt:Ex}{ds:List D}{R:List D->Sto->Prop}(g:D->D)(E:En->Prop)(hi:evI c it env S=some (.vs ds,S))(hl:ds.length<=1000000)(h0:E (ZG own caps env))
  (hs:∀ d∈ds,∀ e2,E e2->E (e2.set 1 (some d))/\Ev (ev c elt (e2.set 1 (some d)) S) fun x S3=>x=g d/\S3=S)(k:R (ds.map g) S):Es (evL c (.comp own caps (.name 1) it .nil elt) env S) R:=by
 refine Ym (.vs ds) ds S hi (fun i e2 S2 acc=>E e2/\S2=S/\acc=(ds.take i).map g) ⟨h0,rfl,rfl⟩ (.inl rfl) ?_ ?_
 ·rintro i d e2 S2 acc hd ⟨h1,rfl,rfl⟩;have hlt:=(List.getElem?_eq_some_iff.1 hd).1;obtain⟨h2,h3⟩:=hs d (mem_of_getElem? hd) e2 h1;refine g_nm (Ys ⟨fun _=>?_,fun z=>nomatch z⟩);refine Ev.mono h3 ?_;rintro x S3 ⟨rfl,rfl⟩;refine⟨by rw[length_map,length_take];show _<16777216;lia,h2,rfl,?_⟩
  rw[take_succ,hd,map_append];rfl
 ·rintro e2 S2 acc ⟨_,rfl,rfl⟩;rw[take_length];exact k
noncomputable def Vh(n:Int):D->Bool
 |.tup ds=>decide ((ds.length:Int)=n)
 |_=>false
theorem qY(zt:Zt T){d:D}{n:Int}(h:vd S d=true)(kk:P (.bl (Vh n d)) S):Ev ((Za T W (k+1)).fn "is_tuple_of" [d,.int n] S) P:=by
 refine Zw zt.tu rfl ?_;dsimp only[Ve];walk_at "st";refine Wm h ?_;by_cases ht:∃ ds,d=.tup ds
 ·obtain⟨ds,rfl⟩:=ht;rw[show isT (.tup ds)=true from rfl];walk_at "go";exact kk
 ·have e:isT d=false:=by cases d with
   |tup ds=>exact absurd ⟨ds,rfl⟩ ht
   |_=>rfl
  have e2:Vh n d=false:=by cases d with
   |tup ds=>exact absurd ⟨ds,rfl⟩ ht
   |_=>rfl
  rw[e2] at kk;rw[e];walk_at "go";exact kk
theorem Zb0{a b:Nat}:decide ([a] < [b])=decide (a<b):=by
 refine decide_eq_decide.2 ⟨fun h=>?_,fun h=>List.Lex.rel h⟩;cases h with
 |rel h=>exact h
 |cons h=>cases h
theorem Zi7{c:Nat}:(!TS.sLt ⟨#[c]⟩ (Str.ofString "a"))=decide (97<=c):=by
 have e:TS.sLt ⟨#[c]⟩ (Str.ofString "a")=decide (c<97):=Zb0;rw[e];by_cases h:c<97
 ·rw[oAi h,oAh (by lia)];rfl
 ·rw[oAh h,oAi (by lia)];rfl
theorem Zi8{c:Nat}:(!TS.sLt (Str.ofString "z") ⟨#[c]⟩)=decide (c<=122):=by
 have e:TS.sLt (Str.ofString "z") ⟨#[c]⟩=decide (122<c):=Zb0;rw[e];by_cases h:122<c
 ·rw[oAi h,oAh (by lia)];rfl
 ·rw[oAh h,oAi (by lia)];rfl
theorem len_str{z:Str}(h:z.length<=line):bltD S .len [.str z]=some (.int (z.length:Int)):=by
 show (if z.length<=line then _ else none)=_;rw[if_pos h]
theorem Zdp{x y:Str}{PB:Bool->Prop}(k:PB (!TS.sLt y x)):Op (cmpop S .LtE (.str x) (.str y)) PB:=⟨_,rfl,k⟩
noncomputable def sgB(d:D):Bool:=match d with
 | .str z=>(match z.cps.toList with
  |[c]=>decide (97<=c)&&decide (c<=122)
  |_=>false)
 |_=>false
theorem ZgK(z:Str):(((sgn z).map D.str).map fun d=>D.bl (sgB d))=(z.cps.toList.map fun c=>decide (97<=c)&&decide (c<=122)).map D.bl:=by
 unfold sgn;rw[map_map,map_map,map_map];rfl
theorem Wc{d:D}(h:¬ ∃ z,d=.str z):isS d=false/\isN d=false:=by
 cases d with
 |str z=>exact absurd ⟨z,rfl⟩ h
 |_=>exact⟨rfl,rfl⟩
theorem Jd(zt:Zt T){d:D}(h:vd S d=true)(kk:P (.bl (isN d)) S):Ev ((Za T W (k+1)).fn "is_name" [d] S) P:=by
 refine Zw zt.na rfl ?_;dsimp only[Vf];walk_at "st";refine Zu ?_;refine YO (Yk ?_);walk_at "go";refine qf h ?_;by_cases hs:∃ z,d=.str z
 ·obtain⟨z,rfl⟩:=hs;rw[show isS (.str z)=true from rfl];walk_at "go";have hz:z.length<1000000:=oAj h;have hsl:((sgn z).map D.str).length<=1000000:=by
   unfold sgn;rw[length_map,length_map];have:z.cps.toList.length=z.length:=by simp[Str.length]
   lia
  refine Wl ?_;walk_at "go";refine UW (len_str (by show _<=16777216;lia)) ?_
  walk_at "go";refine two_of (fun h1=>?_) (fun h1=>?_)
  ·refine Va (glo zt.lo) ?_;walk_at "go";by_cases h2:(z.length:Int)<=8
   ·rw[oAi h2];walk_at "go";refine Wb (ds:=(sgn z).map D.str) (fun d=>.bl (sgB d)) (fun e=>∃ y0 y1,e=[y0,y1]) rfl hsl ⟨_,_,rfl⟩ ?_ ?_
    ·rintro d hd e2 ⟨y0,y1,rfl⟩;obtain⟨x,hx,rfl⟩:=List.mem_map.1 hd;obtain⟨c,_,rfl⟩:=List.mem_map.1 hx;refine⟨⟨_,_,rfl⟩,?_⟩;show Ev (ev _ _ [y0,some (.str ⟨#[c]⟩)] S) _;refine Wl ?_;walk_at "go";refine Zdp ?_;rw[Zi7];refine two_of (fun h3=>?_) (fun h3=>?_)
     ·walk_at "go";refine Zdp ?_;rw[Zi8];refine⟨?_,rfl⟩;show D.bl _=D.bl (decide (97<=c)&&decide (c<=122));rw[oAi h3,Bool.true_and]
     ·refine⟨?_,rfl⟩;show D.bl _=D.bl (decide (97<=c)&&decide (c<=122));rw[oAh h3,Bool.false_and]
    ·rw[ZgK];walk_at "go";refine qg ?_;walk_at "go";have e:isN (.str z)=((z.cps.toList.map fun c=>decide (97<=c)&&decide (c<=122)).all id):=by
      show (decide (1<=z.length)&&decide (z.length<=8)&&_)=_;rw[oAi (by lia:1<=z.length),oAi (by lia:z.length<=8),all_map];rfl
     rw[<- e];exact kk
   ·have e:isN (.str z)=false:=by
     show (decide (1<=z.length)&&decide (z.length<=8)&&_)=_;rw[oAh (by lia:¬ z.length<=8),Bool.and_false];rfl
    rw[e] at kk;rw[oAh h2];walk_at "go";exact kk
  ·have e:isN (.str z)=false:=by
    show (decide (1<=z.length)&&decide (z.length<=8)&&_)=_;rw[oAh (by lia:¬ 1<=z.length)];rfl
   rw[e] at kk;walk_at "go";exact kk
 ·rw[(Wc hs).1];rw[(Wc hs).2] at kk;walk_at "go";exact kk
mutual
noncomputable def wd(S:Sto):D->Bool
 |.tup ds=>decide (ds.length<1000000)&&wds S ds
 |.lst ds=>decide (ds.length<1000000)&&wds S ds
 |.str z=>decide (z.length<1000000)
 |.ref n=>vd S (.ref n)
 |_=>true
noncomputable def wds(S:Sto):List D->Bool
 |[]=>true
 |d::ds=>wd S d&&wds S ds
end
theorem Yo{d:D}(h:wd S d=true):vd S d=true:=by
 cases d with
 |tup ds=>rw[wd,and_eq_true] at h;exact h.1
 |lst ds=>rw[wd,and_eq_true] at h;exact h.1
 |str z=>rw[wd] at h;exact h
 |ref n=>rw[wd] at h;exact h
 |_=>rfl
theorem Zb1:∀ {ds:List D}{d:D},wds S ds=true->d∈ds->wd S d=true
 | e::es,d,h,hd=>by
  rw[wds,and_eq_true] at h
  rcases List.mem_cons.1 hd with rfl | hd
  ·exact h.1
  ·exact Zb1 h.2 hd
theorem J5{ds:List D}(h:wd S (.tup ds)=true):ds.length<1000000/\∀ d∈ds,wd S d=true:=by
 rw[wd,and_eq_true] at h;exact⟨oAj h.1,fun d hd=>Zb1 h.2 hd⟩
noncomputable def isNb:D->Bool
 |.str z=>decide (z="")||isN (.str z)
 |_=>false
theorem Z6{x y:Str}{PB:Bool->Prop}(k:PB (decide (x=y))):Op (cmpop S .Eq (.str x) (.str y)) PB:=by
 refine⟨_,rfl,?_⟩;have e:decide (D.str x=D.str y)=decide (x=y):=by simp
 rw[e];exact k
theorem qh{x y:Str}{PB:Bool->Prop}(k:PB (!decide (x=y))):Op (cmpop S .NotEq (.str x) (.str y)) PB:=by
 refine⟨_,rfl,?_⟩;have e:decide (D.str x=D.str y)=decide (x=y):=by simp
 rw[e];exact k
theorem qZ(zt:Zt T){d:D}(h:vd S d=true)(kk:P (.bl (isNb d)) S):Ev ((Za T W (k+2)).fn "is_neighbour" [d] S) P:=by
 refine Zw zt.ne rfl ?_;dsimp only[J3];walk_at "st";refine qf h ?_;by_cases hs:∃ z,d=.str z
 ·obtain⟨z,rfl⟩:=hs;rw[show isS (.str z)=true from rfl];walk_at "go";refine Va (glo zt.no) ?_;refine Z6 ?_;walk_at "go";refine two_of (fun h1=>?_) (fun h1=>?_)
  ·have e:isNb (.str z)=true:=by show (decide (z="")||_)=true;rw[oAi h1];rfl
   rw[e] at kk;rw[oAi h1];walk_at "go";exact kk
  ·have e:isNb (.str z)=isN (.str z):=by show (decide (z="")||_)=_;rw[oAh h1];rfl
   rw[e] at kk;walk_at "go";refine Jd zt h ?_;walk_at "go";exact kk
 ·have e:isNb d=false:=by cases d with
   |str z=>exact absurd ⟨z,rfl⟩ hs
   |_=>rfl
  rw[e] at kk;rw[(Wc hs).1];walk_at "go";exact kk
noncomputable def rowC(q f l o r n:Str):Bool:=!(decide (o=n)||decide (o=f))&&(!decide (o=q)||(!(decide (q=l)||decide (("":Str)=l))||!(decide (q=r)||decide (("":Str)=r))))
noncomputable def Zi9(q f:Str):D->D->D->D->Bool
 |.str l,.str o,.str r,.str n=>rowC q f l o r n
 |_,_,_,_=>false
noncomputable def ZL(q f:Str):D->Bool
 |.tup [l,o,r,n]=>isNb l&&(isN o&&(isNb r&&(isN n&&Zi9 q f l o r n)))
 |_=>false
theorem Vi{x a b:Str}{PB:Bool->Prop}(k:PB (!(decide (a=x)||decide (b=x)))):Op (cmpop S .NotIn (.str x) (.tup [.str a,.str b])) PB:=by
 refine⟨_,rfl,?_⟩;have e:([D.str a,.str b].any fun z=>eqF z (.str x))=(decide (a=x)||decide (b=x)):=by
  show ((a==x)||((b==x)||false))=_;rw[Bool.or_false];rfl
 show PB (!([D.str a,.str b].any fun z=>eqF z (.str x)));rw[e];exact k
theorem Wd{d:D}(h:isNb d=true):∃ z,d=.str z:=by
 cases d with
 |str z=>exact⟨z,rfl⟩
 |_=>cases h
theorem ZgL(zt:Zt T){d:D}{q f:Str}(h:wd S d=true)(kk:P (.bl (ZL q f d)) S):Ev ((Za T W (k+3)).fn "is_table_row" [d,.str q,.str f] S) P:=by
 refine Zw zt.ro rfl ?_;dsimp only[rowF];walk_at "st";refine Zu ?_;walk_at "go";refine qY zt (Yo h) ?_;walk_at "go";by_cases h4:∃ l o r n,d=.tup [l,o,r,n]
 ·obtain⟨l,o,r,n,rfl⟩:=h4;have hw:=(J5 h).2;have hl:=Yo (hw l (by simp));have ho:=Yo (hw o (by simp));have hr:=Yo (hw r (by simp));have hn:=Yo (hw n (by simp));rw[show Vh 4 (.tup [l,o,r,n])=true from rfl];walk_at "go";refine Zu ?_;walk_at "go";refine qZ zt hl ?_;refine t_bl ⟨fun h1=>?_,fun h1=>?_⟩
  ·walk_at "go";refine Jd zt ho ?_;refine t_bl ⟨fun h2=>?_,fun h2=>?_⟩
   ·walk_at "go";refine qZ zt hr ?_;refine t_bl ⟨fun h3=>?_,fun h3=>?_⟩
    ·walk_at "go";refine Jd zt hn ?_;walk_at "go";cases h5:isN n with
     | false=>
      have e:ZL q f (.tup [l,o,r,n])=false:=by show (isNb l&&(isN o&&(isNb r&&(isN n&&_))))=_;rw[h5,Bool.false_and,Bool.and_false,Bool.and_false,Bool.and_false]
      rw[e] at kk;walk_at "go";exact kk
     | true=>
      obtain⟨l,rfl⟩:=Wd h1;obtain⟨o,rfl⟩:=Uu h2;obtain⟨r,rfl⟩:=Wd h3;obtain⟨n,rfl⟩:=Uu h5;have e:ZL q f (.tup [.str l,.str o,.str r,.str n])=rowC q f l o r n:=by show (isNb _&&(isN _&&(isNb _&&(isN _&&rowC q f l o r n))))=_;rw[h1,h2,h3,h5];rfl
      rw[e] at kk;unfold rowC at kk;walk_at "go";refine Zu ?_;walk_at "go";refine Z6 ?_;refine t_bl ⟨fun g1=>?_,fun g1=>?_⟩
      ·rw[g1] at kk ⊢;walk_at "go";exact kk
      ·walk_at "go";refine Z6 ?_;rw[g1] at kk;cases g2:decide (o=f) with
       | true=>
        rw[g2] at kk;walk_at "go";exact kk
       | false=>
        rw[g2] at kk;replace kk:P (.bl (!decide (o=q)||(!(decide (q=l)||decide (("":Str)=l))||!(decide (q=r)||decide (("":Str)=r))))) S:=kk;walk_at "go";refine Va (glo zt.no) ?_;walk_at "go";refine qh ?_;refine t_bl ⟨fun g3=>?_,fun g3=>?_⟩
        ·rw[g3] at kk ⊢;walk_at "go";exact kk
        ·rw[g3] at kk;walk_at "go";refine Vi ?_;refine t_bl ⟨fun g4=>?_,fun g4=>?_⟩
         ·rw[g4] at kk ⊢;walk_at "go";exact kk
         ·rw[g4] at kk;walk_at "go";refine Vi ?_;walk_at "go";exact kk
    ·have e:ZL q f (.tup [l,o,r,n])=false:=by show (isNb l&&(isN o&&(isNb r&&_)))=_;rw[h3,Bool.false_and,Bool.and_false,Bool.and_false]
     rw[e] at kk;rw[h3];walk_at "go";exact kk
   ·have e:ZL q f (.tup [l,o,r,n])=false:=by show (isNb l&&(isN o&&_))=_;rw[h2,Bool.false_and,Bool.and_false]
    rw[e] at kk;rw[h2];walk_at "go";exact kk
  ·have e:ZL q f (.tup [l,o,r,n])=false:=by show (isNb l&&_)=_;rw[h1,Bool.false_and]
   rw[e] at kk;rw[h1];walk_at "go";exact kk
 ·have e1:Vh 4 d=false:=by
   cases d with
   | tup ds=>
    refine oAh fun z=>h4 ?_
    match ds,z with
    |[l,o,r,n],_=>exact⟨l,o,r,n,rfl⟩
    |[],z=>simp at z
    |[_],z=>simp at z
    |[_,_],z=>simp at z
    |[_,_,_],z=>simp at z
    |_::_::_::_::_::_,z=>simp only[length_cons] at z;lia
   |_=>rfl
  have e2:ZL q f d=false:=by
   unfold ZL;split
   ·exact absurd ⟨_,_,_,_,rfl⟩ h4
   ·rfl
  rw[e2] at kk;rw[e1];walk_at "go";exact kk
noncomputable def key3:D->List Str
 |.tup [.str a,.str b,.str c,_]=>[a,b,c]
 |_=>[]
noncomputable def rising:List D->Bool
 |x::y::r=>TS.lexB (key3 x) (key3 y)&&rising (y::r)
 |_=>true
noncomputable def Y6(q f:Str):D->Bool
 |.tup rs=>rs.all (ZL q f)&&rising rs
 |_=>false
theorem VO{q f:Str}{d:D}(h:ZL q f d=true):∃ l o r n:Str,d=.tup [.str l,.str o,.str r,.str n]:=by
 unfold ZL at h;split at h
 ·simp only[and_eq_true] at h;obtain⟨l,rfl⟩:=Wd h.1;obtain⟨o,rfl⟩:=Uu h.2.1;obtain⟨r,rfl⟩:=Wd h.2.2.1;obtain⟨n,rfl⟩:=Uu h.2.2.2.1;exact⟨l,o,r,n,rfl⟩
 ·cases h
noncomputable def ltP(d:D):Bool:=match d with
 |.tup [x,y]=>TS.lexB (key3 x) (key3 y)
 |_=>false
theorem We:∀ rs:List D,(((List.zipWith (fun x y=>D.tup [x,y]) rs rs.tail).map ltP).all id)=rising rs
 |[]=>rfl
 |[x]=>rfl
 | x::y::r=>by
  show (TS.lexB (key3 x) (key3 y)&&_)=(TS.lexB (key3 x) (key3 y)&&rising (y::r));rw[<- We (y::r)];rfl
theorem Zja{rs:List D}(hl:rs.length<1000000):Z2 S (.tup rs) (some 1) none=some (.tup rs.tail):=by
 cases rs with
 |nil=>rfl
 | cons x r=>
  have e1:HT.sIx (x::r).length 0 (some 1)=1:=by
   show (if (1:Int)<0 then (1+((x::r).length:Int)).toNat else min (1:Int).toNat (x::r).length)=1;rw[if_neg (by decide),length_cons];lia
  show (if HT.sIx (x::r).length 0 (some 1)=0/\HT.sIx (x::r).length (x::r).length none=(x::r).length then some (D.tup (x::r)) else some (D.tup (cutD (x::r) (some 1) none)))=_;rw[if_neg (by rw[e1];lia)]
  unfold cutD;rw[e1];show some (D.tup (((x::r).drop 1).take ((x::r).length - 1)))=_;rw[take_of_length_le (by rw[length_drop];lia)];rfl
theorem ZeS(zt:Zt T){d:D}{q f:Str}(h:wd S d=true)(kk:P (.bl (Y6 q f d)) S):Ev ((Za T W (k+4)).fn "are_table_rows" [d,.str q,.str f] S) P:=by
 refine Zw zt.rs rfl ?_;dsimp only[Vg];walk_at "st";refine Zu ?_;walk_at "go";refine Wm (Yo h) ?_;by_cases ht:∃ rs,d=.tup rs
 ·obtain⟨rs,rfl⟩:=ht;obtain⟨hl,hw⟩:=J5 h;rw[show isT (.tup rs)=true from rfl];walk_at "go";refine Zu ?_;walk_at "go";refine Wb (ds:=rs) (fun d=>.bl (ZL q f d)) (fun e=>∃ y0 y1,e=[y0,y1,some (.str f),some (.str q)]) rfl (by lia) ⟨_,_,rfl⟩ ?_ ?_
  ·rintro d hd e2 ⟨y0,y1,rfl⟩;refine⟨⟨_,_,rfl⟩,?_⟩;show Ev (ev _ _ [y0,some d,some (.str f),some (.str q)] S) _;walk_at "go";refine ZgL zt (hw d hd) ?_;exact⟨rfl,rfl⟩
  ·rw[show (rs.map fun d=>D.bl (ZL q f d))=(rs.map (ZL q f)).map D.bl by rw[map_map];rfl]
   walk_at "go";refine qg ?_;walk_at "go";have ea:((rs.map (ZL q f)).all id)=rs.all (ZL q f):=by rw[all_map];rfl
   rw[ea];cases hr:rs.all (ZL q f) with
   | false=>
    have e:Y6 q f (.tup rs)=false:=by show (rs.all (ZL q f)&&_)=_;rw[hr];rfl
    rw[e] at kk;walk_at "go";exact kk
   | true=>
    have e:Y6 q f (.tup rs)=rising rs:=by show (rs.all (ZL q f)&&_)=_;rw[hr];rfl
    rw[e,<-We] at kk;have hrow:∀ d∈rs,∃ l o r n:Str,d=.tup [.str l,.str o,.str r,.str n]:=fun d hd=>VO (List.all_eq_true.1 hr d hd);walk_at "go";refine Ym (.vs (List.zipWith (fun x y=>D.tup [x,y]) rs rs.tail)) (List.zipWith (fun x y=>D.tup [x,y]) rs rs.tail) S ?_ (fun i e2 S2 acc=>(∃ y0 y1 y2,e2=[y0,y1,y2])/\S2=S/\acc=(((List.zipWith (fun x y=>D.tup [x,y]) rs rs.tail).take i).map ltP).map D.bl) ⟨⟨_,_,_,rfl⟩,rfl,rfl⟩ (.inl rfl) ?_ ?_
    ·have h1:ev (Za T W (k+3)) (.slc (.var 0) (.yes (.int 1)) .no) [some (.tup rs),some (.str q),some (.str f)] S=some (.tup rs.tail,S):=by
      show (Z2 S (.tup rs) (some 1) none).map (fun d=>(d,S))=_;rw[Zja hl];rfl
     have h2:evI (Za T W (k+3)) (.zip (.var 0) (.slc (.var 0) (.yes (.int 1)) .no)) [some (.tup rs),some (.str q),some (.str f)] S=some (.vs (List.zipWith (fun x y=>D.tup [x,y]) rs rs.tail),S):=by
      dsimp only[evI];show (ev (Za T W (k+3)) (.slc (.var 0) (.yes (.int 1)) .no) [some (.tup rs),some (.str q),some (.str f)] S).bind _=_;rw[h1];rfl
     exact h2
    ·rintro i d e2 S2 acc hd ⟨⟨y0,y1,y2,rfl⟩,rfl,rfl⟩;have hlt:=(List.getElem?_eq_some_iff.1 hd).1;have htk:(List.zipWith (fun x y=>D.tup [x,y]) rs rs.tail).take (i+1)=(List.zipWith (fun x y=>D.tup [x,y]) rs rs.tail).take i++[d]:=by rw[take_succ,hd];rfl
     rw[htk];have hal:((((List.zipWith (fun x y=>D.tup [x,y]) rs rs.tail).take i).map ltP).map D.bl).length<line:=by
      rw[length_map,length_map,length_take];rw[List.length_zipWith] at hlt;show _<16777216;lia
     rw[List.getElem?_zipWith] at hd;cases hx:rs[i]? with
     |none=>rw[hx] at hd;simp at hd
     | some x=>
      cases hy:rs.tail[i]? with
      |none=>rw[hx,hy] at hd;simp at hd
      | some y=>
       rw[hx,hy] at hd;cases hd
       obtain⟨l,o,r,n,rfl⟩:=hrow x (mem_of_getElem? hx);obtain⟨l',o',r',n',rfl⟩:=hrow y (List.mem_of_mem_tail (mem_of_getElem? hy));rw[map_append (f:=ltP),map_append (f:=D.bl)];generalize ((List.zipWith (fun x y=>D.tup [x,y]) rs rs.tail).take i).map ltP=tk at hal ⊢;refine g_tp (Yx (g_nm (Yx (g_nm (Wa (Ys ⟨fun _=>?_,fun z=>nomatch z⟩))))));show Ev (ev _ _ [y0,some (.tup [.str l,.str o,.str r,.str n]),some (.tup [.str l',.str o',.str r',.str n'])] S2) _;walk_at "go";exact⟨TS.lexB [l,o,r] [l',o',r'],rfl,hal,⟨_,_,_,rfl⟩,rfl,rfl⟩
    ·rintro e2 S2 acc ⟨_,rfl,rfl⟩;rw[take_length];walk_at "go";refine qg ?_;walk_at "go";exact kk
 ·have e1:isT d=false:=by cases d with
   |tup ds=>exact absurd ⟨ds,rfl⟩ ht
   |_=>rfl
  have e2:Y6 q f d=false:=by cases d with
   |tup ds=>exact absurd ⟨ds,rfl⟩ ht
   |_=>rfl
  rw[e2] at kk;rw[e1];walk_at "go";exact kk
noncomputable def tabC(q s f:Str):Bool:=!(decide (q=s)||(decide (q=f)||decide (s=f)))
noncomputable def tabD(w q s f r:D):Bool:=match w,q,s,f with
 |.str w,.str q,.str s,.str f=>decide (w="table")&&(tabC q s f&&Y6 q f r)
 |_,_,_,_=>false
noncomputable def Yg:D->Bool
 |.tup [w,q,s,f,r]=>isN q&&(isN s&&(isN f&&tabD w q s f r))
 |_=>false
theorem ZcT(zt:Zt T){d:D}(h:wd S d=true)(kk:P (.bl (Yg d)) S):Ev ((Za T W (k+5)).fn "is_table" [d] S) P:=by
 refine Zw zt.ta rfl ?_;dsimp only[J4];walk_at "st";refine Zu ?_;walk_at "go";refine qY zt (Yo h) ?_;walk_at "go";by_cases h5:∃ w q s f r,d=.tup [w,q,s,f,r]
 ·obtain⟨w,q,s,f,r,rfl⟩:=h5;have hw:=(J5 h).2;have vw:=Yo (hw w (by simp));have vq:=Yo (hw q (by simp));have vs:=Yo (hw s (by simp));have vf:=Yo (hw f (by simp));have vr:=hw r (by simp);rw[show Vh 5 (.tup [w,q,s,f,r])=true from rfl];walk_at "go";have bad:∀ {b:Bool},tabD w q s f r=false->Yg (.tup [w,q,s,f,r])=false:=fun {b} e=>by
   show (isN q&&(isN s&&(isN f&&tabD w q s f r)))=false;rw[e,Bool.and_false,Bool.and_false,Bool.and_false]
  refine Zu ?_;refine YO (Yk ?_);walk_at "go";refine qf vw ?_;by_cases hs:∃ z,w=.str z
  ·obtain⟨w,rfl⟩:=hs;rw[show isS (.str w)=true from rfl];walk_at "go";refine qh ?_;by_cases hwt:w="table"
   ·rw[oAi hwt];walk_at "go";refine Zu ?_;walk_at "go";refine Jd zt vq ?_;refine t_bl ⟨fun h1=>?_,fun h1=>?_⟩
    ·walk_at "go";refine Jd zt vs ?_;refine t_bl ⟨fun h2=>?_,fun h2=>?_⟩
     ·walk_at "go";refine Jd zt vf ?_;walk_at "go";cases h3:isN f with
      | false=>
       have e:Yg (.tup [.str w,q,s,f,r])=false:=by show (isN q&&(isN s&&(isN f&&_)))=_;rw[h3,Bool.false_and,Bool.and_false,Bool.and_false]
       rw[e] at kk;walk_at "go";exact kk
      | true=>
       obtain⟨q,rfl⟩:=Uu h1;obtain⟨s,rfl⟩:=Uu h2;obtain⟨f,rfl⟩:=Uu h3;have e:Yg (.tup [.str w,.str q,.str s,.str f,r])=(tabC q s f&&Y6 q f r):=by
        show (isN _&&(isN _&&(isN _&&(decide (w="table")&&(tabC q s f&&Y6 q f r)))))=_;rw[h1,h2,h3,oAi hwt];rfl
       rw[e] at kk;unfold tabC at kk;walk_at "go";refine Zu ?_;refine YO ?_;walk_at "go";refine Z6 ?_;refine t_bl ⟨fun g1=>?_,fun g1=>?_⟩
       ·rw[g1] at kk ⊢;walk_at "go";exact kk
       ·walk_at "go";refine Z6 ?_;rw[g1] at kk;refine t_bl ⟨fun g2=>?_,fun g2=>?_⟩
        ·rw[g2] at kk ⊢;walk_at "go";exact kk
        ·walk_at "go";refine Z6 ?_;rw[g2] at kk;cases g3:decide (s=f) with
         | true=>
          rw[g3] at kk;walk_at "go";exact kk
         | false=>
          rw[g3] at kk;walk_at "go";refine ZeS zt vr ?_;walk_at "go";exact kk
     ·have e:Yg (.tup [.str w,q,s,f,r])=false:=by show (isN q&&(isN s&&_))=_;rw[h2,Bool.false_and,Bool.and_false]
      rw[e] at kk;rw[h2];walk_at "go";exact kk
    ·have e:Yg (.tup [.str w,q,s,f,r])=false:=by show (isN q&&_)=_;rw[h1,Bool.false_and]
     rw[e] at kk;rw[h1];walk_at "go";exact kk
   ·have e:tabD (.str w) q s f r=false:=by
     clear bad kk hw h vq vs vf;cases q<;>cases s<;>cases f<;>first
      |rfl
      |(show (decide (w="table")&&_)=false;rw[oAh hwt];rfl)
    rw[bad (b:=true) e] at kk;rw[oAh hwt];walk_at "go";exact kk
  ·have e:tabD w q s f r=false:=by
    unfold tabD;split
    ·exact absurd ⟨_,rfl⟩ hs
    ·rfl
   rw[bad (b:=true) e] at kk;rw[(Wc hs).1];walk_at "go";exact kk
 ·have e1:Vh 5 d=false:=by
   cases d with
   | tup ds=>
    refine oAh fun z=>h5 ?_
    match ds,z with
    |[l,o,r,n,m],_=>exact⟨l,o,r,n,m,rfl⟩
    |[],z=>simp at z
    |[_],z=>simp at z
    |[_,_],z=>simp at z
    |[_,_,_],z=>simp at z
    |[_,_,_,_],z=>simp at z
    |_::_::_::_::_::_::_,z=>simp only[length_cons] at z;lia
   |_=>rfl
  have e2:Yg d=false:=by
   unfold Yg;split
   ·exact absurd ⟨_,_,_,_,_,rfl⟩ h5
   ·rfl
  rw[e2] at kk;rw[e1];walk_at "go";exact kk
end
end LZ
namespace LM
open PySem L2 PF LC LZ
noncomputable def J6:FI:=⟨1,1,(.cons (.ret (.and (.isi (.var 0) "int") (.not (.isi (.var 0) "bool"))))
  .nil)⟩
noncomputable def YR:FI:=⟨3,3,(.cons (.ret (.and (.call "is_whole" (.cons (.var 0) .nil)) (.cmp2 .LtE .LtE (.var 1) (.var 0) (.var 2))))
  .nil)⟩
noncomputable def Vj:FI:=⟨1,2,(.cons (.ifs (.or (.not (.isi (.var 0) "tuple")) (.cmp .Eq (.blt .len (.cons (.var 0) .nil)) (.int (0)))) (.cons (.ret (.bl false))
  .nil) .nil)
  (.cons (.asg (.name 1) (.sub (.var 0) (.int (0))))
  (.cons (.ifs (.or (.not (.isi (.var 1) "str")) (.not (.gin "PARTS" (.var 1)))) (.cons (.ret (.bl false))
  .nil) .nil)
  (.cons (.ifs (.gin "LEAST_COUNT" (.var 1)) (.cons (.ret (.and (.cmp .Eq (.blt .len (.cons (.var 0) .nil)) (.bin .Add (.int (2)) (.gsb "PARTS" (.var 1)))) (.call "is_between" (.cons (.sub (.var 0) (.int (1))) (.cons (.gsb "LEAST_COUNT" (.var 1)) (.cons (.gl "MOST_COUNT") .nil))))))
  .nil) .nil)
  (.cons (.ret (.cmp .Eq (.blt .len (.cons (.var 0) .nil)) (.bin .Add (.int (1)) (.gsb "PARTS" (.var 1)))))
  .nil)))))⟩
noncomputable def J7:FI:=⟨1,1,(.cons (.ifs (.gin "LEAST_COUNT" (.sub (.var 0) (.int (0)))) (.cons (.ret (.slc (.var 0) (.yes (.int (2))) .no))
  .nil) .nil)
  (.cons (.ret (.slc (.var 0) (.yes (.int (1))) .no))
  .nil))⟩
noncomputable def YS:FI:=⟨2,2,(.cons (.ifs (.cmp .Eq (.var 1) (.int (0))) (.cons (.ret (.bl false))
  .nil) .nil)
  (.cons (.ifs (.call "is_table" (.cons (.var 0) .nil)) (.cons (.ret (.bl true))
  .nil) .nil)
  (.cons (.ret (.and (.call "has_form" (.cons (.var 0) .nil)) (.blt .all (.cons (.lv (.comp 2 [1] (.name 1) (.seq (.call "parts_of" (.cons (.var 0) .nil))) .nil (.call "is_machine_within" (.cons (.var 1) (.cons (.bin .Sub (.var 2) (.int (1))) .nil))))) .nil))))
  .nil)))⟩
noncomputable def YT:FI:=⟨1,1,(.cons (.ret (.call "is_machine_within" (.cons (.var 0) (.cons (.gl "DEEPEST") .nil))))
  .nil)⟩
noncomputable def J8:List (Str×Int):=[("later",0),("slowed",1)]
noncomputable def UY:List (Str×Int):=[("mirrored",1),("later",1),("slowed",1),("both",2),("either",2)]
structure Mt(T:Tab):Prop where
 zt:Zt T
 wh:T.lookup ("is_whole":Str)=some J6
 be:T.lookup ("is_between":Str)=some YR
 fo:T.lookup ("has_form":Str)=some Vj
 pa:T.lookup ("parts_of":Str)=some J7
 wi:T.lookup ("is_machine_within":Str)=some YS
 ma:T.lookup ("is_machine":Str)=some YT
 de:T.gls.lookup ("DEEPEST":Str)=some (.int 4)
 mo:T.gls.lookup ("MOST_COUNT":Str)=some (.int 60)
 lc:T.gds.lookup ("LEAST_COUNT":Str)=some J8
 ps:T.gds.lookup ("PARTS":Str)=some UY
noncomputable def isBt(lo hi:Int):D->Bool
 |.int i=>decide (lo<=i)&&decide (i<=hi)
 |_=>false
noncomputable def ZaP(z:Str)(rest:List D):Bool:=match UY.lookup z with
 |none=>false
 | some p=>match J8.lookup z with
  | some lo=>(match rest with
   |c::r=>decide ((r.length:Int)=p)&&isBt lo 60 c
   |[]=>false)
  |none=>decide ((rest.length:Int)=p)
noncomputable def form:D->Bool
 |.tup (.str z::rest)=>ZaP z rest
 |_=>false
noncomputable def ZS:D->List D
 |.tup (.str z::rest)=>if (J8.lookup z).isSome then rest.tail else rest
 |_=>[]
noncomputable def isM:Nat->D->Bool
 |0,_=>false
 |n+1,d=>Yg d||(form d&&(ZS d).all (isM n))
section
variable {T:Tab}{W k:Nat}{S:Sto}{P:D->Sto->Prop}
theorem glo(h:T.gls.lookup x=some d):(Za T W k).gl x=some d:=by cases k<;>exact h
theorem za(hd:c.gd x=some kvs)(h:Ev (ev c a env S) fun d S1=>∃ y,d=.str y/\P (.bl (kvs.lookup y).isSome) S1):Ev (ev c (.gin x a) env S) P:=by
 obtain⟨d,S1,h1,y,rfl,k⟩:=h;refine⟨_,S1,?_,k⟩;dsimp only[ev];rw[h1]
 show (c.gd x).map _=_;rw[hd];rfl
theorem zb(hd:c.gd x=some kvs)(h:Ev (ev c a env S) fun d S1=>∃ y i,d=.str y/\kvs.lookup y=some i/\P (.int i) S1):Ev (ev c (.gsb x a) env S) P:=by
 obtain⟨d,S1,h1,y,i,rfl,hi,k⟩:=h;refine⟨_,S1,?_,k⟩;dsimp only[ev];rw[h1]
 show (c.gd x).bind (fun kvs=>(kvs.lookup y).map fun i=>(D.int i,S1))=_;rw[hd];show (kvs.lookup y).map (fun i=>(D.int i,S1))=_;rw[hi];rfl
noncomputable def isI:D->Bool
 |.int _=>true
 |_=>false
theorem Jx:Z9.lookup ("int":Str)=some "int":=by decide +kernel
theorem JO:Z9.lookup ("bool":Str)=some "bool":=by decide +kernel
theorem ZcU(mt:Mt T)(h:vd S d=true)(kk:P (.bl (isI d)) S):Ev ((Za T W (k+1)).fn "is_whole" [d] S) P:=by
 refine Zw mt.wh rfl ?_;dsimp only[J6];walk_at "st";cases d with
 | int i=>
  walk_at "go";exact kk
 | bl b=>
  refine J1 Jx rfl ?_;rw[show (decide (("bool":String)="int")||(decide (("bool":String)="bool")&&decide (("int":String)="int")))=true by decide];walk_at "go";refine J1 JO rfl ?_;rw[show (decide (("bool":String)="bool")||(decide (("bool":String)="bool")&&decide (("bool":String)="int")))=true by decide];walk_at "go";exact kk
 | ref n=>
  obtain⟨t,h1,_,_⟩:=ZaO h;have ht:t="list"\/t="dict":=by
   rw[tyD] at h1;cases ho:S[n]? with
   |none=>rw[ho] at h1;cases h1
   | some o=>
    rw[ho] at h1;cases o<;>cases h1<;>simp
  refine Zdo Jx h1 (by rcases ht with rfl | rfl<;>decide) ?_
  walk_at "go";exact kk
 | _=>
  refine Zdo Jx rfl (by decide) ?_;walk_at "go";exact kk
theorem ZgM(h:isI d=true):∃ i,d=.int i:=by
 cases d with
 |int i=>exact⟨i,rfl⟩
 |_=>cases h
theorem ZaQ(mt:Mt T)(h:vd S d=true)(kk:P (.bl (isBt lo hi d)) S):Ev ((Za T W (k+2)).fn "is_between" [d,.int lo,.int hi] S) P:=by
 refine Zw mt.be rfl ?_;dsimp only[YR];walk_at "st";refine ZcU mt h ?_;refine t_bl ⟨fun h1=>?_,fun h1=>?_⟩
 ·obtain⟨i,rfl⟩:=ZgM h1;refine Wl ?_;walk_at "go";refine two_of (fun h2=>?_) (fun h2=>?_)
  ·have e:isBt lo hi (.int i)=decide (i<=hi):=by show (decide (lo<=i)&&_)=_;rw[oAi h2,Bool.true_and]
   rw[e] at kk;walk_at "go";exact kk
  ·have e:isBt lo hi (.int i)=false:=by show (decide (lo<=i)&&_)=_;rw[oAh h2,Bool.false_and]
   rw[e] at kk;walk_at "go";exact kk
 ·have e:isBt lo hi d=false:=by cases d with
   |int i=>cases h1
   |_=>rfl
  rw[e] at kk;rw[h1];walk_at "go";exact kk
theorem Wn{ds:List D}{n:Nat}(hn:1<=n)(hl:ds≠[]):Z2 S (.tup ds) (some (n:Int)) none=some (.tup (ds.drop n)):=by
 have hp:0<ds.length:=List.length_pos_iff.2 hl;have e1:HT.sIx ds.length 0 (some (n:Int))=min n ds.length:=HT.ZdN _ _ _;show (if HT.sIx ds.length 0 (some (n:Int))=0/\HT.sIx ds.length ds.length none=ds.length then some (D.tup ds) else some (D.tup (cutD ds (some (n:Int)) none)))=_;rw[if_neg (by rw[e1];lia)]
 unfold cutD;rw[e1];show some (D.tup ((ds.drop (min n ds.length)).take (ds.length - min n ds.length)))=_;rw[take_of_length_le (by rw[length_drop];exact oAl _)]
 rcases Nat.le_total n ds.length with h | h
 ·rw[Nat.min_eq_left h]
 ·rw[Nat.min_eq_right h,List.drop_of_length_le (oAl _),List.drop_of_length_le h]
theorem at_0{w:D}{rest:List D}:atI (w::rest) 0=some w:=by
 unfold atI L2.ixN;rw[if_pos (by decide),if_pos (by simp only[length_cons];omega)];rfl
theorem at_1{w c:D}{rest:List D}:atI (w::c::rest) 1=some c:=by
 unfold atI L2.ixN;rw[if_pos (by decide),if_pos (by simp only[length_cons];omega)];rfl
theorem zd(h:¬ ∃ z rest,d=.tup (.str z::rest)):form d=false:=by
 unfold form;split
 ·exact absurd ⟨_,_,rfl⟩ h
 ·rfl
theorem ZeT(mt:Mt T)(h:wd S d=true)(kk:P (.bl (form d)) S):Ev ((Za T W (k+3)).fn "has_form" [d] S) P:=by
 refine Zw mt.fo rfl ?_;dsimp only[Vj];walk_at "st";refine Zu ?_;refine YO (Yk ?_);walk_at "go";refine Wm (Yo h) ?_;by_cases ht:∃ ds,d=.tup ds
 ·obtain⟨ds,rfl⟩:=ht;obtain⟨hlen,hw⟩:=J5 h;rw[show isT (.tup ds)=true from rfl];walk_at "go";cases ds with
  | nil=>
   rw[show form (.tup [])=false from rfl] at kk;rw[oAi (by simp)];walk_at "go";exact kk
  | cons w rest=>
   rw[oAh (by simp only[length_cons];lia)]
   walk_at "go";refine Zp at_0 ?_;walk_at "go";refine Zu ?_;refine YO (Yk ?_);walk_at "go";refine qf (Yo (hw w (by simp))) ?_;by_cases hs:∃ z,w=.str z
   ·obtain⟨z,rfl⟩:=hs;rw[show isS (.str z)=true from rfl];replace kk:P (.bl (ZaP z rest)) S:=kk;walk_at "go";refine za (YN mt.ps) ?_;walk_at "go";unfold ZaP at kk;cases hp:UY.lookup z with
    | none=>
     rw[hp] at kk;rw[show (none:Option Int).isSome=false from rfl];walk_at "go";exact kk
    | some p=>
     rw[hp] at kk;rw[show (some p).isSome=true from rfl];walk_at "go";refine Zu ?_;refine za (YN mt.lc) ?_;walk_at "go";cases hq:J8.lookup z with
     | none=>
      rw[hq] at kk;rw[show (none:Option Int).isSome=false from rfl];walk_at "go";refine zb (YN mt.ps) ?_;walk_at "go";refine⟨z,p,rfl,hp,?_⟩;walk_at "go";have e:decide (((.str z::rest:List D).length:Int)=1+p)=decide ((rest.length:Int)=p):=decide_eq_decide.2 (by simp only[length_cons];lia)
      rw[e];exact kk
     | some lo=>
      rw[hq] at kk;rw[show (some lo).isSome=true from rfl];walk_at "go";refine zb (YN mt.ps) ?_;walk_at "go";refine⟨z,p,rfl,hp,?_⟩;walk_at "go";cases rest with
      | nil=>
       have hp1:1<=p:=by
        have:∀ q∈UY,1<=q.2:=by decide
        exact this (z,p) (PySem.mem_of_lookup (l:=UY) hp)
       rw[show decide ((([D.str z]:List D).length:Int)=2+p)=false from oAh (by show ¬ ((1:Int)=2+p);lia)]
       walk_at "go";exact kk
      | cons c r=>
       replace kk:P (.bl (decide ((r.length:Int)=p)&&isBt lo 60 c)) S:=kk;have e:decide (((.str z::c::r:List D).length:Int)=2+p)=decide ((r.length:Int)=p):=decide_eq_decide.2 (by simp only[length_cons];lia)
       rw[e];refine two_of (fun g=>?_) (fun g=>?_)
       ·rw[show (decide ((r.length:Int)=p)&&isBt lo 60 c)=isBt lo 60 c by rw[oAi g,Bool.true_and]] at kk;walk_at "go";refine Zp at_1 ?_;walk_at "go";refine zb (YN mt.lc) ?_;walk_at "go";refine⟨z,lo,rfl,hq,?_⟩;walk_at "go";refine Va (glo mt.mo) ?_;walk_at "go";refine ZaQ mt (Yo (hw c (by simp))) ?_;walk_at "go";exact kk
       ·rw[show (decide ((r.length:Int)=p)&&isBt lo 60 c)=false by rw[oAh g,Bool.false_and]] at kk;rw[oAh g];walk_at "go";exact kk
   ·rw[zd (fun z=>by obtain⟨y,r,e⟩:=z;cases e;exact hs ⟨y,rfl⟩)] at kk
    rw[(Wc hs).1];walk_at "go";exact kk
 ·have e1:isT d=false:=by cases d with
   |tup ds=>exact absurd ⟨ds,rfl⟩ ht
   |_=>rfl
  rw[zd (fun z=>by obtain⟨y,r,e⟩:=z;exact ht ⟨_,e⟩)] at kk
  rw[e1];walk_at "go";exact kk
theorem cut1{w:D}{rest:List D}:cutD (w::rest) (some 1) none=rest:=by
 have e1:HT.sIx (w::rest).length 0 (some 1)=1:=by
  show (if (1:Int)<0 then (1+((w::rest).length:Int)).toNat else min (1:Int).toNat (w::rest).length)=1;rw[if_neg (by decide),length_cons];lia
 unfold cutD;rw[e1];show ((w::rest).drop 1).take ((w::rest).length - 1)=rest;rw[take_of_length_le (by rw[length_drop];exact oAl _)];rfl
theorem Zjb(h:Ev o fun d' S'=>d'=d/\S'=S):o=some (d,S):=by
 obtain⟨d',S',h,rfl,rfl⟩:=h;exact h
theorem JB(mt:Mt T)(h:form d=true)(kk:P (.tup (ZS d)) S):Ev ((Za T W (k+1)).fn "parts_of" [d] S) P:=by
 obtain⟨z,rest,rfl⟩:∃ z rest,d=.tup (.str z::rest):=Classical.byContradiction fun g=>by rw[zd g] at h;cases h
 refine Zw mt.pa rfl ?_;dsimp only[J7];walk_at "st";refine Zu ?_;refine za (YN mt.lc) ?_;walk_at "go";refine Zp at_0 ?_;refine⟨z,rfl,?_⟩;walk_at "go";replace kk:P (.tup (if (J8.lookup z).isSome then rest.tail else rest)) S:=kk;cases hq:(J8.lookup z).isSome with
 | true=>
  rw[hq] at kk;walk_at "go";refine Jz (Wn (ds:=.str z::rest) (n:=2) (by decide) (by simp)) ?_;walk_at "go";rw[show (D.str z::rest).drop 2=rest.tail by cases rest<;>rfl]
  exact kk
 | false=>
  rw[hq] at kk;walk_at "go";rw[cut1];exact kk
theorem Zb2(h:x∈ZS d)(hw:wd S d=true):wd S x=true:=by
 unfold ZS at h;split at h
 ·obtain⟨_,hw⟩:=J5 hw;split at h
  ·exact hw x (oAm _ (List.mem_of_mem_tail h))
  ·exact hw x (oAm _ h)
 ·cases h
theorem Zb3(hw:wd S d=true):(ZS d).length<=1000000:=by
 unfold ZS;split
 ·obtain⟨hl,_⟩:=J5 hw;rw[length_cons] at hl;split
  ·rw[List.length_tail];omega
  ·omega
 ·exact zero_le _
theorem Zb4(mt:Mt T):∀ (n:Nat) {d:D}{P:D->Sto->Prop},wd S d=true->P (.bl (isM n d)) S->Ev ((Za T W (k+n+6)).fn "is_machine_within" [d,.int (n:Nat)] S) P:=by
 intro n
 induction n with
 | zero=>
  intro d P h kk;refine Zw mt.wi rfl ?_;dsimp only[YS];walk_at "st";refine Zu ?_;walk_at "go";rw[oAi (by rfl)];walk_at "go";exact kk
 | succ n ih=>
  intro d P h kk;refine Zw mt.wi rfl ?_;dsimp only[YS];walk_at "st";refine Zu ?_;walk_at "go";rw[oAh (by omega)];walk_at "go";refine Zu ?_;walk_at "go";refine ZcT mt.zt h ?_;replace kk:P (.bl (Yg d||(form d&&(ZS d).all (isM n)))) S:=kk;refine t_bl ⟨fun h1=>?_,fun h1=>?_⟩
  ·rw[h1,Bool.true_or] at kk;walk_at "go";exact kk
  ·rw[h1,Bool.false_or] at kk;walk_at "go";refine ZeT mt h ?_;refine t_bl ⟨fun h2=>?_,fun h2=>?_⟩
   ·rw[h2,Bool.true_and] at kk;walk_at "go";have he:ev (Za T W (k+(n+1)+5)) (.call "parts_of" (.cons (.var 0) .nil)) [some d,some (.int ((n+1:Nat):Int))] S=some (.tup (ZS d),S):=by
     refine Zjb ?_;walk_at "go";refine JB mt h2 ?_;exact⟨rfl,rfl⟩
    have hi:evI (Za T W (k+(n+1)+5)) (.seq (.call "parts_of" (.cons (.var 0) .nil))) [some d,some (.int ((n+1:Nat):Int))] S=some (.vs (ZS d),S):=by dsimp only[evI];rw[he];rfl
    refine Wb (ds:=ZS d) (fun x=>.bl (isM n x)) (fun e=>∃ y0 y1,e=[y0,y1,some (.int ((n+1:Nat):Int))]) hi (Zb3 h) ⟨_,_,rfl⟩ ?_ ?_
    ·rintro x hx e2 ⟨y0,y1,rfl⟩;refine⟨⟨_,_,rfl⟩,?_⟩;show Ev (ev _ _ [y0,some x,some (.int ((n+1:Nat):Int))] S) _;walk_at "go";rw[show (((n+1:Nat):Int) - 1)=(n:Int) by omega];refine ih (Zb2 hx h) ?_;exact⟨rfl,rfl⟩
    ·rw[show ((ZS d).map fun x=>D.bl (isM n x))=((ZS d).map (isM n)).map D.bl by rw[map_map];rfl]
     walk_at "go";refine qg ?_;walk_at "go";rw[show (((ZS d).map (isM n)).all id)=(ZS d).all (isM n) by rw[all_map];rfl]
     exact kk
   ·rw[h2,Bool.false_and] at kk;rw[h2];walk_at "go";exact kk
theorem ZaR(mt:Mt T)(h:wd S d=true)(kk:P (.bl (isM 4 d)) S):Ev ((Za T W (k+11)).fn "is_machine" [d] S) P:=by
 refine Zw mt.ma rfl ?_;dsimp only[YT];walk_at "st";refine Va (glo mt.de) ?_;walk_at "go";refine Zb4 (k:=k) mt 4 h ?_;walk_at "go";exact kk
end
end LM
namespace LW
open PySem L2 PF
noncomputable def Vk:FI:=⟨2,2,(.cons (.ifs (.cmp .Eq (.blt .len (.cons (.var 0) .nil)) (.int (0))) (.cons (.ret (.int (0)))
  .nil) .nil)
  (.cons (.ret (.sub (.var 0) (.bin .Mod (.var 1) (.blt .len (.cons (.var 0) .nil)))))
  .nil))⟩
noncomputable def Vl:FI:=⟨2,6,(.cons (.asg (.name 2) (.call "_law_cell" (.cons (.var 0) (.cons (.var 1) .nil))))
  (.cons (.asg (.name 3) (.int (1)))
  (.cons (.fr (.name 4) (.rng1 (.int (8))) (.cons (.asg (.name 3) (.bin .Mult (.var 3) (.bin .Pow (.int (10)) (.int (60)))))
  .nil))
  (.cons (.asg (.name 5) (.bin .Mult (.bin .Mod (.blt .abs (.cons (.var 2) .nil)) (.var 3)) (.blt .int (.cons (.cmp .GtE (.blt .abs (.cons (.var 2) .nil)) (.bin .Pow (.int (10)) (.int (18)))) .nil))))
  (.cons (.ret (.lr (.dsp (.cons (.var 5) (.cons (.bin .Mod (.bin .Mult (.bin .Add (.bin .Add (.bin .Mod (.var 2) (.int (2147483629))) (.bin .Mult (.bin .Mult (.int (7919)) (.var 1)) (.var 1))) (.int (17))) (.int (48271))) (.int (2147483647))) (.cons (.int (0)) .nil))))))
  .nil)))))⟩
noncomputable def Vm:FI:=⟨2,3,(.cons (.ifs (.cmp .Gt (.sub (.var 0) (.int (0))) (.int (0))) (.cons (.asg (.name 2) (.bin .Mod (.sub (.var 0) (.int (0))) (.var 1)))
  (.cons (.asg (.sub (.var 0) (.int (0))) (.bin .FloorDiv (.sub (.var 0) (.int (0))) (.var 1)))
  (.cons (.ret (.var 2))
  .nil))) .nil)
  (.cons (.asg (.sub (.var 0) (.int (2))) (.bin .Add (.sub (.var 0) (.int (2))) (.int (1))))
  (.cons (.asg (.sub (.var 0) (.int (1))) (.bin .Mod (.bin .Add (.bin .Add (.bin .Mult (.sub (.var 0) (.int (1))) (.int (69621))) (.int (12345))) (.bin .Mult (.int (101)) (.sub (.var 0) (.int (2))))) (.int (2147483647))))
  (.cons (.ret (.bin .Mod (.bin .FloorDiv (.bin .Mod (.bin .Mult (.sub (.var 0) (.int (1))) (.bin .Add (.bin .Mod (.sub (.var 0) (.int (1))) (.int (40009))) (.int (7)))) (.int (2147483629))) (.int (64))) (.var 1)))
  .nil))))⟩
noncomputable def Ua:FI:=⟨2,7,(.cons (.asg (.name 2) (.str "abcdefghijklmnopqrstuvwxyz"))
  (.cons (.asg (.name 3) (.join "" (.lv (.comp 2 [0,2] (.name 1) (.rng1 (.call "_law_pick" (.cons (.var 0) (.cons (.int (8)) .nil)))) .nil (.sub (.var 3) (.call "_law_pick" (.cons (.var 2) (.cons (.int (26)) .nil))))))))
  (.cons (.asg (.tup (.cons (.name 4) (.cons (.name 5) .nil))) (.tup (.cons (.call "_law_pick" (.cons (.var 0) (.cons (.bin .Add (.blt .len (.cons (.var 3) .nil)) (.int (1))) .nil))) (.cons (.call "_law_pick" (.cons (.var 0) (.cons (.int (26)) .nil))) .nil))))
  (.cons (.asg (.name 6) (.sub (.lv (.dsp (.cons (.int (1)) (.cons (.int (3)) (.cons (.int (5)) (.cons (.int (7)) (.cons (.int (9)) (.cons (.int (11)) .nil)))))))) (.call "_law_pick" (.cons (.var 0) (.cons (.int (6)) .nil)))))
  (.cons (.ret (.lv (.comp 2 [4,5,2,3,6] (.name 1) (.rng1 (.var 1)) .nil (.bin .Add (.bin .Add (.slc (.var 5) .no (.yes (.var 2))) (.sub (.var 4) (.bin .Mod (.bin .Add (.var 3) (.bin .Mult (.var 6) (.var 1))) (.int (26))))) (.slc (.var 5) (.yes (.var 2)) .no)))))
  .nil)))))⟩
noncomputable def mayF:FI:=⟨4,4,(.cons (.ifs (.or (.cmp .Eq (.sub (.var 2) (.int (1))) (.var 1)) (.cmp .Eq (.sub (.var 2) (.int (1))) (.var 3))) (.cons (.ret (.bl false))
  .nil) .nil)
  (.cons (.ret (.or (.cmp .NotEq (.sub (.var 2) (.int (1))) (.var 0)) (.or (.cmp .NotIn (.sub (.var 2) (.int (0))) (.tup (.cons (.var 0) (.cons (.str "") .nil)))) (.cmp .NotIn (.sub (.var 2) (.int (2))) (.tup (.cons (.var 0) (.cons (.str "") .nil)))))))
  .nil))⟩
noncomputable def tblF:FI:=⟨3,10,(.cons (.asg (.name 3) (.call "_law_names" (.cons (.var 0) (.cons (.bin .Add (.int (3)) (.call "_law_pick" (.cons (.var 0) (.cons (.bin .Add (.var 1) (.int (1))) .nil)))) .nil))))
  (.cons (.asg (.name 4) (.bin .Add (.var 3) (.lv (.dsp (.cons (.str "") .nil)))))
  (.cons (.asg (.name 5) .dnew)
  (.cons (.fr (.name 6) (.rng1 (.call "_law_pick" (.cons (.var 0) (.cons (.bin .Add (.var 2) (.int (1))) .nil)))) (.cons (.asg (.name 7) (.tup (.cons (.sub (.var 4) (.call "_law_pick" (.cons (.var 0) (.cons (.blt .len (.cons (.var 4) .nil)) .nil)))) (.cons (.sub (.var 3) (.call "_law_pick" (.cons (.var 0) (.cons (.blt .len (.cons (.var 3) .nil)) .nil)))) .nil))))
  (.cons (.asg (.name 7) (.bin .Add (.var 7) (.tup (.cons (.sub (.var 4) (.call "_law_pick" (.cons (.var 0) (.cons (.blt .len (.cons (.var 4) .nil)) .nil)))) .nil))))
  (.cons (.asg (.name 8) (.sub (.var 3) (.call "_law_pick" (.cons (.var 0) (.cons (.blt .len (.cons (.var 3) .nil)) .nil)))))
  (.cons (.ifs (.call "_law_may" (.cons (.sub (.var 3) (.int (0))) (.cons (.sub (.var 3) (.int (2))) (.cons (.var 7) (.cons (.var 8) .nil))))) (.cons (.asg (.subK (.var 5) (.var 7)) (.var 8))
  .nil) .nil)
  .nil)))))
  (.cons (.asg (.name 9) (.blt .tuple (.cons (.lv (.blt .sorted (.cons (.lv (.compD 2 [5] (.name 1) (.var 5) (.bin .Add (.var 1) (.tup (.cons (.subK (.var 2) (.var 1)) .nil))))) .nil))) .nil)))
  (.cons (.ret (.tup (.cons (.str "table") (.cons (.sub (.var 3) (.int (0))) (.cons (.sub (.var 3) (.int (1))) (.cons (.sub (.var 3) (.int (2))) (.cons (.var 9) .nil)))))))
  .nil))))))⟩
structure Wt(T:Tab):Prop where
 ce:T.lookup ("_law_cell":Str)=some Vk
 le:T.lookup ("_law_left":Str)=some Vl
 pi:T.lookup ("_law_pick":Str)=some Vm
 na:T.lookup ("_law_names":Str)=some Ua
 ma:T.lookup ("_law_may":Str)=some mayF
 ta:T.lookup ("_law_table":Str)=some tblF
def Pk(S:Sto)(r:Nat):Prop:=∃ a b n:Int,S[r]?=some (.lst [.int a,.int b,.int n])/\0<=b/\b<2147483647
theorem Pk.gr{S S':Sto}{r:Nat}(h:Pk S r)(g:Gr S S'):Pk S' r:=by
 obtain⟨a,b,n,h1,h2⟩:=h;exact⟨a,b,n,g.get h1,h2⟩
section
variable {T:Tab}{W k:Nat}{S:Sto}{P:D->Sto->Prop}
theorem ZN(wt:Wt T){r:Nat}{m:Int}(h:Pk S r)(hm:0<m)(hm2:m<=1000)(kk:∀ (d:Int) (S':Sto),Pk S' r->Fr r S S'->S'.length=S.length->0<=d->d<m->P (.int d) S'):Ev ((Za T W (k+1)).fn "_law_pick" [.ref r,.int m] S) P:=by
 obtain⟨a,b,n,hS,h0,h1⟩:=h;have hr:r<S.length:=(List.getElem?_eq_some_iff.1 hS).1;refine Zw wt.pi rfl ?_;dsimp only[Vm];walk_at "st";refine Zu ?_;walk_at "go";refine two_of (fun ha=>?_) (fun ha=>?_)
 ·walk_at "go";exact kk _ _ ⟨_,_,_,by assumption,h0,h1⟩ (Zi4 (by assumption) (by assumption)) (by assumption) (emod_nonneg _ (by lia)) (Int.emod_lt_of_pos _ hm)
 ·walk_at "go";rename_i S1 e1 e2 e3 S2 f1 f2 f3;exact kk _ _ ⟨_,_,_,f1,by lia,by lia⟩ ⟨by lia,fun m _ hm=>by rw[f2 m hm,e2 m hm]⟩ (by lia) (emod_nonneg _ (by lia)) (Int.emod_lt_of_pos _ hm)
theorem ZeU(wt:Wt T){ns:List Int}{q:Int}(h0:0<=q)(kk:∀ z:Int,P (.int z) S):Ev ((Za T W (k+1)).fn "_law_cell" [.lst (ns.map D.int),.int q] S) P:=by
 refine Zw wt.ce rfl ?_;dsimp only[Vk];walk_at "st";refine Zu ?_;walk_at "go";refine two_of (fun hp=>?_) (fun hp=>?_)
 ·walk_at "go";exact kk 0
 ·have hl:(0:Int)<((ns.map D.int).length:Int):=by lia
  walk_at "go";have hn:(q % ((ns.map D.int).length:Int)).toNat<ns.length:=by
   have:=Int.emod_lt_of_pos q hl;have:=emod_nonneg q (show ((ns.map D.int).length:Int)≠0 by lia);simp only[length_map] at *;lia
  obtain⟨z,hz⟩:∃ z,atI (ns.map D.int) (q % ((ns.map D.int).length:Int))=some (.int z):=by
   have:=emod_nonneg q (show ((ns.map D.int).length:Int)≠0 by lia);generalize q % ((ns.map D.int).length:Int)=y at *;obtain⟨n,rfl⟩:∃ n:Nat,y=n:=⟨y.toNat,by lia⟩;have hl':n<ns.length:=by simpa using hn
   exact⟨ns[n],Yv (by rw[getElem?_map,oAt hl'];rfl)⟩
  refine ZB hz ?_;walk_at "go";exact kk z
theorem ZeV(wt:Wt T){ns:List Int}{q:Int}(h0:0<=q)(h1:q<=100)(kk:∀ (S':Sto),Pk S' S.length->Gr S S'->P (.ref S.length) S'):Ev ((Za T W (k+2)).fn "_law_left" [.lst (ns.map D.int),.int q] S) P:=by
 refine Zw wt.le rfl ?_;dsimp only[Vl];walk_at "st";refine ZeU wt h0 (fun z=>?_);walk_at "go";refine UX ?_;walk_at "go";refine⟨8,fun i e2 S2=>S2=S/\i<=8/\∃ t,e2=[some (.lst (ns.map D.int)),some (.int q),some (.int z),some (.int (10 ^ (60 * i))),t,none],rfl,by decide,by decide,⟨rfl,by lia,_,rfl⟩,?_,?_⟩
 ·rintro i e2 S2 hi ⟨rfl,hi8,t,rfl⟩;have e:(10:Int) ^ (60 * i) * 1000000000000000000000000000000000000000000000000000000000000=10 ^ (60 * (i+1)):=by
   rw[show 60 * (i+1)=60 * i+60 by lia,Int.pow_add];rfl
  have hb:=Zad (n:=60 * i) (by lia);have hb2:(1000000000000000000000000000000000000000000000000000000000000:Int).natAbs<2 ^ 100000:=Zad (n:=60) (by lia);generalize (10:Int) ^ (60 * i)=y at *;refine g_nm (Ze (ZF (ZR (Zc rfl (ZR (Zg (Zg (Op.mk pow60 (ZgI hb hb2 ?_)))))))));clear hb hb2;walk_at "go";exact⟨rfl,by have:(8:Int).toNat=8:=rfl;lia,some (.int (i:Int)),by rw[<- e];rfl⟩
 ·rintro e2 S2 ⟨rfl,_,t,rfl⟩;have hf:(0:Int)<10 ^ (60 * (8:Int).toNat):=Int.pow_pos (by decide);generalize (10:Int) ^ (60 * (8:Int).toNat)=far at *;walk_at "go";exact kk _ ⟨_,_,_,Yy,by lia,by lia⟩ Gr.one
end
open PySem L2 PF LZ
noncomputable def one(c:Nat):Str:=⟨#[c]⟩
noncomputable abbrev alpha:Str:="abcdefghijklmnopqrstuvwxyz"
def lowc(c:Nat):Prop:=97<=c/\c<=122
theorem ZcV{i:Int}(h0:0<=i)(h1:i<26):atI alpha.cps.toList i=some (97+i.toNat):=by
 obtain⟨n,rfl⟩:∃ n:Nat,i=n:=⟨i.toNat,by lia⟩;have hn:n<26:=by lia
 have e:alpha.cps.toList=(List.range 26).map (97+·):=by decide +kernel
 rw[e];refine Yv ?_;rw[getElem?_map,List.getElem?_range hn];rfl
section
variable {T:Tab}{W k:Nat}{S:Sto}{P:D->Sto->Prop}{PD:D->Prop}
theorem WX{i:Int}(h0:0<=i)(h1:i<26)(k:PD (.str (one (97+i.toNat)))):Op (subD S (.str alpha) (.int i)) PD:=by
 refine⟨_,?_,k⟩;show (if alpha.length<=line then (atI alpha.cps.toList i).map fun c=>D.str ⟨#[c]⟩ else none)=_;rw[if_pos (by decide +kernel),ZcV h0 h1];rfl
noncomputable def txt(cs:List Nat):Str:=⟨cs.toArray⟩
theorem JC(cs:List Nat):(txt cs).cps.toList=cs:=rfl
theorem Yn(cs:List Nat):(txt cs).length=cs.length:=by show cs.toArray.size=_;simp
theorem join7:∀ cs:List Nat,Str.join "" (cs.map one)=txt cs
 |[]=>rfl
 |[c]=>rfl
 | c::d::cs=>by
  have ih:=join7 (d::cs);rw[map_cons] at ih ⊢;rw[map_cons,Str.join,ih]
  ·show (⟨(#[c]++(Str.ofString "").cps)++(d::cs).toArray⟩:Str)=_;rw[show (Str.ofString "").cps=#[] from rfl];unfold txt;simp
  ·intro z;cases z
theorem fold7:∀ (cs:List Nat) (n:Nat),(cs.map one).foldl (fun n y=>n+y.length+(Str.ofString "").length) n=n+cs.length
 |[],n=>rfl
 | c::cs,n=>by
  rw[map_cons,foldl_cons,fold7 cs];show n+1+0+cs.length=n+(cs.length+1);lia
theorem fit7(cs:List Nat)(h:cs.length<=7):YQ "" (cs.map one)=true:=by
 unfold YQ Builtin.Str.tooLong;rw[join7,Yn,<-Array.foldl_toList];show (!decide ((cs.map one).foldl (fun n y=>n+y.length+(Str.ofString "").length) 0 > sizeLine)&&decide (cs.length<=line))=true;rw[fold7,ZD];have e:line=16777216:=rfl;rw[e,oAh (by lia),oAi (by lia)];rfl
theorem strs_map:∀ l:List Str,ZM (l.map D.str)=some l
 |[]=>rfl
 |x::l=>by rw[map_cons,ZM,strs_map l];rfl
noncomputable def nmL(cs:List Nat)(a j:Nat):Str:=txt (cs.take a++(97+j)::cs.drop a)
theorem Zjc{cs:List Nat}{a:Nat}(h:a<=cs.length)(hl:cs.length<=7):Z2 S (.str (txt cs)) none (some (a:Int))=some (.str (txt (cs.take a))):=by
 have e:StrLaws.sliceText (txt cs) none (some (a:Int))=txt (cs.take a):=by
  rw[StrLaws.sliceText_to ⟨by lia,by rw[JC];lia⟩,JC,List.drop_zero]
  show txt (cs.take ((a:Int) - 0).toNat)=_;rw[show ((a:Int) - 0).toNat=a by omega]
 show (if (StrLaws.sliceText (txt cs) none (some (a:Int))).length<=line then some (D.str (StrLaws.sliceText (txt cs) none (some (a:Int)))) else none)=_;rw[e,if_pos (by rw[Yn,length_take];show _<=16777216;lia)]
theorem Wn{cs:List Nat}{a:Nat}(h:a<=cs.length)(hl:cs.length<=7):Z2 S (.str (txt cs)) (some (a:Int)) none=some (.str (txt (cs.drop a))):=by
 have e:StrLaws.sliceText (txt cs) (some (a:Int)) none=txt (cs.drop a):=by
  rw[StrLaws.sliceText_from ⟨by omega,by rw[JC];omega⟩,JC]
  show txt ((cs.drop (a:Int).toNat).take ((cs.length:Int) - a).toNat)=_;rw[show (a:Int).toNat=a by omega,take_of_length_le (by rw[length_drop];omega)]
 show (if (StrLaws.sliceText (txt cs) (some (a:Int)) none).length<=line then some (D.str (StrLaws.sliceText (txt cs) (some (a:Int)) none)) else none)=_;rw[e,if_pos (by rw[Yn,length_drop];show _<=16777216;omega)]
theorem Zag(a b:List Nat):txt a++txt b=txt (a++b):=by
 show (⟨a.toArray++b.toArray⟩:Str)=_;unfold txt;simp
theorem Zb5{x y:Str}(hz:x.length+y.length<=line)(k:PD (.str (x++y))):Op (binop S .Add (.str x) (.str y)) PD:=⟨_,by show (if x.length+y.length<=line then some (D.str (x++y)) else none)=_;rw[if_pos hz],k⟩
theorem ZgN{cs:List Nat}{a j:Nat}(hl:cs.length<=7)(hc:∀ c∈cs,lowc c)(hj:j<26):isN (.str (nmL cs a j))=true:=by
 have hlen:(cs.take a++(97+j)::cs.drop a).length=cs.length+1:=by simp;lia
 have hall:∀ c∈cs.take a++(97+j)::cs.drop a,lowc c:=fun c h=>by
  rcases List.mem_append.1 h with h | h
  ·exact hc c (List.mem_of_mem_take h)
  ·rcases List.mem_cons.1 h with rfl | h
   ·unfold lowc;lia
   ·exact hc c (List.mem_of_mem_drop h)
 unfold nmL;show (decide (1<=(txt (cs.take a++(97+j)::cs.drop a)).length)&&decide ((txt (cs.take a++(97+j)::cs.drop a)).length<=8)&&(txt (cs.take a++(97+j)::cs.drop a)).cps.toList.all fun c=>decide (97<=c)&&decide (c<=122))=true;rw[Yn,hlen];simp only[and_eq_true,decide_eq_true_eq,all_eq_true];exact⟨⟨by lia,by lia⟩,fun c h=>hall c (by rw[JC] at h;exact h)⟩
theorem ZgO{cs:List Nat}{a j j':Nat}(ha:a<=cs.length)(h:nmL cs a j=nmL cs a j'):j=j':=by
 have e:(cs.take a++(97+j)::cs.drop a)=(cs.take a++(97+j')::cs.drop a):=by
  have:=congrArg (fun s:Str=>s.cps.toList) h;exact this
 have:=List.append_cancel_left e;injection this with h1 _
 lia
noncomputable def steps:List Int:=[1,3,5,7,9,11]
theorem ZcW{f st:Int}{i j:Nat}(hs:st∈steps)(hi:i<10)(hj:j<10)(h:(f+st * i) % 26=(f+st * j) % 26):i=j:=by
 simp only[steps,mem_cons,not_mem_nil,or_false] at hs
 rcases hs with rfl | rfl | rfl | rfl | rfl | rfl<;>omega
theorem ZcX(wt:Wt T){r:Nat}{m:Int}(h:Pk S r)(hm:0<=m)(hm2:m<=10)(kk:∀ (ns:List Str) (S':Sto),Pk S' r->Fr r S S'->S'.length=S.length->(ns.length:Int)=m->ns.Nodup->(∀ x∈ns,isN (.str x)=true)->P (.lst (ns.map .str)) S'):Ev ((Za T W (k+2)).fn "_law_names" [.ref r,.int m] S) P:=by
 refine Zw wt.na rfl ?_;dsimp only[Ua];walk_at "st";refine ZeO (ZO ?_);obtain⟨p0,S0,hp0,hk0,hf0,hl0,h00,h08⟩:∃ (d:Int) (S':Sto),(Za T W (k+1)).fn "_law_pick" [.ref r,.int 8] S=some (.int d,S')/\Pk S' r/\Fr r S S'/\S'.length=S.length/\0<=d/\d<8:=by
  obtain⟨d,S',h1,d',e,h2⟩:=ZN (W:=W) (k:=k) (P:=fun d S'=>∃ d':Int,d=.int d'/\Pk S' r/\Fr r S S'/\S'.length=S.length/\0<=d'/\d'<8) wt h (by decide) (by decide) fun d S' a b c e f=>⟨d,rfl,a,b,c,e,f⟩;subst e;exact⟨d',S',h1,h2⟩
 have hit:evI (Za T W (k+1)) (.rng1 (.call "_law_pick" (.cons (.var 0) (.cons (.int (8)) .nil)))) [some (.ref r),some (.int m),some (.str alpha),none,none,none,none] S=some (.vs ((List.range p0.toNat).map fun (k:Nat)=>D.int (0+(k:Int))),S0):=by
  refine ZbY ?_ (by lia) (by lia);dsimp only[ev];exact hp0
 refine Ym _ _ S0 hit (fun i e2 S2 acc=>Pk S2 r/\Fr r S S2/\S2.length=S.length/\(∃ t,e2=[none,t,some (.ref r),some (.str alpha)])/\∃ cs:List Nat,cs.length=i/\(∀ c∈cs,lowc c)/\acc=(cs.map one).map D.str) ⟨hk0,hf0,hl0,⟨none,rfl⟩,[],rfl,by simp,rfl⟩ (.inl rfl) ?_ ?_
 ·rintro i d e2 S2 acc hd ⟨g1,g2,g3,⟨t,rfl⟩,cs,g4,g5,rfl⟩;obtain⟨hi,rfl⟩:=Zaf hd;refine g_nm (Ys ⟨fun _=>?_,fun z=>nomatch z⟩);walk_at "go";refine ZN wt g1 (by decide) (by decide) fun d S' a1 a2 a3 a4 a5=>?_;refine WX a4 a5 ?_;refine⟨by rw[length_map,length_map];show _<16777216;lia,a1,g2.trans a2,by lia,⟨_,rfl⟩,cs++[97+d.toNat],by simp[g4],?_,by simp⟩
  intro c hc
  rcases List.mem_append.1 hc with hc | hc
  ·exact g5 c hc
  ·have:c=97+d.toNat:=by simpa using hc
   subst this;unfold lowc;lia
 ·rintro e2 S2 acc ⟨g1,g2,g3,⟨t,rfl⟩,cs,g4,g5,rfl⟩;have hcl:cs.length<=7:=by simp at g4;lia
  refine⟨_,cs.map one,rfl,strs_map _,fit7 cs hcl,?_⟩;rw[join7 cs];walk_at "go";refine UW (by show (if (txt cs).length<=line then some (D.int ((txt cs).length:Int)) else none)=_;rw[if_pos (by rw[Yn];show _<=16777216;lia)]) ?_
  walk_at "go";refine ZN wt g1 (by lia) (by rw[Yn];lia) fun at' S3 b1 b2 b3 b4 b5=>?_
  walk_at "go";refine ZN wt b1 (by decide) (by decide) fun fi S4 c1 c2 c3 c4 c5=>?_;walk_at "go";refine ZN wt c1 (by decide) (by decide) fun si S5 d1 d2 d3 d4 d5=>?_;rw[Yn] at b5;obtain⟨st,hst,hmem⟩:∃ st,atI [D.int 1,.int 3,.int 5,.int 7,.int 9,.int 11] si=some (.int st)/\st∈steps:=by
   have:si=0\/si=1\/si=2\/si=3\/si=4\/si=5:=by lia
   rcases this with rfl | rfl | rfl | rfl | rfl | rfl
   ·exact⟨1,rfl,by decide⟩
   ·exact⟨3,rfl,by decide⟩
   ·exact⟨5,rfl,by decide⟩
   ·exact⟨7,rfl,by decide⟩
   ·exact⟨9,rfl,by decide⟩
   ·exact⟨11,rfl,by decide⟩
  refine ZB hst ?_;walk_at "go";obtain⟨an,rfl⟩:∃ n:Nat,at'=n:=⟨at'.toNat,by lia⟩;have han:an<=cs.length:=by lia
  have hst2:1<=st/\st<=11:=by
   simp only[steps,mem_cons,not_mem_nil,or_false] at hmem;lia
  refine Wb (fun d=>match d with | .int q=>.str (nmL cs an ((fi+st * q) % 26).toNat) | _=>.non) (fun e2=>∃ t,e2=[none,t,some (.int (an:Int)),some (.int fi),some (.str alpha),some (.str (txt cs)),some (.int st)]) (ZbY (by dsimp only[ev];rfl) (by lia) (by lia)) (by simp;lia) ⟨none,rfl⟩ ?_ ?_
  ·rintro d hd e2 ⟨t,rfl⟩;refine⟨⟨some d,rfl⟩,?_⟩;obtain⟨q,hq,rfl⟩:=List.mem_map.1 hd;have hq':=List.mem_range.1 hq;rw[show (0:Int)+(q:Int)=q by omega];refine ZR (ZR (J0 (Zc rfl (qc (Y4 (Zc rfl ⟨_,rfl,Jz (Zjc han hcl) ?_⟩))))));walk_at "go";have z0:=emod_nonneg (fi+st * (q:Int)) (show (26:Int)≠0 by decide);have z1:=Int.emod_lt_of_pos (fi+st * (q:Int)) (show (0:Int)<26 by decide);refine WX z0 z1 ?_;refine Zb5 (by rw[Yn,length_take];show _+1<=16777216;lia) ?_
   refine J0 (Zc rfl (Y4 (Zc rfl ⟨_,rfl,qc (Jz (Wn han hcl) ?_)⟩)));have e1:txt (cs.take an)++one (97+((fi+st * (q:Int)) % 26).toNat)=txt (cs.take an++[97+((fi+st * (q:Int)) % 26).toNat]):=Zag _ _;rw[e1];refine Zb5 (by rw[Yn,Yn,length_append,length_take,length_drop];show _+1+_<=16777216;lia) ?_
   refine⟨?_,rfl⟩;rw[Zag,append_assoc];rfl
  ·walk_at "go";have em:(((List.range m.toNat).map fun (k:Nat)=>D.int (0+(k:Int))).map fun d=>match d with | .int q=>D.str (nmL cs an ((fi+st * q) % 26).toNat) | _=>.non)=((List.range m.toNat).map fun q:Nat=>nmL cs an ((fi+st * (q:Int)) % 26).toNat).map D.str:=by
    rw[map_map,map_map];apply List.map_congr_left;intro q _;show D.str (nmL cs an ((fi+st * (0+(q:Int))) % 26).toNat)=_;rw[show (0:Int)+(q:Int)=q by omega];rfl
   rw[em];have lt26:∀ q:Nat,((fi+st * (q:Int)) % 26).toNat<26:=fun q=>by
    have z1:=Int.emod_lt_of_pos (fi+st * (q:Int)) (show (0:Int)<26 by decide);lia
   refine kk _ S5 d1 (g2.trans (b2.trans (c2.trans d2))) (by lia) (by simp;lia) ?_ ?_
   ·unfold List.Nodup;rw[pairwise_map];refine List.Pairwise.imp_of_mem ?_ List.nodup_range;intro q1 q2 h1 h2 hne e;have:=ZgO han e;have z0:=emod_nonneg (fi+st * (q1:Int)) (show (26:Int)≠0 by decide);have z1:=emod_nonneg (fi+st * (q2:Int)) (show (26:Int)≠0 by decide);have h1:=List.mem_range.1 h1;have h2:=List.mem_range.1 h2;exact hne (ZcW (f:=fi) hmem (by lia) (by lia) (by lia))
   ·intro x hx;obtain⟨q,_,rfl⟩:=List.mem_map.1 hx;exact ZgN hcl g5 (lt26 q)
end
section
variable {T:Tab}{W k:Nat}{S:Sto}{P:D->Sto->Prop}{PD:D->Prop}
theorem ZgP(wt:Wt T){q f l o r n:Str}(kk:P (.bl (rowC q f l o r n)) S):Ev ((Za T W (k+1)).fn "_law_may" [.str q,.str f,.tup [.str l,.str o,.str r],.str n] S) P:=by
 refine Zw wt.ma rfl ?_;dsimp only[mayF];walk_at "st";refine Zu (YO ?_);walk_at "go";refine Z6 ?_;walk_at "go";unfold rowC at kk;refine two_of (fun h1=>?_) (fun h1=>?_)
 ·rw[oAi h1,Bool.or_true] at kk;rw[oAi h1];walk_at "go";exact kk
 ·rw[oAh h1,Bool.or_false] at kk;walk_at "go";refine Z6 ?_;walk_at "go";refine two_of (fun h2=>?_) (fun h2=>?_)
  ·rw[oAi h2] at kk;walk_at "go";exact kk
  ·rw[oAh h2] at kk;walk_at "go";refine qh ?_;walk_at "go";refine two_bn (fun h3=>?_) (fun h3=>?_)
   ·rw[oAi h3] at kk;walk_at "go";refine Vi ?_;walk_at "go";cases h4:(decide (q=l)||decide (("":Str)=l)) with
    | true=>
     rw[h4] at kk;walk_at "go";refine Vi ?_;walk_at "go";exact kk
    | false=>
     rw[h4] at kk;walk_at "go";exact kk
   ·rw[oAh h3] at kk ⊢;walk_at "go";exact kk
noncomputable def gR(kv:List Key×D):D:=.tup (kv.1.map unkey++[kv.2])
structure Rw(ns:List Str)(q f:Str)(row:List Str):Prop where
 ex:∃ l o r n:Str,row=[l,o,r,n]/\(l=""\/l∈ns)/\o∈ns/\(r=""\/r∈ns)/\n∈ns/\rowC q f l o r n=true
def Kv(ns:List Str)(q f:Str)(kvs:List (List Key×D)):Prop:=∃ rs:List (List Str),kvs.map gR=rs.map rowD/\kvs.map (·.1)=rs.map (fun row=>(row.take 3).map Key.inr)/\(∀ row∈rs,Rw ns q f row)
theorem Kv.nil{ns:List Str}{q f:Str}:Kv ns q f []:=⟨[],rfl,rfl,fun _ h=>nomatch h⟩
theorem Kv.put{ns:List Str}{q f l o r n:Str}:∀ {kvs:List (List Key×D)},Kv ns q f kvs->Rw ns q f [l,o,r,n]->Kv ns q f (putD kvs [.inr l,.inr o,.inr r] (.str n)):=by
 intro kvs ⟨rs,h1,h2,h3⟩ hr;unfold putD;split
 ·-- in place
  suffices g:∀ (kvs:List (List Key×D)) (rs:List (List Str)),kvs.map gR=rs.map rowD->kvs.map (·.1)=rs.map (fun row=>(row.take 3).map Key.inr)->(∀ row∈rs,Rw ns q f row)->Kv ns q f (kvs.map fun kv=>if kv.1=[.inr l,.inr o,.inr r] then (kv.1,.str n) else kv) from g kvs rs h1 h2 h3
  intro kvs
  induction kvs with
  |nil=>intro rs a b c;exact Kv.nil
  | cons kv kvs ih=>
   intro rs a b c;cases rs with
   |nil=>cases a
   | cons row rs=>
    rw[map_cons,map_cons] at a b;injection a with a1 a2
    injection b with b1 b2
    obtain⟨rs',d1,d2,d3⟩:=ih rs a2 b2 (fun x hx=>c x (oAm _ hx));by_cases hk:kv.1=[.inr l,.inr o,.inr r]
    ·refine⟨[l,o,r,n]::rs',?_,?_,fun x hx=>?_⟩
     ·rw[map_cons,map_cons,map_cons,d1,if_pos hk];show gR (kv.1,.str n)::_=_;rw[hk];rfl
     ·rw[map_cons,map_cons,map_cons,d2,if_pos hk];show kv.1::_=_;rw[hk];rfl
     ·rcases List.mem_cons.1 hx with rfl | hx
      ·exact hr
      ·exact d3 x hx
    ·refine⟨row::rs',?_,?_,fun x hx=>?_⟩
     ·rw[map_cons,map_cons,map_cons,d1,if_neg hk,a1]
     ·rw[map_cons,map_cons,map_cons,d2,if_neg hk,b1]
     ·rcases List.mem_cons.1 hx with rfl | hx
      ·exact c _ (oAn ..)
      ·exact d3 x hx
 ·refine⟨rs++[[l,o,r,n]],by rw[map_append,map_append,h1];rfl,by rw[map_append,map_append,h2];rfl,fun x hx=>?_⟩
  rcases List.mem_append.1 hx with hx | hx
  ·exact h3 x hx
  ·have:x=[l,o,r,n]:=by simpa using hx
   subst this;exact hr
theorem Zb6{κ:Type}[DecidableEq κ]{kvs:List (κ×D)}{kk:κ}{d:D}(h:(kvs.map (·.1)).Nodup):((putD kvs kk d).map (·.1)).Nodup:=by
 unfold putD;split
 ·rw[map_map];have e:((fun kv:κ×D=>kv.1) ∘ fun kv:κ×D=>if kv.1=kk then (kv.1,d) else kv)=fun kv:κ×D=>kv.1:=by
   funext kv
   show (if kv.1=kk then (kv.1,d) else kv).1=kv.1;split<;>rfl
  rw[e];exact h
 ·rename_i hn;rw[map_append,nodup_append];refine⟨h,by simp,fun a ha b hb=>?_⟩;have:b=kk:=by simpa using hb
  subst this;rintro rfl;obtain⟨kv,h1,h2⟩:=List.mem_map.1 ha;exact hn (List.any_eq_true.2 ⟨kv,h1,oAi h2⟩)
theorem Wo{κ:Type}[DecidableEq κ](a:List (κ×D))(kk:κ)(x:D):(putD a kk x).length<=a.length+1:=by
 unfold putD;split<;>simp
theorem ze:∀ rs:List (List Str),(∀ row∈rs,row≠[])->Y9 (rs.map rowD)=some rs
 |[],_=>rfl
 | row::rs,h=>by
  rw[map_cons];show (ZM (row.map D.str)).bind _=_;rw[strs_map];show (if row.isEmpty then none else (Y9 (rs.map rowD)).map (row::·))=_;rw[if_neg (by simpa using h row (oAn ..)),ze rs (fun x hx=>h x (oAm _ hx))];rfl
theorem zG{rs:List (List Str)}(h:∀ row∈rs,row≠[])(hl:rs.length<64):bltL S .sorted [.lst (rs.map rowD)]=some ((Z4 rs).map rowD):=by
 rw[bltL];cases rs with
 |nil=>rfl
 | cons row rs=>
  show (match ZaK ((row::rs).map rowD) with
   |some is=>if is.length<64 then some ((isort is).map D.int) else none
   |none=>(Y9 ((row::rs).map rowD)).bind fun ls=>if ls.length<64 then some ((Z4 ls).map rowD) else none)=_
  rw[show ZaK ((row::rs).map rowD)=none from rfl];show (Y9 ((row::rs).map rowD)).bind _=_;rw[ze _ h];show (if (row::rs).length<64 then _ else _)=_;rw[if_pos hl]
theorem lex3{a b c n a' b' c' n':Str}(h:TS.lexB [a',b',c',n'] [a,b,c,n]=false)(hne:[a,b,c]≠[a',b',c']):TS.lexB [a,b,c] [a',b',c']=true:=by
 have st:∀ {x y:Str},x≠y->TS.sLt y x=false->TS.sLt x y=true:=fun {x y} h1 h2=>by
  cases q:TS.sLt x y with
  |true=>rfl
  |false=>exact absurd (TS.JT q h2) h1
 simp only[TS.lexB] at h ⊢;by_cases h1:a=a'
 ·subst h1;rw[if_pos rfl] at h ⊢;by_cases h2:b=b'
  ·subst h2;rw[if_pos rfl] at h ⊢;by_cases h3:c=c'
   ·subst h3;exact absurd rfl hne
   ·rw[if_neg (Ne.symm h3)] at h;rw[if_neg h3];exact st h3 h
  ·rw[if_neg (Ne.symm h2)] at h;rw[if_neg h2];exact st h2 h
 ·rw[if_neg (Ne.symm h1)] at h;rw[if_neg h1];exact st h1 h
theorem Zah{ns:List Str}{q f:Str}:∀ rs:List (List Str),(∀ row∈rs,Rw ns q f row)->(rs.map (·.take 3)).Nodup->(rs.Pairwise fun a b=>TS.lexB b a=false)->rising (rs.map rowD)=true
 |[],_,_,_=>rfl
 |[_],_,_,_=>rfl
 | x::y::rs,h,hn,hs=>by
  obtain⟨l,o,r,n,rfl,_⟩:=(h x (oAn ..)).ex;obtain⟨l',o',r',n',rfl,_⟩:=(h y (oAm _ (oAn ..))).ex;rw[map_cons] at hn;rw[nodup_cons] at hn;rw[pairwise_cons] at hs;rw[map_cons,map_cons,rising,and_eq_true];refine⟨lex3 (n:=n) (n':=n') (hs.1 _ (oAn ..)) (fun e=>hn.1 ?_),?_⟩
  ·rw[map_cons];exact List.mem_cons.2 (.inl e)
  ·have:=Zah ([l',o',r',n']::rs) (fun z hz=>h z (oAm _ hz)) hn.2 hs.2;rw[map_cons] at this;exact this
noncomputable def tabOf(q s f:Str)(rows:List (List Str)):D:=.tup [.str "table",.str q,.str s,.str f,.tup (rows.map rowD)]
structure Tb(q s f:Str)(rows:List (List Str)):Prop where
 tab:Yg (tabOf q s f rows)=true
 few:rows.length<=63
 nam:∃ ns:List Str,ns.length<=10/\q∈ns/\s∈ns/\f∈ns/\∀ row∈rows,∀ x∈row,x=""\/x∈ns
theorem ZcY{ns:List Str}{q f:Str}(hN:∀ x∈ns,isN (.str x)=true){row:List Str}(h:Rw ns q f row):ZL q f (rowD row)=true:=by
 obtain⟨l,o,r,n,rfl,h1,h2,h3,h4,h5⟩:=h.ex;have nb:∀ x:Str,x=""\/x∈ns->isNb (.str x)=true:=fun x hx=>by
  show (decide (x="")||isN (.str x))=true
  rcases hx with rfl | hx
  ·rfl
  ·rw[hN x hx,Bool.or_true]
 show (isNb (.str l)&&(isN (.str o)&&(isNb (.str r)&&(isN (.str n)&&rowC q f l o r n))))=true;rw[nb l h1,nb r h3,hN o h2,hN n h4,h5];rfl
theorem Zjd{ns:List Str}{q s f:Str}{rs:List (List Str)}(hN:∀ x∈ns,isN (.str x)=true)(hl:ns.length<=10)(hq:q∈ns)(hs:s∈ns)(hf:f∈ns)(h1:q≠s)(h2:q≠f)(h3:s≠f)(hr:∀ row∈rs,Rw ns q f row)(hn:(rs.map (·.take 3)).Nodup)(hlen:rs.length<=63):Tb q s f (Z4 rs):=by
 have pm:=Uq rs;have hr':∀ row∈Z4 rs,Rw ns q f row:=fun row h=>hr row (pm.mem_iff.1 h);refine⟨?_,by rw[pm.length_eq];exact hlen,ns,hl,hq,hs,hf,fun row h x hx=>?_⟩
 ·show (isN (.str q)&&(isN (.str s)&&(isN (.str f)&&(decide (("table":Str)="table")&&(tabC q s f&&(((Z4 rs).map rowD).all (ZL q f)&&rising ((Z4 rs).map rowD)))))))=true;rw[hN q hq,hN s hs,hN f hf,Zah _ hr' ((pm.map _).nodup_iff.2 hn) (Js rs)];have ea:((Z4 rs).map rowD).all (ZL q f)=true:=by
   rw[all_eq_true];intro d hd;obtain⟨row,hrow,rfl⟩:=List.mem_map.1 hd;exact ZcY hN (hr' row hrow)
  rw[ea];unfold tabC;rw[oAh h1,oAh h2,oAh h3,oAi rfl];rfl
 ·obtain⟨l,o,r,n,rfl,g1,g2,g3,g4,_⟩:=(hr' row h).ex;simp only[mem_cons,not_mem_nil,or_false] at hx
  rcases hx with rfl | rfl | rfl | rfl
  ·exact g1
  ·exact .inr g2
  ·exact g3
  ·exact .inr g4
theorem qi{ns:List Str}{d:Int}(h0:0<=d)(h1:d<((ns.map D.str).length:Int)):∃ x∈ns,atI (ns.map D.str) d=some (.str x):=by
 obtain⟨n,rfl⟩:∃ n:Nat,d=n:=⟨d.toNat,by lia⟩;have hn:n<ns.length:=by rw[length_map] at h1;lia
 exact⟨ns[n],getElem_mem hn,Yv (by rw[getElem?_map,oAt hn];rfl)⟩
theorem ZgQ(wt:Wt T){r:Nat}{more most:Int}(h:Pk S r)(hm0:0<=more)(hm1:more<=7)(hx0:0<=most)(hx1:most<=63)
  (kk:∀ (q s f:Str) (rows:List (List Str)) (S':Sto),Tb q s f rows->Pk S' r->Fr r S S'->P (tabOf q s f rows) S'):Ev ((Za T W (k+3)).fn "_law_table" [.ref r,.int more,.int most] S) P:=by
 have hr:r<S.length:=by obtain⟨a,b,n,h1,_⟩:=h;exact(List.getElem?_eq_some_iff.1 h1).1
 refine Zw wt.ta rfl ?_;dsimp only[tblF];walk_at "st";refine ZN wt h (by lia) (by lia) fun mo S1 a1 a2 a3 a4 a5=>?_;walk_at "go";refine ZcX wt a1 (by lia) (by lia) fun ns S2 b1 b2 b3 b4 b5 b6=>?_;have hns:3<=ns.length/\ns.length<=10:=by lia
 obtain⟨q,s,f,rest,rfl⟩:∃ q s f rest,ns=q::s::f::rest:=by
  match ns,hns with
  |q::s::f::rest,_=>exact⟨q,s,f,rest,rfl⟩
  |[],h=>simp at h
  |[_],h=>simp at h
  |[_,_],h=>simp at h
 generalize hnn:(q::s::f::rest)=ns at *;have hq:q∈ns:=by rw[<- hnn];simp
 have hs:s∈ns:=by rw[<- hnn];simp
 have hf:f∈ns:=by rw[<- hnn];simp
 have n0:atI (ns.map D.str) 0=some (.str q):=by rw[<- hnn];exact Yv rfl
 have n1:atI (ns.map D.str) 1=some (.str s):=by rw[<- hnn];exact Yv rfl
 have n2:atI (ns.map D.str) 2=some (.str f):=by rw[<- hnn];exact Yv rfl
 have hd:q≠s/\q≠f/\s≠f:=by
  rw[<- hnn] at b5;simp only[nodup_cons,mem_cons,not_or] at b5;exact⟨b5.1.1,b5.1.2.1,b5.2.1.1⟩
 refine g_nm (Zj (Ze (ZF (ZR (Zc rfl (ZO (Jy (Zb (Yj (Zf ⟨by decide,?_⟩))))))))));have eb:binop S2 .Add (.lst (ns.map D.str)) (.lst [.str ""])=some (.lst ((ns++[("":Str)]).map D.str)):=by
  show ((if (ns.map D.str).length+1<=line then some (ns.map D.str++[D.str ""]) else none).map D.lst)=_;rw[if_pos (by rw[length_map];show _<=16777216;lia),map_append];rfl
 refine Op.mk eb ?_;refine g_nm (Zj (Ze (ZF (ZeL (g_nm (Zj (Ze (UX ?_))))))));walk_at "go";have hlS:r<S2.length:=by lia
 refine ZN wt (b1.gr Gr.one) (by lia) (by lia) fun mm S3 c1 c2 c3 c4 c5=>?_;have hS3:S3[S2.length]?=some (.dt []):=(c2.get (by lia) Yy);have hl3:S3.length=S2.length+1:=by rw[c3];simp
 have hfr:Fr r S S3:=⟨by lia,fun m hm hne=>by rw[c2.2 m (by rw[length_append];lia) hne,getElem?_append_left (by lia),b2.2 m (by lia) hne,a2.2 m hm hne]⟩
 refine⟨mm,fun i e2 Sx=>i<=mm.toNat/\Pk Sx r/\Fr r S Sx/\Sx.length=S2.length+1/\(∃ kvs,Sx[S2.length]?=some (.dt kvs)/\Kv ns q f kvs/\(kvs.map (·.1)).Nodup/\kvs.length<=i)/\∃ t1 t2 t3,e2=[some (.ref r),some (.int more),some (.int most),some (.lst (ns.map D.str)),some (.lst ((ns++[("":Str)]).map D.str)),some (.ref S2.length),t1,t2,t3,none],rfl,by lia,by lia,⟨by lia,c1,hfr,hl3,⟨[],hS3,Kv.nil,by simp,by simp⟩,none,none,none,rfl⟩,?_,?_⟩
 ·rintro i e2 Sx hi ⟨d1,d2,d3,d4,⟨kvs,d5,d6,d7,d8⟩,t1,t2,t3,rfl⟩;have hlen1:(0:Int)<(((ns++[("":Str)]).map D.str).length:Int):=by rw[length_map,length_append];show (0:Int)<((ns.length+1:Nat):Int);lia
  have hlen2:(0:Int)<((ns.map D.str).length:Int):=by rw[length_map];lia
  have hle1:(((ns++[("":Str)]).map D.str).length:Int)<=1000:=by simp;lia
  have hle2:((ns.map D.str).length:Int)<=1000:=by rw[length_map];lia
  walk_at "go";refine ZN wt d2 hlen1 hle1 fun p1 Sa e1 e2 e3 e4 e5=>?_;obtain⟨l,hl,al⟩:=qi e4 e5;refine ZB al ?_;walk_at "go";refine ZN wt e1 hlen2 hle2 fun p2 Sb f1 f2 f3 f4 f5=>?_;obtain⟨o,ho,ao⟩:=qi f4 f5;refine ZB ao ?_;walk_at "go";refine ZN wt f1 hlen1 hle1 fun p3 Sc g1 g2 g3 g4 g5=>?_;obtain⟨rr,hrr,ar⟩:=qi g4 g5;refine ZB ar ?_;walk_at "go";refine ZbX (by show 2+1<=16777216;decide) ?_
  walk_at "go";refine ZN wt g1 hlen2 hle2 fun p4 Sd i1 i2 i3 i4 i5=>?_;obtain⟨n,hn,an⟩:=qi i4 i5;refine ZB an ?_;refine g_nm (Zj (Ze (Zu (Zn (Zb (Zm (Zc rfl (Zg (ZB n0 ?_)))))))));refine Zb (Zm (Zc rfl (Zg (ZB n2 ?_))));walk_at "go";refine ZgP wt ?_;have hsd:Sd[S2.length]?=some (.dt kvs):=i2.get (by lia) (g2.get (by lia) (f2.get (by lia) (e2.get (by lia) d5)));have hld:Sd.length=S2.length+1:=by lia
  have hfd:Fr r S Sd:=d3.trans (e2.trans (f2.trans (g2.trans i2)));refine t_bl ?_;cases hc:rowC q f l o rr n with
  | false=>
   walk_at "go";exact⟨by lia,i1,hfd,hld,⟨kvs,hsd,d6,d7,by lia⟩,_,_,_,rfl⟩
  | true=>
   refine two_t ?_;refine Ze (ZF (Zc rfl (Zi6 (Zc rfl (Zc rfl ⟨_,[.str l,.str o,.str rr],kvs,[.inr l,.inr o,.inr rr],rfl,rfl,hsd,⟨rfl,by show _<16777216;lia⟩,rfl,?_⟩)))))
   walk_at "go";have side:∀ x,x∈ns++[("":Str)]->x=""\/x∈ns:=fun x hx=>by
    rcases List.mem_append.1 hx with hx | hx
    ·exact .inr hx
    ·exact .inl (by simpa using hx)
   refine⟨by lia,?_,?_,by rw[length_set];exact hld,⟨_,getElem?_set_self (by lia),d6.put ⟨l,o,rr,n,rfl,side l hl,ho,side rr hrr,hn,hc⟩,Zb6 d7,by have:=Wo kvs [Key.inr l,.inr o,.inr rr] (.str n);lia⟩,_,_,_,rfl⟩
   ·obtain⟨a,b,c,h1,h2⟩:=i1;exact⟨a,b,c,by rw[getElem?_set_ne (by lia)];exact h1,h2⟩
   ·refine⟨by rw[length_set];exact hfd.1,fun m hm hne=>?_⟩
    rw[getElem?_set_ne (by lia)];exact hfd.2 m hm hne
 ·rintro e2 Sx ⟨d1,d2,d3,d4,⟨kvs,d5,⟨rs,k1,k2,k3⟩,d7,d8⟩,t1,t2,t3,rfl⟩;have hkl:kvs.length=rs.length:=by have:=congrArg List.length k1;simpa using this
  refine Zj (Ze (ZF (Y5 (Zb (ZO (V9 (Zb (ZO ?_))))))));refine ZcQ gR (fun e=>∃ t,e=[none,t,some (.ref S2.length)]) rfl d5 (by lia) ⟨none,rfl⟩ ?_ ?_
  ·rintro kv hkv e ⟨t,rfl⟩;refine⟨⟨_,rfl⟩,?_⟩;have h3:(kv.1.map unkey).length=3/\ZW (kv.1.map unkey)=some kv.1:=by
    have hm:kv.1∈kvs.map (·.1):=List.mem_map.2 ⟨kv,hkv,rfl⟩;rw[k2] at hm;obtain⟨row,hrow,e⟩:=List.mem_map.1 hm;obtain⟨l,o,r',n,rfl,_⟩:=(k3 row hrow).ex;rw[<- e];exact⟨rfl,rfl⟩
   have hv:valD kvs kv.1=some kv.2:=by
    clear k1 k2 d8 d5 hkl
    induction kvs with
    |nil=>cases hkv
    | cons x xs ih=>
     unfold valD;rw[find?_cons];rw[map_cons,nodup_cons] at d7
     rcases List.mem_cons.1 hkv with rfl | hkv
     ·simp
     ·have hne:x.1≠kv.1:=fun e=>d7.1 (by rw[e];exact List.mem_map.2 ⟨kv,hkv,rfl⟩)
      rw[oAh hne];exact ih d7.2 hkv
   refine ZR (Zc rfl (ZP (Zb (ZeP (Zc rfl (Zc rfl ⟨_,kvs,kv.1,kv.2,rfl,h3.1,?_,h3.2,hv,Zf ⟨by show 1<=16777216;decide,?_⟩⟩))))))
   ·show (match (Sx.set S2.length (.dtf kvs))[S2.length]? with
     |some (.dt kvs)=>some kvs
     |some (.dtf kvs)=>some kvs
     |_=>none)=_
    rw[getElem?_set_self (by lia)]
   ·refine ZbX (by rw[h3.1];show 3+1<=16777216;decide) ?_
    exact⟨rfl,rfl⟩
  ·refine Zf ?_;rw[k1];have hne:∀ row∈rs,row≠[]:=fun row hrow=>by
    obtain⟨l,o,r',n,rfl,_⟩:=(k3 row hrow).ex;exact fun z=>nomatch z
   refine⟨_,zG hne (by lia),?_⟩;refine Zf ?_;refine UW (d:=.tup ((Z4 rs).map rowD)) rfl ?_;refine g_nm (Zj (Ze (Zy (ZP (Zb (Yj (Zb (Zm (Zc rfl (Zg (ZB n0 ?_)))))))))));refine Zb (Zm (Zc rfl (Zg (ZB n1 ?_))));refine Zb (Zm (Zc rfl (Zg (ZB n2 ?_))));refine Zb (Zc rfl (Zf ⟨by show 5<=16777216;decide,?_⟩))
   walk_at "go";have hnd:(rs.map (·.take 3)).Nodup:=by
    rw[k2] at d7;have e:(rs.map fun row=>(row.take 3).map Key.inr)=(rs.map (·.take 3)).map (·.map Key.inr):=by rw[map_map];rfl
    rw[e] at d7;unfold List.Nodup at d7 ⊢;rw[pairwise_map] at d7;exact List.Pairwise.imp (fun h e=>h (by rw[e])) d7
   exact kk q s f (Z4 rs) Sx (Zjd b6 hns.2 hq hs hf hd.1 hd.2.1 hd.2.2 k3 hnd (by lia)) d2 d3
end
noncomputable def YD:FI:=⟨1,3,(.cons (.asg (.name 1) (.lr (.blt .list (.cons (.slc (.var 0) (.yes (.int (1))) (.yes (.int (4)))) .nil))))
  (.cons (.fr (.name 2) (.seq (.sub (.var 0) (.int (4)))) (.cons (.ex (.mth (.var 1) .extend (.cons (.lv (.comp 2 [] (.name 1) (.seq (.var 2)) (.cons (.cmp .NotEq (.var 1) (.gl "NOBODY")) .nil) (.var 1))) .nil)))
  .nil))
  (.cons (.ret (.blt .tuple (.cons (.lv (.sset (.var 1))) .nil)))
  .nil)))⟩
noncomputable def Uv:FI:=⟨2,2,(.cons (.fas (.var 0) "calm" (.sub (.var 1) (.int (1))))
  (.cons (.fas (.var 0) "opening" (.sub (.var 1) (.int (2))))
  (.cons (.fas (.var 0) "firing" (.sub (.var 1) (.int (3))))
  (.cons (.fas (.var 0) "states" (.call "names_in" (.cons (.var 1) .nil)))
  (.cons (.fas (.var 0) "news" (.dcomp 5 [] (.tup (.cons (.name 1) (.cons (.name 2) (.cons (.name 3) (.cons (.name 4) .nil))))) (.seq (.sub (.var 1) (.int (4)))) (.cons (.or (.var 1) .non) (.cons (.var 2) (.cons (.or (.var 3) .non) .nil))) (.var 4)))
  .nil)))))⟩
noncomputable def Ub:FI:=⟨1,1,(.cons (.ret (.fld (.var 0) "calm"))
  .nil)⟩
noncomputable def Uc:FI:=⟨1,1,(.cons (.ret (.fld (.var 0) "opening"))
  .nil)⟩
noncomputable def Ud:FI:=⟨2,2,(.cons (.ret (.cmp .Eq (.var 1) (.fld (.var 0) "firing")))
  .nil)⟩
noncomputable def Je:FI:=⟨4,4,(.cons (.ret (.dget (.fld (.var 0) "news") (.cons (.var 1) (.cons (.var 2) (.cons (.var 3) .nil))) (.var 2)))
  .nil)⟩
noncomputable def Vn:FI:=⟨2,2,(.cons (.ex (.call "need_machine" (.cons (.var 1) .nil)))
  (.cons (.fas (.var 0) "inner" (.call "works_of" (.cons (.var 1) .nil)))
  .nil))⟩
noncomputable def Ue:FI:=⟨1,1,(.cons (.ret (.mcl (.fld (.var 0) "inner") "quiet" .nil))
  .nil)⟩
noncomputable def Uf:FI:=⟨1,1,(.cons (.ret (.mcl (.fld (.var 0) "inner") "start" .nil))
  .nil)⟩
noncomputable def Ug:FI:=⟨2,2,(.cons (.ret (.mcl (.fld (.var 0) "inner") "fires" (.cons (.var 1) .nil)))
  .nil)⟩
noncomputable def Jf:FI:=⟨4,4,(.cons (.ret (.mcl (.fld (.var 0) "inner") "behind" (.cons (.var 1) (.cons (.var 2) (.cons (.var 3) .nil)))))
  .nil)⟩
structure Wi(T:Tab):Prop where
 zt:Zt T
 ni:T.lookup ("names_in":Str)=some YD
 t0:T.mts.lookup (Zh "TableWorks" "__init__")=some Uv
 f1:T.fds.contains ("TableWorks","calm")=true
 f2:T.fds.contains ("TableWorks","opening")=true
 f3:T.fds.contains ("TableWorks","firing")=true
 f4:T.fds.contains ("TableWorks","states")=true
 f5:T.fds.contains ("TableWorks","news")=true
theorem Yp(h:T.fds.contains (C,x)=true):(Za T W k).fd C x=true:=by cases k<;>exact h
theorem WY{l:List Str}:∀ {m:List Str},l.Nodup->(∀ x∈l,x∈m)->l.length<=m.length:=by
 induction l with
 |nil=>intro m _ _;exact zero_le _
 | cons x l ih=>
  intro m hn hs;rw[nodup_cons] at hn;have hx:=hs x (oAn ..);have:=ih (m:=m.erase x) hn.2 (fun y hy=>(List.mem_erase_of_ne (fun e=>hn.1 (by rw[<- e];exact hy))).mpr (hs y (oAm _ hy)))
  rw[List.length_erase_of_mem hx] at this;have hp:0<m.length:=List.length_pos_of_mem hx;rw[length_cons];lia
theorem Zdq:∀ (l acc:List Str),acc.Nodup->(l.foldl SX.dd1 acc).Nodup/\∀ x,x∈l.foldl SX.dd1 acc↔x∈acc\/x∈l
 |[],acc,h=>⟨h,fun x=>by simp⟩
 | y::l,acc,h=>by
  rw[foldl_cons];have hn:(SX.dd1 acc y).Nodup:=by
   unfold SX.dd1;split
   ·exact h
   ·rename_i hy;rw[nodup_append];refine⟨h,by simp,fun a ha b hb=>?_⟩;have:b=y:=by simpa using hb
    subst this;rintro rfl;exact hy ha
  obtain⟨h1,h2⟩:=Zdq l _ hn;refine⟨h1,fun x=>?_⟩;rw[h2];have e:x∈SX.dd1 acc y↔x∈acc\/x=y:=by
   unfold SX.dd1;split
   ·rename_i hy;constructor
    ·exact fun h=>.inl h
    ·rintro (h | rfl)
     ·exact h
     ·exact hy
   ·simp
  rw[e,mem_cons];constructor
  ·rintro ((h | h) | h)
   ·exact .inl h
   ·exact .inr (.inl h)
   ·exact .inr (.inr h)
  ·rintro (h | h | h)
   ·exact .inl (.inl h)
   ·exact .inl (.inr h)
   ·exact .inr h
noncomputable def outs(row:List Str):List Str:=row.filter fun x=>!decide (x="")
section
variable {T:Tab}{W k:Nat}{S:Sto}{P:D->Sto->Prop}{PD:D->Prop}
theorem ZcZ(h:S[r]?=some (.lst ds))(hz:ds.length+es.length<=line)(k:P .non (S.set r (.lst (ds++es)))):Ev (mthD S .extend (.ref r) [.lst es]) P:=by
 refine⟨_,_,?_,k⟩;show ((items S (.ref r)).bind fun ds=>(items S (.lst es)).bind fun es'=>if ds.length+es'.length<=line/\D.lst es≠.ref r then some (D.non,S.set r (.lst (ds++es'))) else none)=_;have e:items S (.ref r)=some ds:=by rw[items,h]
 rw[e];show (if ds.length+es.length<=line/\D.lst es≠.ref r then _ else _)=_;rw[if_pos ⟨hz,fun z=>nomatch z⟩]
theorem ZeW{c:Cl}{env:En}{own:Nat}{caps:List Nat}{it:Itx}{cond:Ex}{row:List Str}{R:List D->Sto->Prop}(g:Str->Bool)(E:En->Prop)(hi:evI c it env S=some (.vs (row.map D.str),S))(hl:row.length<=1000000)(h0:E (ZG own caps env))
  (hv:∀ e2 x,E e2->E (e2.set 1 (some (.str x)))/\(e2.set 1 (some (.str x)))[1]?=some (some (D.str x)))
  (hs:∀ x∈row,∀ e2,E e2->Ev (ev c cond (e2.set 1 (some (.str x))) S) fun d S3=>d=.bl (g x)/\S3=S)(k:R ((row.filter g).map D.str) S):Es (evL c (.comp own caps (.name 1) it (.cons cond .nil) (.var 1)) env S) R:=by
 refine Ym (.vs (row.map D.str)) (row.map D.str) S hi (fun i e2 S2 acc=>E e2/\S2=S/\acc=((row.take i).filter g).map D.str) ⟨h0,rfl,rfl⟩ (.inl rfl) ?_ ?_
 ·rintro i d e2 S2 acc hd ⟨h1,rfl,rfl⟩;rw[getElem?_map] at hd;obtain⟨x,hx,rfl⟩:=zoM hd;have hlt:=(List.getElem?_eq_some_iff.1 hx).1;refine g_nm (Vb ?_);refine Ev.mono (hs x (mem_of_getElem? hx) e2 h1) ?_;rintro d S3 ⟨rfl,rfl⟩;refine t_bl ⟨fun hg=>Ys ⟨fun _=>?_,fun z=>nomatch z⟩,fun hg=>⟨fun z=>(by cases z),fun _=>?_⟩⟩
  ·refine Zc (hv e2 x h1).2 ⟨?_,(hv e2 x h1).1,rfl,?_⟩
   ·rw[length_map];have:=List.length_filter_le g (row.take i);rw[length_take] at this;show _<16777216;lia
   ·rw[take_succ,hx,List.filter_append,map_append];show _++[D.str x]=_++(List.filter g [x]).map D.str;rw[List.filter_cons_of_pos hg];rfl
  ·refine⟨(hv e2 x h1).1,rfl,?_⟩;rw[take_succ,hx,List.filter_append,map_append];show _=_++(List.filter g [x]).map D.str;rw[List.filter_cons_of_neg (by simp[hg])];simp
 ·rintro e2 S2 acc ⟨_,rfl,rfl⟩;rw[length_map,take_length];exact k
theorem Zdr:Z2 S (.tup [a,b,c,d,e]) (some 1) (some 4)=some (.tup [b,c,d]):=rfl
theorem ZaS(ww:Wi T){q s f:Str}{rows:List (List Str)}(tb:Tb q s f rows)(kk:∀ (sts:List Str) (o:Ob),(∀ x,x∈sts↔x∈q::s::f::rows.flatMap outs)->P (.tup (sts.map .str)) (S++[o])):Ev ((Za T W (k+1)).fn "names_in" [tabOf q s f rows] S) P:=by
 obtain⟨ns,n1,n2,n3,n4,n5⟩:=tb.nam;have hqs:q≠s:=by
  have h:=tb.tab;have h:(isN (.str q)&&(isN (.str s)&&(isN (.str f)&&(decide (("table":Str)="table")&&(tabC q s f&&Y6 q f (.tup (rows.map rowD)))))))=true:=h;simp only[and_eq_true] at h;have:=h.2.2.2.2.1;unfold tabC at this;intro e;rw[oAi e] at this;cases this
 have h4:∀ row∈rows,row.length=4:=fun row hr=>by
  have h:=tb.tab;have h:(isN (.str q)&&(isN (.str s)&&(isN (.str f)&&(decide (("table":Str)="table")&&(tabC q s f&&((rows.map rowD).all (ZL q f)&&rising (rows.map rowD)))))))=true:=h;simp only[and_eq_true] at h;have h:=List.all_eq_true.1 h.2.2.2.2.2.1 (rowD row) (List.mem_map.2 ⟨row,hr,rfl⟩);obtain⟨l,o,r,n,e⟩:=VO h;have e:=D.tup.inj e;have:=congrArg List.length e;simpa using this
 have ho:∀ row∈rows,(outs row).length<=4:=fun row hr=>by
  have:=List.length_filter_le (fun x:Str=>!decide (x="")) row;unfold outs;have:=h4 row hr;lia
 have hfl:∀ l:List (List Str),(∀ row∈l,(outs row).length<=4)->(l.flatMap outs).length<=4 * l.length:=fun l=>by
  induction l with
  |nil=>intro _;simp
  | cons x l ih=>
   intro h;rw[List.flatMap_cons,length_append,length_cons];have:=ih (fun y hy=>h y (oAm _ hy));have:=h x (oAn ..);lia
 refine Zw ww.ni rfl ?_;dsimp only[YD,tabOf];refine Ze (ZF (Zdk (V9 (Zb (J0 (Zc rfl (Y4 (Zg ⟨_,rfl,Y4 (Zg ⟨_,rfl,Jz Zdr ?_⟩)⟩))))))));refine Zf ⟨[.str q,.str s,.str f],rfl,?_⟩;refine g_nm (Zj (Ze (ZaM (Zm (Zc rfl (Zg (Zp (d:=.tup (rows.map rowD)) rfl ?_)))))));refine⟨rows.map rowD,fun i e2 S2=>(∃ t,e2=[some (.tup [.str "table",.str q,.str s,.str f,.tup (rows.map rowD)]),some (.ref S.length),t])/\S2=S++[.lst ((q::s::f::(rows.take i).flatMap outs).map D.str)],rfl,⟨⟨none,rfl⟩,rfl⟩,?_,?_⟩
 ·rintro i d e2 S2 hd ⟨⟨t,rfl⟩,rfl⟩;rw[getElem?_map] at hd;obtain⟨row,hx,rfl⟩:=zoM hd;have hlt:=(List.getElem?_eq_some_iff.1 hx).1;have hrow:=mem_of_getElem? hx;refine g_nm (Ze (o_ex (ZgC (Zc rfl ⟨ZcP Yy,Zb (ZO ?_)⟩))));refine ZeW (row:=row) (fun x=>!decide (x="")) (fun e=>∃ t,e=[none,t]) (by dsimp only[evI];rfl) (by have:=h4 row hrow;lia) ⟨none,rfl⟩ (by rintro e x ⟨t,rfl⟩;exact⟨⟨_,rfl⟩,rfl⟩) ?_ ?_
  ·rintro x hx e ⟨t,rfl⟩;refine ZA (Zc rfl (Va (glo ww.zt.no) (qh ?_)));exact⟨rfl,rfl⟩
  ·have hb:=hfl (rows.take i) (fun r hr=>ho r (List.mem_of_mem_take hr));rw[length_take] at hb;have hf2:=tb.few;refine Zf (ZcZ Yy (by
    have:=ho row hrow;simp only[length_map,length_cons];show _+(outs row).length<=16777216;lia) ?_)
   rw[Vd];walk_at "go";refine⟨⟨_,rfl⟩,?_⟩;rw[<- map_append,take_succ,hx,List.flatMap_append];simp[outs]
 ·rintro e2 S2 ⟨⟨t,rfl⟩,rfl⟩;rw[length_map,take_length];generalize hlst:q::s::f::rows.flatMap outs=l;have hmem:∀ x∈l,x∈ns:=fun x hx=>by
   rw[<- hlst] at hx;simp only[mem_cons] at hx
   rcases hx with rfl | rfl | rfl | hx
   ·exact n2
   ·exact n3
   ·exact n4
   ·obtain⟨row,h1,h2⟩:=List.mem_flatMap.1 hx;have h2:=List.mem_filter.1 h2
    rcases n5 row h1 x h2.1 with rfl | h
    ·simp at h2
    ·exact h
  obtain⟨d1,d2⟩:=Zdq l [] nodup_nil;refine Zj (Ze (Zy (Y5 (Zb (ZO (ZeQ (Zc rfl ⟨l.map D.str,l,?_,strs_map l,⟨?_,?_,?_⟩,?_⟩)))))))
  ·rw[lsOf,items,Yy]
  ·have h2:([q,s]:List Str).length<=(SX.ddS l).length:=WY (by simp[hqs]) (fun x hx=>(d2 x).mpr (.inr (by rw[<- hlst];simp only[mem_cons,not_mem_nil,or_false] at hx ⊢;rcases hx with rfl | rfl<;>simp)))
   exact h2
  ·have h2:(SX.ddS l).length<=ns.length:=WY d1 (fun x hx=>hmem x (by rcases (d2 x).mp hx with h | h;(exact nomatch h);exact h))
   lia
  ·have hb:=hfl rows ho;have:=tb.few;rw[<- hlst];simp only[length_cons];lia
  ·refine Zf (UW (d:=.tup ((YK (SX.ddS l)).map D.str)) rfl ?_);walk_at "go";refine kk _ _ fun x=>?_;rw[(Jc _).mem_iff,show (x∈SX.ddS l↔x∈[]\/x∈l) from d2 x,hlst];exact⟨fun h=>h.resolve_left (fun z=>nomatch z),.inr⟩
noncomputable def kO(x:Str):Key:=if x="" then .non else .inr x
noncomputable def kvR:List Str->List Key×D
 |[l,o,r,n]=>([kO l,.inr o,kO r],.str n)
 |_=>([],.non)
noncomputable def kvD:D->List Key×D
 |.tup [.str l,.str o,.str r,.str n]=>([kO l,.inr o,kO r],.str n)
 |_=>([],.non)
theorem Wf(h:kO x=kO y):x=y:=by
 unfold kO at h;by_cases h1:x=""
 ·rw[if_pos h1] at h;by_cases h2:y=""
  ·rw[h1,h2]
  ·rw[if_neg h2] at h;cases h
 ·rw[if_neg h1] at h;by_cases h2:y=""
  ·rw[if_pos h2] at h;cases h
  ·rw[if_neg h2] at h;exact Key.inr.inj h
theorem zf{κ:Type}[DecidableEq κ]:∀ (l acc:List (κ×D)),((acc++l).map (·.1)).Nodup->l.foldl (fun a kv=>putD a kv.1 kv.2) acc=acc++l
 |[],acc,_=>by simp
 | x::l,acc,h=>by
  have e:putD acc x.1 x.2=acc++[x]:=by
   unfold putD;rw[if_neg];intro hc;obtain⟨kv,h1,h2⟩:=List.any_eq_true.1 hc;rw[map_append,nodup_append] at h;exact h.2.2 kv.1 (List.mem_map.2 ⟨kv,h1,rfl⟩) x.1 (List.mem_map.2 ⟨x,oAn ..,rfl⟩) (oAj h2)
  rw[foldl_cons,e,zf l (acc++[x]) (by rw[append_assoc];exact h),append_assoc];rfl
theorem Y7(h:Yg (tabOf q s f rows)=true):(q≠s/\q≠f/\s≠f)/\isN (.str q)=true/\isN (.str s)=true/\isN (.str f)=true/\(∀ row∈rows,∃ l o r n:Str,row=[l,o,r,n]/\isNb (.str l)=true/\isN (.str o)=true/\isNb (.str r)=true/\isN (.str n)=true/\rowC q f l o r n=true)/\rising (rows.map rowD)=true:=by
 have h:(isN (.str q)&&(isN (.str s)&&(isN (.str f)&&(decide (("table":Str)="table")&&(tabC q s f&&((rows.map rowD).all (ZL q f)&&rising (rows.map rowD)))))))=true:=h;simp only[and_eq_true] at h;obtain⟨h1,h2,h3,_,h4,h5,h6⟩:=h;unfold tabC at h4;simp only[not_eq_true',Bool.or_eq_false_iff,decide_eq_false_iff_not] at h4;refine⟨h4,h1,h2,h3,fun row hr=>?_,h6⟩;have h:=List.all_eq_true.1 h5 (rowD row) (List.mem_map.2 ⟨row,hr,rfl⟩);obtain⟨l,o,r,n,e⟩:=VO h;rw[e] at h;have e2:row.map D.str=[l,o,r,n].map D.str:=D.tup.inj e;have e3:row=[l,o,r,n]:=by
  have:=congrArg ZM e2;rw[strs_map,strs_map] at this;exact oAk this
 have h:(isNb (.str l)&&(isN (.str o)&&(isNb (.str r)&&(isN (.str n)&&rowC q f l o r n))))=true:=h;simp only[and_eq_true] at h;exact⟨l,o,r,n,e3,h⟩
theorem ZgR:∀ {a b:List Str},TS.lexB a b=true->a≠b:=fun h e=>by subst e;rw[TS.U6] at h;cases h
theorem Zai:∀ (x:D) (r:List D),rising (x::r)=true->∀ y∈r,TS.lexB (key3 x) (key3 y)=true
 |x,[],_,y,hy=>nomatch hy
 | x,z::r,h,y,hy=>by
  rw[rising,and_eq_true] at h
  rcases List.mem_cons.1 hy with rfl | hy
  ·exact h.1
  ·exact TS.JU h.1 (Zai z r h.2 y hy)
theorem Zaj:∀ rs:List D,rising rs=true->(rs.map key3).Nodup
 |[],_=>nodup_nil
 | x::r,h=>by
  rw[map_cons,nodup_cons];refine⟨fun hm=>?_,Zaj r ?_⟩
  ·obtain⟨y,h1,h2⟩:=List.mem_map.1 hm;exact ZgR (Zai x r h y h1) h2.symm
  ·cases r with
   |nil=>rfl
   |cons y r=>rw[rising,and_eq_true] at h;exact h.2
theorem ZeX(h:Yg (tabOf q s f rows)=true):((rows.map kvR).map (·.1)).Nodup:=by
 obtain⟨_,_,_,_,hr,hri⟩:=Y7 h;have hn:=Zaj _ hri;unfold List.Nodup at hn ⊢;rw[map_map,pairwise_map] at hn;rw[map_map,pairwise_map];refine List.Pairwise.imp_of_mem ?_ hn;intro a b ha hb hne e;obtain⟨l,o,r,n,rfl,_⟩:=hr a ha;obtain⟨l',o',r',n',rfl,_⟩:=hr b hb;apply hne;have e:[kO l,Key.inr o,kO r]=[kO l',Key.inr o',kO r']:=e;injection e with e1 e
 injection e with e2 e
 injection e with e3 _
 show [l,o,r]=[l',o',r'];rw[Wf e1,Wf e3,Key.inr.inj e2]
theorem ZgS(h:Yg (tabOf q s f rows)=true)(hl:rows.length<=63):wd S (tabOf q s f rows)=true:=by
 obtain⟨_,h1,h2,h3,hr,_⟩:=Y7 h;have sh:∀ x:Str,isN (.str x)=true->wd S (.str x)=true:=fun x hx=>by
  have hx:(decide (1<=x.length)&&decide (x.length<=8)&&x.cps.toList.all fun c=>decide (97<=c)&&decide (c<=122))=true:=hx;simp only[and_eq_true,decide_eq_true_eq] at hx;rw[wd];exact oAi (by lia)
 have sb:∀ x:Str,isNb (.str x)=true->wd S (.str x)=true:=fun x hx=>by
  have hx:(decide (x="")||isN (.str x))=true:=hx;rw[or_eq_true] at hx
  rcases hx with hx | hx
  ·rw[oAj hx,wd];decide +kernel
  ·exact sh x hx
 have ws:∀ l:List D,(∀ d∈l,wd S d=true)->wds S l=true:=fun l=>by
  induction l with
  |nil=>intro _;rw[wds]
  |cons d l ih=>intro h;rw[wds,h d (oAn ..),ih (fun x hx=>h x (oAm _ hx))];rfl
 have wt:∀ l:List D,l.length<1000000->(∀ d∈l,wd S d=true)->wd S (.tup l)=true:=fun l h1 h2=>by
  rw[wd,oAi h1,ws l h2];rfl
 refine wt _ (by show 5<1000000;decide) (fun d hd=>?_)
 simp only[mem_cons,not_mem_nil,or_false] at hd
 rcases hd with rfl | rfl | rfl | rfl | rfl
 ·rw[wd];decide +kernel
 ·exact sh q h1
 ·exact sh s h2
 ·exact sh f h3
 ·refine wt _ (by rw[length_map];lia) (fun d hd=>?_)
  obtain⟨row,hrow,rfl⟩:=List.mem_map.1 hd;obtain⟨l,o,r,n,rfl,g1,g2,g3,g4,_⟩:=hr row hrow;refine wt _ (by show 4<1000000;decide) (fun d hd=>?_)
  simp only[map_cons,map_nil,mem_cons,not_mem_nil,or_false] at hd
  rcases hd with rfl | rfl | rfl | rfl
  ·exact sb l g1
  ·exact sh o g2
  ·exact sb r g3
  ·exact sh n g4
theorem ZeY{x:Str}{PB:Bool->Prop}(h:x.length<=line)(k:PB (!decide (x=""))):Op (truth S (.str x)) PB:=by
 refine⟨_,?_,k⟩;show (if x.length<=line then some ((x.length:Int) != 0) else none)=_;rw[if_pos h];congr 1
 by_cases hx:x=""
 ·subst hx;decide +kernel
 ·have hn:x.length≠0:=fun z=>hx (by
   have e:x.cps.toList=[]:=List.eq_nil_of_length_eq_zero (by rw[length_toList];exact z)
   cases x
   exact congrArg Str.mk (Array.toList_inj.1 e))
  rw[oAh hx];have:(x.length:Int)≠0:=by lia
  exact bne_iff_ne.2 this
theorem pn2:putN "opening" d [("calm",a)]=([("calm",a),("opening",d)]:List (Str×D)):=by kernel_rfl
theorem pn3:putN "firing" d [("calm",a),("opening",b)]=([("calm",a),("opening",b),("firing",d)]:List (Str×D)):=by kernel_rfl
theorem pn4:putN "states" d [("calm",a),("opening",b),("firing",c)]=([("calm",a),("opening",b),("firing",c),("states",d)]:List (Str×D)):=by kernel_rfl
theorem pn5:putN "news" d [("calm",a),("opening",b),("firing",c),("states",e)]=([("calm",a),("opening",b),("firing",c),("states",e),("news",d)]:List (Str×D)):=by kernel_rfl
theorem Zc0(ww:Wi T){q s f:Str}{rows:List (List Str)}(tb:Tb q s f rows){t:Nat}(ht:S[t]?=some (.ins "TableWorks" []))(hl:t<S.length)(kk:∀ (sts:List Str) (o:Ob),(∀ x,x∈sts↔x∈q::s::f::rows.flatMap outs)->P .non ((S.set t (.ins "TableWorks" [("calm",.str q),("opening",.str s),("firing",.str f),("states",.tup (sts.map .str)),("news",.ref (S.length+1))]))++[o,.dt (rows.map kvR)])):Ev ((Za T W (k+2)).mt (Zh "TableWorks" "__init__") [.ref t,tabOf q s f rows] S) P:=by
 refine Ye ww.t0 rfl ?_;dsimp only[Uv];refine Ze (Ut (Zm (Zc rfl (Zg (Zp (d:=.str q) rfl (Zc rfl ⟨t,"TableWorks",[],rfl,ht,⟨Yp ww.f1,by show 0<1000;decide⟩,?_⟩))))))
 refine Zj (Ze (Ut (Zm (Zc rfl (Zg (Zp (d:=.str s) rfl (Zc rfl ⟨t,"TableWorks",[("calm",.str q)],rfl,getElem?_set_self hl,⟨Yp ww.f2,by show 1<1000;decide⟩,?_⟩)))))))
 rw[set_set,pn2];refine Zj (Ze (Ut (Zm (Zc rfl (Zg (Zp (d:=.str f) rfl (Zc rfl ⟨t,"TableWorks",[("calm",.str q),("opening",.str s)],rfl,getElem?_set_self hl,⟨Yp ww.f3,by show 2<1000;decide⟩,?_⟩)))))))
 rw[set_set,pn3];refine Zj (Ze (Ut (Zn (Zb (Zc rfl (Zf ?_))))));refine ZaS ww tb (fun sts o hs=>?_);refine Zc rfl ⟨t,"TableWorks",[("calm",.str q),("opening",.str s),("firing",.str f)],rfl,(by rw[getElem?_append_left (by rw[length_set];exact hl)];exact getElem?_set_self hl),⟨Yp ww.f4,by show 3<1000;decide⟩,?_⟩
 rw[List.set_append_left _ _ (by rw[length_set];exact hl),set_set,pn4]
 refine Zj (Ze (Ut ?_));obtain⟨_,_,_,_,hr,_⟩:=Y7 tb.tab;refine ZcR (ds:=rows.map rowD) kvD (fun e=>e.length=5) ?_ (by rw[length_map];have:=tb.few;lia) rfl ?_ ?_
 ·dsimp only[evI];rfl
 ·intro d hd e2 S2 he;obtain⟨row,hrow,rfl⟩:=List.mem_map.1 hd;obtain⟨l,o',r,n,rfl,g1,g2,g3,g4,_⟩:=hr row hrow
  match e2,he with
  | [a0,a1,a2,a3,a4],_=>
   refine g_tp ?_;show Eg (asgs _ _ [.str l,.str o',.str r,.str n] _ _) _;refine Yx (g_nm (Yx (g_nm (Yx (g_nm (Yx (g_nm (Wa ⟨rfl,rfl,?_⟩))))))));have ln:∀ x:Str,isNb (.str x)=true->x.length<=line:=fun x hx=>by
    have hx:(decide (x="")||(decide (1<=x.length)&&decide (x.length<=8)&&x.cps.toList.all fun c=>decide (97<=c)&&decide (c<=122)))=true:=hx;rw[or_eq_true] at hx;show x.length<=16777216
    rcases hx with hx | hx
    ·rw[oAj hx];decide +kernel
    ·simp only[and_eq_true,decide_eq_true_eq] at hx;lia
   have side:∀ {i:Nat}{x:Str}{env:En}{P:D->Sto->Prop},env[i]?=some (some (.str x))->isNb (.str x)=true->(∀ d,keyD d=some (kO x)->P d S2)->Ev (ev (Za T W (k+1)) (.or (.var i) .non) env S2) P:=fun {i x env P} h1 h2 h3=>by
    refine YO (Zc h1 (ZeY (ln x h2) (two_bn (fun e=>?_) (fun e=>?_))))
    ·exact JZ (h3 _ (by rw[e];rfl))
    ·exact h3 _ (by unfold kO;rw[if_neg e];rfl)
   refine Zb (side rfl g1 fun d1 k1=>Zb (Zc rfl (Zb (side rfl g3 fun d3 k3=>Zf ⟨rfl,by show 3<=16777216;decide,?_,Zc rfl ⟨rfl,rfl⟩⟩))))
   show ((keyD d1).bind fun k=>(((keyD (.str o')).bind fun k=>(((keyD d3).bind fun k=>(ZW []).map fun l=>k::l)).map fun l=>k::l)).map fun l=>k::l)=_;rw[k1,k3];rfl
 ·have ek:(rows.map rowD).map kvD=rows.map kvR:=by
   rw[map_map];apply List.map_congr_left;intro row hrow;obtain⟨l,o',r,n,rfl,_⟩:=hr row hrow;rfl
  rw[ek,zf _ [] (by rw[nil_append];exact ZeX tb.tab),nil_append]
  refine Zc rfl ⟨t,"TableWorks",[("calm",.str q),("opening",.str s),("firing",.str f),("states",.tup (sts.map .str))],rfl,?_,⟨Yp ww.f5,by show 4<1000;decide⟩,?_⟩
  ·rw[append_assoc,getElem?_append_left (by rw[length_set];exact hl)];exact getElem?_set_self hl
  ·rw[append_assoc,List.set_append_left _ _ (by rw[length_set];exact hl),set_set,pn5]
   walk_at "go";have el:(S.set t (Ob.ins "TableWorks" [("calm",.str q),("opening",.str s),("firing",.str f),("states",.tup (sts.map .str))])++[o]).length=S.length+1:=by rw[length_append,length_set];rfl
   rw[el];exact kk _ _ hs
theorem lk1:(List.lookup ("quiet":Str) [(("inner":Str),d)]).isNone=true:=by kernel_rfl
theorem lk2:(List.lookup ("start":Str) [(("inner":Str),d)]).isNone=true:=by kernel_rfl
theorem lk3:(List.lookup ("fires":Str) [(("inner":Str),d)]).isNone=true:=by kernel_rfl
theorem lk4:(List.lookup ("behind":Str) [(("inner":Str),d)]).isNone=true:=by kernel_rfl
theorem lk5:List.lookup ("inner":Str) [(("inner":Str),d)]=some d:=by kernel_rfl
noncomputable abbrev tFs(a b c d e:D):List (Str×D):=[("calm",a),("opening",b),("firing",c),("states",d),("news",e)]
section
variable {a b c d e:D}
theorem lt1:(List.lookup ("quiet":Str) (tFs a b c d e)).isNone=true:=by kernel_rfl
theorem lt2:(List.lookup ("start":Str) (tFs a b c d e)).isNone=true:=by kernel_rfl
theorem lt3:(List.lookup ("fires":Str) (tFs a b c d e)).isNone=true:=by kernel_rfl
theorem lt4:(List.lookup ("behind":Str) (tFs a b c d e)).isNone=true:=by kernel_rfl
theorem lf1:List.lookup ("calm":Str) (tFs a b c d e)=some a:=by kernel_rfl
theorem lf2:List.lookup ("opening":Str) (tFs a b c d e)=some b:=by kernel_rfl
theorem lf3:List.lookup ("firing":Str) (tFs a b c d e)=some c:=by kernel_rfl
theorem lf5:List.lookup ("news":Str) (tFs a b c d e)=some e:=by kernel_rfl
end
inductive Nb:D->Key->Prop where
 |s (x:Str):Nb (.str x) (.inr x)
 |n:Nb .non .non
end
end LW
namespace LU
open PySem L2 PF LC LZ LW
noncomputable def Vo:FI:=⟨1,1,(.cons (.ifs (.not (.call "is_machine" (.cons (.var 0) .nil))) (.cons .bad
  .nil) .nil)
  .nil)⟩
noncomputable def Jg:FI:=⟨2,2,(.cons (.ret (.ite (.isN (.var 0)) .non (.sub (.var 0) (.var 1))))
  .nil)⟩
noncomputable def JD:FI:=⟨1,3,(.cons (.asg (.name 1) (.sub (.var 0) (.int (0))))
  (.cons (.ifs (.cmp .Eq (.var 1) (.str "table")) (.cons (.ret (.new "TableWorks" (.cons (.var 0) .nil)))
  .nil) .nil)
  (.cons (.asg (.name 2) (.lv (.comp 2 [] (.name 1) (.seq (.call "parts_of" (.cons (.var 0) .nil))) .nil (.call "works_of" (.cons (.var 1) .nil)))))
  (.cons (.ifs (.cmp .Eq (.var 1) (.str "mirrored")) (.cons (.ret (.new "MirroredWorks" (.cons (.sub (.var 2) (.int (0))) .nil)))
  .nil) .nil)
  (.cons (.ifs (.cmp .Eq (.var 1) (.str "later")) (.cons (.ret (.new "LaterWorks" (.cons (.sub (.var 0) (.int (1))) (.cons (.sub (.var 2) (.int (0))) .nil))))
  .nil) .nil)
  (.cons (.ifs (.cmp .Eq (.var 1) (.str "slowed")) (.cons (.ret (.new "SlowedWorks" (.cons (.sub (.var 0) (.int (1))) (.cons (.sub (.var 2) (.int (0))) .nil))))
  .nil) .nil)
  (.cons (.ret (.new "PairWorks" (.cons (.sub (.var 2) (.int (0))) (.cons (.sub (.var 2) (.int (1))) (.cons (.cmp .Eq (.var 1) (.str "both")) .nil)))))
  .nil)))))))⟩
noncomputable def Vp:FI:=⟨3,3,(.cons (.fas (.var 0) "most" (.bin .Sub (.var 1) (.int (1))))
  (.cons (.fas (.var 0) "part" (.var 2))
  (.cons (.fas (.var 0) "calm" (.tup (.cons (.mcl (.var 2) "quiet" .nil) (.cons (.int (0)) .nil))))
  .nil)))⟩
noncomputable def Uh:FI:=⟨1,1,(.cons (.ret (.fld (.var 0) "calm"))
  .nil)⟩
noncomputable def Ui:FI:=⟨1,1,(.cons (.ret (.tup (.cons (.mcl (.fld (.var 0) "part") "start" .nil) (.cons (.int (0)) .nil))))
  .nil)⟩
noncomputable def Uj:FI:=⟨2,2,(.cons (.ret (.mcl (.fld (.var 0) "part") "fires" (.cons (.sub (.var 1) (.int (0))) .nil)))
  .nil)⟩
noncomputable def Jh:FI:=⟨4,6,(.cons (.asg (.name 4) (.lv (.comp 2 [0] (.name 1) (.seq (.tup (.cons (.var 1) (.cons (.var 2) (.cons (.var 3) .nil))))) (.cons (.and (.notN (.var 1)) (.cmp .NotEq (.var 1) (.fld (.var 2) "calm"))) .nil) (.var 1))))
  (.cons (.ifs (.cmp .Eq (.blt .len (.cons (.var 4) .nil)) (.int (0))) (.cons (.ret (.var 2))
  .nil) .nil)
  (.cons (.asg (.name 5) (.sub (.sub (.var 4) (.int (0))) (.int (1))))
  (.cons (.ifs (.cmp .Eq (.var 5) (.fld (.var 0) "most")) (.cons (.ret (.tup (.cons (.mcl (.fld (.var 0) "part") "behind" (.cons (.call "part_at" (.cons (.var 1) (.cons (.int (0)) .nil))) (.cons (.sub (.var 2) (.int (0))) (.cons (.call "part_at" (.cons (.var 3) (.cons (.int (0)) .nil))) .nil)))) (.cons (.int (0)) .nil))))
  .nil) .nil)
  (.cons (.ifs (.cmp .Eq (.var 2) (.fld (.var 0) "calm")) (.cons (.ret (.var 2))
  .nil) .nil)
  (.cons (.ret (.tup (.cons (.sub (.var 2) (.int (0))) (.cons (.bin .Add (.var 5) (.int (1))) .nil))))
  .nil))))))⟩
inductive Mc where
 |tab (q s f:Str) (rows:List (List Str)) | slo (c:Int) (m:Mc)
noncomputable def Mc.d:Mc->D
 |.tab q s f rows=>tabOf q s f rows
 |.slo c m=>.tup [.str "slowed",.int c,m.d]
def Mc.ok:Mc->Prop
 |.tab q s f rows=>Tb q s f rows
 |.slo c m=>1<=c/\c<=60/\m.ok
noncomputable def Mc.dep:Mc->Nat
 |.tab ..=>1
 |.slo _ m=>m.dep+1
noncomputable def Mc.cls:Mc->Str
 |.tab ..=>"TableWorks"
 |.slo ..=>"SlowedWorks"
theorem up{n L:Nat}(h:n+1<=L):∃ j,L=j+1/\n<=j:=⟨L - 1,by lia,by lia⟩
theorem ZgT{n:Nat}{x:D}(h1:LM.form x=true)(h2:(LM.ZS x).all (LM.isM n)=true):LM.isM (n+1) x=true:=by
 rw[LM.isM,h1,h2];exact Bool.or_true _
theorem form2{w:Str}{c:Int}{x:D}(lo:Int)(h:LM.form (.tup [.str w,.int c,x])=(decide (lo<=c)&&decide (c<=60)))(h1:lo<=c)(h2:c<=60):LM.form (.tup [.str w,.int c,x])=true:=by
 rw[h,oAi h1,oAi h2];rfl
theorem Zb7{c:Int}{x:D}(h1:1<=c)(h2:c<=60):LM.form (.tup [.str "slowed",.int c,x])=true:=form2 1 (by kernel_rfl) h1 h2
theorem Zb8:∀ (m:Mc) (n:Nat),m.ok->m.dep<=n->LM.isM n m.d=true
 | .tab q s f rows,n,h,hd=>by
  obtain⟨n,rfl,_⟩:=up (n:=0) hd;rw[LM.isM];show (Yg (tabOf q s f rows)||_)=true;rw[h.tab];rfl
 | .slo c m,n,h,hd=>by
  obtain⟨n,rfl,he⟩:=up hd;refine ZgT (x:=.tup [.str "slowed",.int c,m.d]) (Zb7 h.1 h.2.1) ?_;rw[show LM.ZS (.tup [.str "slowed",.int c,m.d])=[m.d] from by kernel_rfl,all_cons,Zb8 m n h.2.2 he];rfl
section
variable {T:Tab}{W k:Nat}{S:Sto}{P:D->Sto->Prop}{PD:D->Prop}
theorem ZgU(x:Str)(h:x.length<1000000):wd S (.str x)=true:=by rw[wd];exact oAi h
theorem ZgV(c:Int):wd S (.int c)=true:=by unfold wd;rfl
theorem wd_3{w:Str}{x y:D}(h:w.length<1000000)(hx:wd S x=true)(hy:wd S y=true):wd S (.tup [.str w,x,y])=true:=by
 rw[wd,wds,wds,wds,wds,ZgU _ h,hx,hy];rfl
theorem wd_m:∀ m:Mc,m.ok->wd S m.d=true
 |.tab q s f rows,h=>ZgS h.tab h.few
 |.slo c m,h=>wd_3 (by decide +kernel) (ZgV c) (wd_m m h.2.2)
structure Mw(T:Tab):Prop where
 mt:LM.Mt T
 ni:T.lookup ("names_in":Str)=some LW.YD
 nm:T.lookup ("need_machine":Str)=some Vo
 pt:T.lookup ("part_at":Str)=some Jg
 wo:T.lookup ("works_of":Str)=some JD
 t0:T.mts.lookup (Zh "TableWorks" "__init__")=some LW.Uv
 t1:T.mts.lookup (Zh "TableWorks" "quiet")=some LW.Ub
 t2:T.mts.lookup (Zh "TableWorks" "start")=some LW.Uc
 t3:T.mts.lookup (Zh "TableWorks" "fires")=some LW.Ud
 t4:T.mts.lookup (Zh "TableWorks" "behind")=some LW.Je
 s0:T.mts.lookup (Zh "SlowedWorks" "__init__")=some Vp
 s1:T.mts.lookup (Zh "SlowedWorks" "quiet")=some Uh
 s2:T.mts.lookup (Zh "SlowedWorks" "start")=some Ui
 s3:T.mts.lookup (Zh "SlowedWorks" "fires")=some Uj
 s4:T.mts.lookup (Zh "SlowedWorks" "behind")=some Jh
 w0:T.mts.lookup (Zh "Works" "__init__")=some LW.Vn
 w1:T.mts.lookup (Zh "Works" "quiet")=some LW.Ue
 w2:T.mts.lookup (Zh "Works" "start")=some LW.Uf
 w3:T.mts.lookup (Zh "Works" "fires")=some LW.Ug
 w4:T.mts.lookup (Zh "Works" "behind")=some LW.Jf
 f1:T.fds.contains ("TableWorks","calm")=true
 f2:T.fds.contains ("TableWorks","opening")=true
 f3:T.fds.contains ("TableWorks","firing")=true
 f4:T.fds.contains ("TableWorks","states")=true
 f5:T.fds.contains ("TableWorks","news")=true
 f6:T.fds.contains ("Works","inner")=true
 g1:T.fds.contains ("SlowedWorks","most")=true
 g2:T.fds.contains ("SlowedWorks","part")=true
 g3:T.fds.contains ("SlowedWorks","calm")=true
noncomputable def mq:Mc->D
 |.tab q _ _ _=>.str q
 |.slo _ m=>.tup [mq m,.int 0]
noncomputable def ms:Mc->D
 |.tab _ s _ _=>.str s
 |.slo _ m=>.tup [ms m,.int 0]
def Ns(q s f:Str)(rows:List (List Str))(sts:List Str):Prop:=∀ x,x∈sts↔x∈q::s::f::rows.flatMap outs
def WK:Mc->Sto->Nat->Prop
 |.tab q s f rows,S,t=>∃ (m:Nat) (sts:List Str),S[t]?=some (.ins "TableWorks" (tFs (.str q) (.str s) (.str f) (.tup (sts.map .str)) (.ref m)))/\S[m]?=some (.dt (rows.map kvR))/\Ns q s f rows sts
 |.slo c m,S,t=>∃ p,S[t]?=some (.ins "SlowedWorks" [("most",.int (c - 1)),("part",.ref p),("calm",.tup [mq m,.int 0])])/\WK m S p
theorem WK.gr{S S':Sto}(g:Gr S S'):∀ {m:Mc}{t:Nat},WK m S t->WK m S' t
 |.tab ..,t,⟨m,sts,h1,h2,h3⟩=>⟨m,sts,g.get h1,g.get h2,h3⟩
 |.slo c m,t,⟨p,h1,h2⟩=>⟨p,g.get h1,WK.gr g h2⟩
def noM(fs:List (Str×D)):Prop:=(fs.lookup ("quiet":Str)).isNone=true/\(fs.lookup ("start":Str)).isNone=true/\(fs.lookup ("fires":Str)).isNone=true/\(fs.lookup ("behind":Str)).isNone=true
theorem WK.at{m:Mc}{S:Sto}{t:Nat}(h:WK m S t):∃ fs,S[t]?=some (.ins m.cls fs)/\noM fs:=by
 cases m with
 |tab q s f rows=>obtain⟨m,sts,h1,_⟩:=h;exact⟨_,h1,lt1,lt2,lt3,lt4⟩
 |slo c m=>obtain⟨p,h1,_⟩:=h;exact⟨_,h1,by kernel_rfl,by kernel_rfl,by kernel_rfl,by kernel_rfl⟩
noncomputable def p0:D->D
 |.tup [a,_]=>a
 |_=>.non
noncomputable def p1:D->Int
 |.tup [_,.int j]=>j
 |_=>0
noncomputable def key1:D->Key
 |.str x=>.inr x
 |_=>.non
noncomputable def mf:Mc->D->Bool
 |.tab _ _ f _,d=>decide (d=.str f)
 |.slo _ m,d=>mf m (p0 d)
noncomputable def aw(calm d:D):Bool:=decide (d≠.non)&&decide (d≠calm)
noncomputable def slB(c:Int)(calm new l o r:D):D:=match [l,o,r].filter (aw calm) with
 |[]=>o
 |w::_=>if p1 w=c - 1 then .tup [new,.int 0] else if o=calm then o else .tup [p0 o,.int (p1 w+1)]
noncomputable def mb:Mc->D->D->D->D
 |.tab _ _ _ rows,l,o,r=>(valD (rows.map kvR) [key1 l,key1 o,key1 r]).getD o
 |.slo c m,l,o,r=>slB c (.tup [mq m,.int 0]) (mb m (p0 l) (p0 o) (p0 r)) l o r
def Sd:Mc->D->Prop
 |.tab ..,d=>∃ x,d=.str x/\isN (.str x)=true
 |.slo c m,d=>∃ a j,d=.tup [a,.int j]/\Sd m a/\0<=j/\j<=c - 1
def Nd(m:Mc)(d:D):Prop:=d=.non\/Sd m d
theorem Nd.p0{m n:Mc}{d:D}(h:Nd n d)(k:Sd n d->∃ a e,d=.tup [a,e]/\Sd m a):Nd m (p0 d):=by
 rcases h with rfl | h
 ·exact .inl rfl
 ·obtain⟨a,e,rfl,g⟩:=k h;exact .inr g
theorem ts{c:Int}{m:Mc}{d:D}:Sd (.slo c m) d->∃ a e,d=.tup [a,e]/\Sd m a:=fun ⟨a,j,e,h,_⟩=>⟨a,_,e,h⟩
theorem ZeZ{kvs:List (List Key×D)}{kk:List Key}{d:D}(h:valD kvs kk=some d):∃ kv∈kvs,kv.2=d:=by
 unfold valD at h;obtain⟨kv,h1,h2⟩:=zoM h;exact⟨kv,List.mem_of_find?_eq_some h1,h2⟩
theorem ZaT{c:Int}{m:Mc}{l o r w:D}{ws:List D}(hl:Nd (.slo c m) l)(ho:Sd (.slo c m) o)(hr:Nd (.slo c m) r)(h:[l,o,r].filter (aw (.tup [mq m,.int 0]))=w::ws):Sd (.slo c m) w:=by
 have hw:w∈[l,o,r].filter (aw (.tup [mq m,.int 0])):=by rw[h];exact oAn
 obtain⟨h1,h2⟩:=List.mem_filter.1 hw;have hn:w≠.non:=by
  unfold aw at h2;rw[and_eq_true] at h2;exact oAj h2.1
 simp only[mem_cons,not_mem_nil,or_false] at h1
 rcases h1 with rfl | rfl | rfl
 ·exact hl.resolve_left hn
 ·exact ho
 ·exact hr.resolve_left hn
theorem Zds:∀ (m:Mc) {l o r:D},m.ok->Nd m l->Sd m o->Nd m r->Sd m (mb m l o r)
 | .tab q s f rows,l,o,r,h,hl,ho,hr=>by
  show Sd (.tab q s f rows) ((valD (rows.map kvR) [key1 l,key1 o,key1 r]).getD o);cases hv:valD (rows.map kvR) [key1 l,key1 o,key1 r] with
  |none=>exact ho
  | some d=>
   obtain⟨kv,h1,h2⟩:=ZeZ hv;obtain⟨row,h3,rfl⟩:=List.mem_map.1 h1;obtain⟨l',o',r',n',rfl,_,_,_,e4,_⟩:=(Y7 h.tab).2.2.2.2.1 row h3;exact⟨n',h2.symm,e4⟩
 | .slo c m,l,o,r,h,hl,ho,hr=>by
  show Sd (.slo c m) (slB c (.tup [mq m,.int 0]) (mb m (p0 l) (p0 o) (p0 r)) l o r);unfold slB;split
  ·exact ho
  ·rename_i w ws e;obtain⟨a,j,rfl,h1,h2,h3⟩:=ZaT hl ho hr e;obtain⟨a',j',rfl,k1,k2,k3⟩:=id ho;have hc:=h.1;split
   ·exact⟨_,0,rfl,Zds m h.2.2 (hl.p0 ts) k1 (hr.p0 ts),by lia,by lia⟩
   ·rename_i hj;have hj:¬ j=c - 1:=hj;split
    ·exact ho
    ·exact⟨a',j+1,rfl,k1,by lia,by lia⟩
theorem Wg:∀ m:Mc,m.ok->Sd m (mq m)
 |.tab q s f rows,h=>⟨q,rfl,(Y7 h.tab).2.1⟩
 |.slo c m,h=>⟨mq m,0,rfl,Wg m h.2.2,by lia,by have:=h.1;lia⟩
theorem ZaU:∀ m:Mc,m.ok->Sd m (ms m)
 |.tab q s f rows,h=>⟨s,rfl,(Y7 h.tab).2.2.1⟩
 |.slo c m,h=>⟨ms m,0,rfl,ZaU m h.2.2,by lia,by have:=h.1;lia⟩
end
inductive Dt:Nat->D->Prop
 |s {n:Nat}{x:Str} (h:PyData.strOk x=true):Dt n (.str x)
 |i {n:Nat}{j:Int}:Dt n (.int j)
 |p {n:Nat}{a b:D} (ha:Dt n a) (hb:Dt n b):Dt (n+1) (.tup [a,b])
theorem nOk{x:Str}(h:isN (.str x)=true):PyData.strOk x=true:=by
 have h:(decide (1<=x.length)&&decide (x.length<=8)&&x.cps.toList.all fun c=>decide (97<=c)&&decide (c<=122))=true:=h;unfold PyData.strOk;simp only[and_eq_true,all_eq_true,decide_eq_true_eq] at h;rw[<- Array.all_toList,all_eq_true];intro c hc;have:=h.2 c hc;exact oAi (by lia)
theorem YC:∀ (m:Mc) {d:D},Sd m d->Dt m.dep d
 |.tab ..,_,⟨x,e,h⟩=>by subst e;exact .s (nOk h)
 |.slo c m,_,⟨a,j,e,h,_⟩=>by subst e;exact .p (YC m h) .i
theorem JL{n:Nat}{d:D}(h:Dt n d):YU d=true/\(toP d).canLay0=true/\(toP d).depth<=n+1:=by
 induction h with
 |s h=>exact⟨rfl,h,by show (PyData.str _).depth<=_;rw[PyData.depth]<;>first | lia | (intros;intro z;cases z)⟩
 |i=>exact⟨rfl,rfl,by show (PyData.int _).depth<=_;rw[PyData.depth]<;>first | lia | (intros;intro z;cases z)⟩
 | p _ _ iha ihb=>
  obtain⟨a1,a2,a3⟩:=iha;obtain⟨b1,b2,b3⟩:=ihb;refine⟨by rw[YU,Yh,Yh,Yh,a1,b1];rfl,?_,?_⟩
  ·show PyData.canLay0 (.tuple [toP _,toP _])=true;rw[PyData.canLay0,PyData.canLayAll0,PyData.canLayAll0,PyData.canLayAll0,a2,b2];rfl
  ·show PyData.depth (.tuple [toP _,toP _])<=_;rw[PyData.depth,PyData.depthAll,PyData.depthAll,PyData.depthAll];lia
theorem qj{n:Nat}{d:D}(h:Dt n d)(hn:n<=40):okD d=true:=by
 obtain⟨a,b,c⟩:=JL h;unfold okD;rw[a,b,oAi (by lia)];rfl
theorem Zdt{n:Nat}{a:D}(ha:Dt n a):∀ {k:Nat}{b:D},Dt k b->PyData.eqv (toP a) (toP b)=decide (a=b):=by
 induction ha with
 | @s n x h=>
  intro k b hb;cases hb with
  | @s n y g=>
   show PyData.eqv (.str x) (.str y)=_;rw[PyData.eqv];by_cases e:x=y
   ·rw[e,oAi rfl];exact beq_self_eq_true _
   ·rw[oAh (fun z=>e (D.str.inj z))];exact beq_eq_false_iff_ne.2 e
  |i=>rw[oAh (by intro z;cases z)];rfl
  |p _ _=>rw[oAh (by intro z;cases z)];rfl
 | @i n x=>
  intro k b hb;cases hb with
  |s g=>rw[oAh (by intro z;cases z)];rfl
  | @i n y=>
   show PyData.eqv (.int x) (.int y)=_;rw[PyData.eqv];by_cases e:x=y
   ·rw[e,oAi rfl];exact beq_self_eq_true _
   ·rw[oAh (fun z=>e (D.int.inj z))];exact beq_eq_false_iff_ne.2 e
  |p _ _=>rw[oAh (by intro z;cases z)];rfl
 | p _ _ iha ihb=>
  intro k b hb;cases hb with
  |s g=>rw[oAh (by intro z;cases z)];rfl
  |i=>rw[oAh (by intro z;cases z)];rfl
  | p ga gb=>
   show PyData.eqv (.tuple [toP _,toP _]) (.tuple [toP _,toP _])=_;rw[PyData.eqv,PyData.eqvAll,PyData.eqvAll,PyData.eqvAll,iha ga,ihb gb,Bool.and_true,<-Bool.decide_and];exact decide_eq_decide.2 ⟨fun ⟨x,y⟩=>by rw[x,y],fun z=>by injection z with z;injection z with z1 z;injection z with z2;exact⟨z1,z2⟩⟩
section
variable {T:Tab}{W k:Nat}{S:Sto}{P:D->Sto->Prop}{PD:D->Prop}{PB:Bool->Prop}
theorem Zdu{n k:Nat}{a b:D}(ha:Dt n a)(hb:Dt k b)(hn:n<=40)(hk:k<=40):eqD S a b=some (decide (a=b)):=by
 unfold eqD;split
 ·rfl
 ·rw[qj ha hn,qj hb hk,if_pos (show (true&&true)=true from rfl),Zdt ha hb]
theorem Zdv{n k:Nat}{a b:D}(ha:Dt n a)(hb:Dt k b)(hn:n<=40)(hk:k<=40)(kk:PB (decide (a=b))):Op (cmpop S .Eq a b) PB:=⟨_,Zdu ha hb hn hk,kk⟩
theorem Zje{n k:Nat}{a b:D}(ha:Dt n a)(hb:Dt k b)(hn:n<=40)(hk:k<=40)(kk:PB (!decide (a=b))):Op (cmpop S .NotEq a b) PB:=⟨_,by show (eqD S a b).map not=_;rw[Zdu ha hb hn hk];rfl,kk⟩
theorem Vi{n k:Nat}{a b:D}(ha:a=.non\/Dt n a)(hb:Dt (k+1) b)(hq:∃ x y,b=.tup [x,y])(hn:n<=40)(hk:k+1<=40)(kk:PB (aw b a)):Op (cmpop S .NotIn a (.tup [.non,b])) PB:=by
 refine⟨_,?_,kk⟩;show (inD S a (.tup [.non,b])).map not=_;obtain⟨x,y,rfl⟩:=hq;have hb':=qj hb hk;unfold inD;show ((if JK a&&(JK .non&&(false&&true)) then _ else _:Option Bool)).map not=_;rw[if_neg (by simp)]
 rcases ha with rfl | ha
 ·have e:([D.non,.tup [x,y]].all okD)=true:=by rw[all_cons,all_cons,hb'];rfl
  rw[e,if_pos (by decide +kernel)];rfl
 ·have e:([D.non,.tup [x,y]].all okD)=true:=by rw[all_cons,all_cons,hb'];rfl
  rw[e,qj ha hn,oAi (by have:=(JL ha).2.2;lia),if_pos (show (true&&true&&true)=true from rfl)]
  have hn':decide (a=D.non)=false:=oAh (by intro z;subst z;cases ha)
  have e1:PyData.eqv (toP D.non) (toP a)=false:=by cases ha<;>rfl
  show some (!(PyData.eqv (toP D.non) (toP a)||(PyData.eqv (toP (.tup [x,y])) (toP a)||false)))=_;rw[e1,Zdt hb ha];unfold aw;rw[decide_not,decide_not,hn',Bool.or_false,Bool.false_or];congr 2
  exact decide_eq_decide.2 ⟨Eq.symm,Eq.symm⟩
theorem Zdw{c:Cl}{env:En}{j:Nat}{cap calm:D}{ds:List D}{it:Itx}{ifs:Exs}{R:List D->Sto->Prop}(hj:env[j]?=some (some cap))(hi:evI c it env S=some (.vs ds,S))(hl:ds.length<=1000)(ht:∀ d∈ds,Et (evTs c ifs [none,some d,some cap] S) fun b S'=>b=aw calm d/\S'=S)(kk:R (ds.filter (aw calm)) S):Es (evL c (.comp 2 [j] (.name 1) it ifs (.var 1)) env S) R:=by
 refine Ym (.vs ds) ds S hi (fun i e2 S2 acc=>(∃ a,e2=[none,a,some cap])/\S2=S/\i<=ds.length/\acc=(ds.take i).filter (aw calm)) ⟨⟨none,by unfold ZG;rw[map_cons,hj];rfl⟩,rfl,zero_le _,rfl⟩ (.inl rfl) ?_ ?_
 ·rintro i d e2 S2 acc hd ⟨⟨a,rfl⟩,rfl,hle,rfl⟩;obtain⟨hi',hd'⟩:=List.getElem?_eq_some_iff.1 hd;obtain⟨b,S',h1,rfl,rfl⟩:=ht d (mem_of_getElem? hd);have ht:ds.take (i+1)=ds.take i++[d]:=by rw[List.take_add_one,hd];rfl
  refine g_nm ⟨_,_,h1,fun hb=>Zc rfl ⟨?_,⟨_,rfl⟩,rfl,hi',?_⟩,fun hb=>⟨⟨_,rfl⟩,rfl,hi',?_⟩⟩
  ·have:=List.length_filter_le (aw calm) (ds.take i);rw[length_take] at this;show _<16777216;lia
  ·rw[ht,List.filter_append,List.filter_cons,if_pos hb];rfl
  ·rw[ht,List.filter_append,List.filter_cons,if_neg (by rw[hb];exact oAg)];simp
 ·rintro e2 S2 acc ⟨_,rfl,_,rfl⟩;rw[take_length];exact kk
end
section
variable {T:Tab}{W k:Nat}{S:Sto}{P:D->Sto->Prop}{PD:D->Prop}
theorem t2:2<=16777216:=by decide
theorem my{C f:Str}{fs:List (Str×D)}{t k:Nat}{d:D}{env:En}(h:S[t]?=some (.ins C fs))(hf:T.fds.contains (C,f)=true)(hl:fs.lookup f=some d)(he:env[0]?=some (some (.ref t)))(kk:P d S):Ev (ev (Za T W k) (.fld (.var 0) f) env S) P:=
 JA (Zc he ⟨t,C,_,d,rfl,h,Yp hf,hl,kk⟩)
theorem myM{C f m:Str}{fs:List (Str×D)}{t p k:Nat}{x:Mc}{env:En}{es:Exs}(h:S[t]?=some (.ins C fs))(hf:T.fds.contains (C,f)=true)(hl:fs.lookup f=some (.ref p))(he:env[0]?=some (some (.ref t)))(wk:WK x S p)(nm:∀ fs,noM fs->(fs.lookup m).isNone=true)(kk:Es (evs (Za T W k) es env S) fun xs S2=>Ev ((Za T W k).mt (Zh x.cls m) (.ref p::xs) S2) P):Ev (ev (Za T W k) (.mcl (.fld (.var 0) f) m es) env S) P:=by
 obtain⟨fs',g1,g2⟩:=wk.at;exact YA (my h hf hl he ⟨p,_,_,rfl,g1,nm fs' g2,kk⟩)
theorem Zak(mw:Mw T):∀ (m:Mc) {L:Nat}{t:Nat}{P:D->Sto->Prop},m.dep<=L->WK m S t->P (mq m) S->Ev ((Za T W L).mt (Zh m.cls "quiet") [.ref t] S) P
 | .tab q s f rows,L,t,P,hL,⟨m,sts,h1,h2,_⟩,kk=>by
  obtain⟨L,rfl,_⟩:=up (n:=0) hL;refine Ye mw.t1 rfl ?_;dsimp only[LW.Ub];exact Ze (Zy (my h1 mw.f1 lf1 rfl kk))
 | .slo c m,L,t,P,hL,⟨p,h1,h2⟩,kk=>by
  obtain⟨L,rfl,hj⟩:=up hL;refine Ye mw.s1 rfl ?_;dsimp only[Uh];exact Ze (Zy (my h1 mw.g3 (by kernel_rfl) rfl kk))
theorem Zal(mw:Mw T):∀ (m:Mc) {L:Nat}{t:Nat}{P:D->Sto->Prop},m.dep<=L->WK m S t->P (ms m) S->Ev ((Za T W L).mt (Zh m.cls "start") [.ref t] S) P
 | .tab q s f rows,L,t,P,hL,⟨m,sts,h1,h2,_⟩,kk=>by
  obtain⟨L,rfl,_⟩:=up (n:=0) hL;refine Ye mw.t2 rfl ?_;dsimp only[LW.Uc];exact Ze (Zy (my h1 mw.f2 lf2 rfl kk))
 | .slo c m,L,t,P,hL,⟨p,h1,h2⟩,kk=>by
  obtain⟨L,rfl,hj⟩:=up hL;refine Ye mw.s2 rfl ?_;dsimp only[Ui];exact Ze (Zy (ZP (Zb (myM h1 mw.g2 (by kernel_rfl) rfl h2 (fun _ z=>z.2.1) (Zf (Zal mw m hj h2 (Zb (Zg (Zf ⟨t2,kk⟩)))))))))
theorem e_at{a b:D}{i:Nat}{env:En}{c:Cl}{j:Int}{d:D}(he:env[i]?=some (some (.tup [a,b])))(hj:atI [a,b] j=some d)(kk:P d S):Ev (ev c (.sub (.var i) (.int j)) env S) P:=Zm (Zc he (Zg (Zp hj kk)))
theorem Zam(mw:Mw T):∀ (m:Mc) {L:Nat}{t:Nat}{d:D}{P:D->Sto->Prop},m.dep<=L->WK m S t->Sd m d->P (.bl (mf m d)) S->Ev ((Za T W L).mt (Zh m.cls "fires") [.ref t,d] S) P
 | .tab q s f rows,L,t,d,P,hL,⟨m,sts,h1,h2,_⟩,⟨x,hd,_⟩,kk=>by
  subst hd;obtain⟨L,rfl,_⟩:=up (n:=0) hL;refine Ye mw.t3 rfl ?_;dsimp only[LW.Ud];refine Ze (Zy (ZA (Zc rfl (my h1 mw.f3 lf3 rfl (Z6 ?_)))));have e:decide (x=f)=mf (.tab q s f rows) (.str x):=decide_eq_decide.2 ⟨fun h=>by rw[h],D.str.inj⟩;rw[e];exact kk
 | .slo c m,L,t,d,P,hL,⟨p,h1,h2⟩,⟨a,j,hd,ha,_⟩,kk=>by
  subst hd;obtain⟨L,rfl,hj⟩:=up hL;refine Ye mw.s3 rfl ?_;dsimp only[Uj];exact Ze (Zy (myM h1 mw.g2 (by kernel_rfl) rfl h2 (fun _ z=>z.2.2.1) (Zb (e_at rfl rfl (Zf (Zam mw m hj h2 ha kk))))))
theorem Ze0(mw:Mw T){d x:D}{i:Int}{L:Nat}(hL:1<=L)(h:d=.non/\x=.non\/∃ ds,d=.tup ds/\atI ds i=some x)(kk:P x S):Ev ((Za T W L).fn "part_at" [d,.int i] S) P:=by
 obtain⟨L,rfl,_⟩:=up (n:=0) hL;refine Zw mw.pt rfl ?_;dsimp only[Jg]
 rcases h with ⟨rfl,rfl⟩ | ⟨ds,rfl,h⟩
 ·exact Ze (Zy (Y3 (UV (Zc rfl (t_bl (two_t (JZ kk)))))))
 ·exact Ze (Zy (Y3 (UV (Zc rfl (t_bl (two_f (Zm (Zc rfl (Zc rfl (Zp h kk))))))))))
theorem pt0{n m:Mc}{d:D}(h:Nd n d)(k:Sd n d->∃ a e,d=.tup [a,e]/\Sd m a):d=.non/\p0 d=.non\/∃ ds,d=.tup ds/\atI ds 0=some (p0 d):=by
 rcases h with rfl | h
 ·exact .inl ⟨rfl,rfl⟩
 ·obtain⟨a,e,rfl,_⟩:=k h;exact .inr ⟨_,rfl,rfl⟩
theorem Zdx{d:D}{q s f:Str}{rows:List (List Str)}(h:Nd (.tab q s f rows) d):Nb d (key1 d):=by
 rcases h with rfl | ⟨x,rfl,_⟩
 ·exact .n
 ·exact .s x
theorem e_pt(mw:Mw T){d x:D}{i L:Nat}{j:Int}{env:En}(hL:1<=L)(he:env[i]?=some (some d))(h:d=.non/\x=.non\/∃ ds,d=.tup ds/\atI ds j=some x)(kk:P x S):Ev (ev (Za T W L) (.call "part_at" (.cons (.var i) (.cons (.int j) .nil))) env S) P:=
 Zn (Zb (Zc he (Zb (Zg (Zf (Ze0 mw hL h kk))))))
end
open LM (at_0)
section
variable {T:Tab}{W k:Nat}{S:Sto}{P:D->Sto->Prop}{PD:D->Prop}
theorem Zan{m:Mc}(h:m.ok):Dt (m.dep+1) (.tup [mq m,.int 0]):=.p (YC m (Wg m h)) .i
theorem zg(mw:Mw T):∀ (m:Mc) {L:Nat}{t:Nat}{l o r:D}{P:D->Sto->Prop},m.ok->m.dep<=30->m.dep+1<=L->WK m S t->Nd m l->Sd m o->Nd m r->P (mb m l o r) S->Ev ((Za T W L).mt (Zh m.cls "behind") [.ref t,l,o,r] S) P
 | .tab q s f rows,L,t,l,o,r,P,hm,hd,hL,⟨m,sts,h1,h2,_⟩,hl,⟨x,ho,_⟩,hr,kk=>by
  subst ho;have kt:ZW [l,.str x,r]=some [key1 l,.inr x,key1 r]:=by
   have a:=Zdx hl;have b:=Zdx hr;generalize key1 l=kl at *;generalize key1 r=kr at *;cases a<;>cases b<;>rfl
  obtain⟨L,rfl,_⟩:=up (n:=1) hL;refine Ye mw.t4 rfl ?_;dsimp only[LW.Je];refine Ze (Zy (Zae (JA (Zc rfl ⟨t,"TableWorks",_,.ref m,rfl,h1,Yp mw.f5,lf5,m,_,rfl,h2,Zb (Zc rfl (Zb (Zc rfl (Zb (Zc rfl (Zf ⟨by show 3<=16777216;decide,Zc rfl ⟨_,_,h2,kt,?_⟩⟩))))))⟩))))
  exact kk
 | .slo c m,L,t,l,o,r,P,hm,hd,hL,⟨p,h1,h2⟩,hl,ho,hr,kk=>by
  have hcm:=Zan hm.2.2;have hdd:m.dep+1<=30:=hd;obtain⟨a,j,rfl,ha,j0,jc⟩:=id ho;obtain⟨L,rfl,hj⟩:=up hL;have hL1:1<=L:=oAq (Nat.le_add_left _ _) hj;refine Ye mw.s4 rfl ?_;dsimp only[Jh];refine Ze (ZF (ZO (Zdw (calm:=.tup [mq m,.int 0]) (ds:=[l,.tup [a,.int j],r]) (cap:=.ref t) rfl (by dsimp only[evI];rfl) (by simp) (fun d hdm=>?_) ?_)))
  ·have hdn:Nd (.slo c m) d:=by
    simp only[mem_cons,not_mem_nil,or_false] at hdm
    rcases hdm with rfl | rfl | rfl
    ·exact hl
    ·exact .inr ho
    ·exact hr
   refine Vb (ZbW (Zac (Zc rfl (t_bl ?_))))
   rcases hdn with rfl | hs
   ·exact⟨fun z=>(by cases z),fun _=>t_bl (two_f ⟨rfl,rfl⟩)⟩
   ·have hn:d≠.non:=by intro z;subst z;obtain⟨_,_,z,_⟩:=hs;cases z
    rw[oAh hn];refine⟨fun _=>ZA (Zc rfl (JA (Zc rfl ⟨t,_,_,.tup [mq m,.int 0],rfl,h1,Yp mw.g3,by kernel_rfl,?_⟩))),fun z=>(by cases z)⟩;refine Zje (YC _ hs) hcm (oAq hd (by decide)) (oAq hdd (by decide)) ?_;have e:(!decide (d=.tup [mq m,.int 0]))=aw (.tup [mq m,.int 0]) d:=by unfold aw;rw[decide_not,decide_not,oAh hn];rfl
    rw[e];refine t_bl ?_;cases aw (.tup [mq m,.int 0]) d with
    |true=>exact two_t (Ys ⟨rfl,rfl⟩)
    |false=>exact two_f ⟨rfl,rfl⟩
  have kk:P (slB c (.tup [mq m,.int 0]) (mb m (p0 l) a (p0 r)) l (.tup [a,.int j]) r) S:=kk;unfold slB at kk;refine g_nm (Zj (Ze (Zu (ZA (Y5 (Zb (Zc rfl (Zf (Op.mk VA (Zg (Vc (t_bl ?_))))))))))));cases hws:[l,.tup [a,.int j],r].filter (aw (.tup [mq m,.int 0])) with
  | nil=>
   rw[hws] at kk;exact two_of (fun _=>Ze (Zy (Zc rfl kk))) (fun z=>absurd rfl z)
  | cons w ws=>
   obtain⟨a',j',rfl,ha',_⟩:=ZaT hl ho hr hws;rw[hws] at kk;dsimp only at kk;refine two_of (fun z=>absurd z (by simp only[length_cons];lia)) (fun _=>Yd (Zj (Ze (ZF (Zm (Zm (Zc rfl (Zg (ZB (d:=.tup [a',.int j']) at_0 (Zg (Zp (d:=.int j') rfl (g_nm ?_))))))))))))
   refine Zj (Ze (Zu (ZA (Zc rfl (my (d:=.int (c - 1)) h1 mw.g1 (by kernel_rfl) rfl (Vc (t_bl (two_of (fun h=>?_) (fun h=>?_)))))))))
   ·rw[if_pos (show p1 (.tup [a',.int j'])=c - 1 from h)] at kk;exact Ze (Zy (ZP (Zb (myM h1 mw.g2 (by kernel_rfl) rfl h2 (fun _ z=>z.2.2.2) (Zb (e_pt mw hL1 rfl (pt0 hl ts) (Zb (e_at rfl rfl (Zb (e_pt mw hL1 rfl (pt0 hr ts) (Zf (zg mw m hm.2.2 (Nat.le_of_succ_le hd) hj h2 (hl.p0 ts) ha (hr.p0 ts) (Zb (Zg (Zf ⟨t2,kk⟩)))))))))))))))
   ·rw[if_neg (show ¬ p1 (.tup [a',.int j'])=c - 1 from h)] at kk;refine Yd (Zj (Ze (Zu (ZA (Zc rfl (my (d:=.tup [mq m,.int 0]) h1 mw.g3 (by kernel_rfl) rfl (Zdv (YC _ ho) hcm (oAq hd (by decide)) (oAq hdd (by decide)) (t_bl (two_of (fun g=>?_) (fun g=>?_))))))))))
    ·rw[if_pos g] at kk;exact Ze (Zy (Zc rfl kk))
    ·rw[if_neg g] at kk;exact Yd (Zj (Ze (Zy (ZP (Zb (e_at rfl rfl (Zb (ZR (Zc rfl (Zg (p_add (Zf ⟨t2,kk⟩))))))))))))
end
open LM (at_0)
section
variable {T:Tab}{W k:Nat}{S:Sto}{P:D->Sto->Prop}{PD:D->Prop}
def WKs:List Mc->Sto->List Nat->Prop
 |[],_,[]=>True
 |m::ms,S,t::ts=>WK m S t/\WKs ms S ts
 |_,_,_=>False
theorem WKs.gr{S S':Sto}(g:Gr S S'):∀ {ms:List Mc}{ts:List Nat},WKs ms S ts->WKs ms S' ts
 |[],[],h=>h
 |m::ms,t::ts,h=>⟨h.1.gr g,WKs.gr g h.2⟩
 |[],t::ts,h=>h.elim
 |m::ms,[],h=>h.elim
theorem WKs.add{S:Sto}{m:Mc}{t:Nat}(h:WK m S t):∀ {ms:List Mc}{ts:List Nat},WKs ms S ts->WKs (ms++[m]) S (ts++[t])
 |[],[],_=>⟨h,trivial⟩
 |n::ms,u::ts,g=>⟨g.1,WKs.add h g.2⟩
 |[],u::ts,g=>g.elim
 |n::ms,[],g=>g.elim
theorem Z1(mw:Mw T){ms:List Mc}{x:D}{w:Str}{L:Nat}{R:List D->Sto->Prop}(hL:1<=L)(hf:LM.form x=true)(hp:LM.ZS x=ms.map Mc.d)(hn:ms.length<=2)
  (ih:∀ m∈ms,∀ (S:Sto) (Q:D->Sto->Prop),(∀ t S',Gr S S'->WK m S' t->Q (.ref t) S')->Ev ((Za T W L).fn "works_of" [m.d] S) Q)
  (kk:∀ ts S',Gr S S'->WKs ms S' ts->R (ts.map .ref) S') :
  Es (evL (Za T W L) (.comp 2 [] (.name 1) (.seq (.call "parts_of" (.cons (.var 0) .nil))) .nil (.call "works_of" (.cons (.var 1) .nil))) [some x,some (.str w),none] S) R:=by
 have hi:evI (Za T W L) (.seq (.call "parts_of" (.cons (.var 0) .nil))) [some x,some (.str w),none] S=some (.vs (ms.map Mc.d),S):=by
  obtain⟨L,rfl,_⟩:=up (n:=0) hL;obtain⟨d,S',h1,rfl,rfl⟩:Ev (ev (Za T W (L+1)) (.call "parts_of" (.cons (.var 0) .nil)) [some x,some (.str w),none] S) fun d S'=>d=.tup (ms.map Mc.d)/\S'=S:=
   Zn (Zb (Zc rfl (Zf (LM.JB mw.mt hf (by rw[hp];exact⟨rfl,rfl⟩)))))
  dsimp only[evI];rw[h1];rfl
 refine Ym (.vs (ms.map Mc.d)) (ms.map Mc.d) S hi (fun i e2 S2 acc=>(∃ a,e2=[none,a])/\i<=ms.length/\∃ ts,Gr S S2/\WKs (ms.take i) S2 ts/\ts.length=i/\acc=ts.map .ref) ⟨⟨none,rfl⟩,zero_le _,[],.refl,trivial,rfl,rfl⟩ (.inl rfl) ?_ ?_
 ·rintro i d e2 S2 acc hd ⟨⟨a,rfl⟩,hle,ts,g,hw,hl,rfl⟩;rw[getElem?_map] at hd;obtain⟨m,hm,rfl⟩:=zoM hd;obtain⟨hi',_⟩:=List.getElem?_eq_some_iff.1 hm;refine g_nm (Ys ⟨fun _=>Zn (Zb (Zc rfl (Zf (ih m (mem_of_getElem? hm) S2 _ fun t S' g' h=>⟨?_,⟨_,rfl⟩,hi',ts++[t],g.trans g',?_,?_,?_⟩)))),fun h=>by cases h⟩)
  ·rw[length_map,hl];show i<16777216;lia
  ·rw[List.take_add_one,hm];exact WKs.add h (hw.gr g')
  ·rw[length_append,hl];rfl
  ·rw[map_append];rfl
 ·rintro e2 S2 acc ⟨_,_,ts,g,h,_,rfl⟩;rw[length_map,take_length] at h;exact kk ts S2 g h
theorem Ze1(mw:Mw T){q s f:Str}{rows:List (List Str)}(tb:Tb q s f rows){t:Nat}(ht:S[t]?=some (.ins "TableWorks" []))(hl:t<S.length)(kk:∀ (sts:List Str) (o:Ob),Ns q s f rows sts->P .non ((S.set t (.ins "TableWorks" [("calm",.str q),("opening",.str s),("firing",.str f),("states",.tup (sts.map .str)),("news",.ref (S.length+1))]))++[o,.dt (rows.map kvR)])):Ev ((Za T W (k+2)).mt (Zh "TableWorks" "__init__") [.ref t,tabOf q s f rows] S) P:=
 Zc0 ⟨mw.mt.zt,mw.ni,mw.t0,mw.f1,mw.f2,mw.f3,mw.f4,mw.f5⟩ tb ht hl kk
theorem ZaV{C x:Str}{fs:List (Str×D)}{v:Ex}{env:En}{Q:Fl->Prop}(hf:T.fds.contains (C,x)=true)(hl:fs.length<1000)(he:env[0]?=some (some (.ref S.length)))(h:Ev (ev (Za T W k) v env (S++[.ins C fs])) fun d S1=>S1=S++[.ins C fs]/\Q (.nx env (S++[.ins C (putN x d fs)]))):Fo (evS (Za T W k) W (.fas (.var 0) x v) env (S++[.ins C fs])) Q:=by
 obtain⟨d,S1,h1,rfl,h2⟩:=h;refine Ut ⟨d,_,h1,Zc he ⟨S.length,C,fs,rfl,Yy,⟨Yp hf,hl⟩,?_⟩⟩;rw[Vd];exact h2
theorem Ze2(mw:Mw T){m:Mc}{p:Nat}{c:Int}(wk:WK m S p)(hd:m.dep<=k)(kk:P .non (S++[.ins "SlowedWorks" [("most",.int (c - 1)),("part",.ref p),("calm",.tup [mq m,.int 0])]])):Ev ((Za T W (k+1)).mt (Zh "SlowedWorks" "__init__") [.ref S.length,.int c,.ref p] (S++[.ins "SlowedWorks" []])) P:=by
 refine Ye mw.s0 rfl ?_;dsimp only[Vp];refine Ze (ZaV mw.g1 (by decide) rfl (ZR (Zc rfl (Zg (qe ⟨rfl,Zj (Ze (ZaV mw.g2 (by show 1<1000;decide) rfl (Zc rfl ⟨rfl,Zj (Ze (ZaV mw.g3 (by show 2<1000;decide) rfl ?_))⟩)))⟩)))))
 obtain⟨fs,g1,g2⟩:=(wk.gr (.one (o:=.ins "SlowedWorks" [("most",.int (c - 1)),("part",.ref p)]))).at;exact ZP (Zb (YA (Zc rfl ⟨p,_,_,rfl,g1,g2.1,Zf (Zak mw m hd (wk.gr .one) (Zb (Zg (Zf ⟨t2,rfl,Zj (Yd kk)⟩))))⟩)))
theorem get2{S:Sto}{a b o:Ob}:(S++[a,b,o])[S.length+1+1]?=some o:=by
 rw[getElem?_append_right (by lia),show S.length+1+1 - S.length=2 from by lia];rfl
theorem o_w{w v:Str}{env:En}{c:Cl}{a:Sms}{Q:Fl->Prop}{ss:Sms}(he:env[1]?=some (some (.str w)))(h:decide (w=v)=false)(kk:Fo (evSs c W ss env S) Q):Fo (evSs c W (.cons (.ifs (.cmp .Eq (.var 1) (.str v)) a .nil) ss) env S) Q:=
 Ze (Zu (ZA (Zc he (Yj (Z6 (t_bl (by rw[h];exact two_f (Yd (Zj kk)))))))))
theorem o_v{w:Str}{env:En}{c:Cl}{a:Sms}{Q:Fl->Prop}{ss:Sms}(he:env[1]?=some (some (.str w)))(kk:Fo (evSs c W a env S) (V7 c W ss Q)):Fo (evSs c W (.cons (.ifs (.cmp .Eq (.var 1) (.str w)) a .nil) ss) env S) Q:=
 Ze (Zu (ZA (Zc he (Yj (Z6 (t_bl (by rw[oAi rfl];exact two_t kk)))))))
theorem Zao(mw:Mw T):∀ (m:Mc) {L:Nat}{S:Sto}{P:D->Sto->Prop},m.ok->m.dep+3<=L->(∀ t S',Gr S S'->WK m S' t->P (.ref t) S')->Ev ((Za T W L).fn "works_of" [m.d] S) P
 | .tab q s f rows,L,S,P,hm,hL,kk=>by
  obtain⟨L,rfl⟩:∃ j,L=j+4:=⟨L - 4,by have:1+3<=L:=hL;lia⟩
  refine Zw mw.wo rfl ?_;dsimp only[JD];refine Ze (ZF (Zm (Zc rfl (Zg (Zp (d:=.str "table") rfl (g_nm (Zj (o_v rfl ?_))))))));refine Ze (Zy (qX (Zb (Zc rfl (Zf ?_)))));show Ev ((Za T W (L+2)).mt (Zh "TableWorks" "__init__") [.ref S.length,tabOf q s f rows] (S++[Ob.ins "TableWorks" []])) _;refine Ze1 mw hm Yy (by simp) (fun sts o hs=>?_);rw[Vd];refine⟨rfl,?_⟩;refine kk _ _ ⟨[_,o,_],by rw[append_assoc];rfl⟩ ⟨(S++[Ob.ins "TableWorks" []]).length+1,sts,by simp,?_,hs⟩
  rw[append_assoc,length_append];exact get2
 | .slo c m,L,S,P,hm,hL,kk=>by
  obtain⟨L,rfl⟩:∃ j,L=j+4:=⟨L - 4,by have:m.dep+1+3<=L:=hL;lia⟩
  have hL':m.dep+3<=L+3:=by have:m.dep+1+3<=L+4:=hL;lia
  have ih:=fun (S:Sto) (Q:D->Sto->Prop) (hQ:∀ t S',Gr S S'->WK m S' t->Q (.ref t) S')=>Zao mw m hm.2.2 hL' hQ;refine Zw mw.wo rfl ?_;dsimp only[JD];refine Ze (ZF (Zm (Zc rfl (Zg (Zp (d:=.str "slowed") rfl (g_nm (Zj (o_w rfl (by decide +kernel) (Ze (ZF (ZO ?_)))))))))));refine Z1 mw (ms:=[m]) (x:=(Mc.slo c m).d) (by lia) (Zb7 hm.1 hm.2.1) (by kernel_rfl) (le_succ 1) (fun n hn S Q hQ=>by obtain rfl:=List.mem_singleton.1 hn;exact ih S Q hQ) (fun ts S1 g1 h1=>?_)
  obtain⟨p,rfl⟩:∃ p,ts=[p]:=by cases ts with | nil=>exact h1.elim | cons p ts=>cases ts with | nil=>exact⟨p,rfl⟩ | cons _ _=>exact h1.2.elim
  refine g_nm (Zj (o_w rfl (by decide +kernel) (o_w rfl (by decide +kernel) (o_v rfl (Ze (Zy (qX (Zb (Zm (Zc rfl (Zg (Zp (d:=.int c) rfl (Zb (Zm (Zc rfl (Zg (ZB (d:=.ref p) rfl (Zf ?_))))))))))))))))));exact Ze2 (k:=L+1) mw h1.1 (by lia) ⟨rfl,kk _ _ (g1.trans .one) ⟨p,by simp,h1.1.gr .one⟩⟩
end
section
variable {T:Tab}{W k:Nat}{S:Sto}{P:D->Sto->Prop}{PD:D->Prop}
def WW(m:Mc)(S:Sto)(w:Nat):Prop:=∃ t,S[w]?=some (.ins "Works" [("inner",.ref t)])/\WK m S t
theorem get_set{S:Sto}{n t:Nat}{o a b:Ob}(hn:S[n]?=some a)(ht:S[t]?=some b)(h:a≠b):(S.set n o)[t]?=some b:=by
 rw[getElem?_set_ne (fun e=>h (by rw[e,ht] at hn;exact(oAk hn).symm))];exact ht
theorem WK.set{S:Sto}{n:Nat}{o:Ob}(hn:S[n]?=some (.ins "Works" [])):∀ {m:Mc}{t:Nat},WK m S t->WK m (S.set n o) t
 |.tab ..,t,⟨m,sts,h1,h2,h3⟩=>⟨m,sts,get_set hn h1 (fun e=>by injection e with _ e;cases e),get_set hn h2 (fun e=>by cases e),h3⟩
 |.slo c m,t,⟨p,h1,h2⟩=>⟨p,get_set hn h1 (fun e=>by injection e with _ e;cases e),WK.set hn h2⟩
theorem ZgW(mw:Mw T){m:Mc}(hm:m.ok)(hd:m.dep<=4)(kk:P .non S):Ev ((Za T W (k+12)).fn "need_machine" [m.d] S) P:=by
 refine Zw mw.nm rfl ?_;dsimp only[Vo];refine Ze (Zu (Yk (Zn (Zb (Zc rfl (Zf (LM.ZaR mw.mt (wd_m m hm) ?_)))))));rw[Zb8 m 4 hm hd];walk_at "go";exact kk
theorem ZgX(mw:Mw T){m:Mc}(hm:m.ok)(hd:m.dep<=4)(kk:∀ S',Gr S S'->WW m S' S.length->P (.ref S.length) S'):∀ {c:Cl},c=Za T W (k+14)->∀ {env:En}{e:Ex},ev c e env S=some (m.d,S)->Ev (ev c (.new "Works" (.cons e .nil)) env S) P:=by
 rintro c rfl env e he;refine qX (Zb ⟨_,_,he,Zf ?_⟩);show Ev ((Za T W (k+13)).mt (Zh "Works" "__init__") [.ref S.length,m.d] (S++[.ins "Works" []])) _;refine Ye mw.w0 rfl ?_;dsimp only[Vn];refine Ze (o_ex (Zn (Zb (Zc rfl (Zf (ZgW mw hm hd ?_))))));refine Zj (Ze (Ut (Zn (Zb (Zc rfl (Zf ?_))))));refine Zao mw m hm (by lia) (fun t S1 g1 h1=>?_);have hn:S1[S.length]?=some (.ins "Works" []):=g1.get Yy;refine Zc rfl ⟨S.length,"Works",[],rfl,hn,⟨Yp mw.f6,by show 0<1000;decide⟩,Zj (Yd ?_)⟩
 refine⟨rfl,?_⟩;obtain⟨z,hz⟩:=g1;refine kk _ ⟨Ob.ins "Works" [("inner",.ref t)]::z,?_⟩ ⟨t,?_,h1.set hn⟩
 ·rw[hz,append_assoc,List.set_append_right _ _ (by lia)];simp[putN]
 ·rw[getElem?_set_self (List.getElem?_eq_some_iff.1 hn).1];rfl
theorem Ze3(mw:Mw T){m:Mc}{w L:Nat}(tw:WW m S w)(hd:m.dep<=L){e:Ex}{env:En}(he:ev (Za T W (L+1)) e env S=some (.ref w,S))(kk:P (mq m) S):Ev (ev (Za T W (L+1)) (.mcl e "quiet" .nil) env S) P:=by
 obtain⟨t,h1,h2⟩:=tw;obtain⟨fs,g1,g2,g3,g4,g5⟩:=h2.at;refine YA ⟨_,_,he,w,"Works",_,rfl,h1,lk1,Zf (Ye mw.w1 rfl ?_)⟩;dsimp only[Ue];exact Ze (Zy (YA (JA (Zc rfl ⟨w,"Works",_,.ref t,rfl,h1,Yp mw.f6,lk5,t,_,_,rfl,g1,g2,Zf (Zak mw m hd h2 kk)⟩))))
theorem Ze4(mw:Mw T){m:Mc}{w L:Nat}(tw:WW m S w)(hd:m.dep<=L){e:Ex}{env:En}(he:ev (Za T W (L+1)) e env S=some (.ref w,S))(kk:P (ms m) S):Ev (ev (Za T W (L+1)) (.mcl e "start" .nil) env S) P:=by
 obtain⟨t,h1,h2⟩:=tw;obtain⟨fs,g1,g2,g3,g4,g5⟩:=h2.at;refine YA ⟨_,_,he,w,"Works",_,rfl,h1,lk2,Zf (Ye mw.w2 rfl ?_)⟩;dsimp only[Uf];exact Ze (Zy (YA (JA (Zc rfl ⟨w,"Works",_,.ref t,rfl,h1,Yp mw.f6,lk5,t,_,_,rfl,g1,g3,Zf (Zal mw m hd h2 kk)⟩))))
theorem Ze5(mw:Mw T){m:Mc}{w L:Nat}(tw:WW m S w)(hd:m.dep<=L){e a:Ex}{env:En}{x:D}(hx:Sd m x)(he:ev (Za T W (L+1)) e env S=some (.ref w,S))(ha:ev (Za T W (L+1)) a env S=some (x,S))(kk:P (.bl (mf m x)) S):Ev (ev (Za T W (L+1)) (.mcl e "fires" (.cons a .nil)) env S) P:=by
 obtain⟨t,h1,h2⟩:=tw;obtain⟨fs,g1,g2,g3,g4,g5⟩:=h2.at;refine YA ⟨_,_,he,w,"Works",_,rfl,h1,lk3,Zb ⟨_,_,ha,Zf (Ye mw.w3 rfl ?_)⟩⟩;dsimp only[Ug];exact Ze (Zy (YA (JA (Zc rfl ⟨w,"Works",_,.ref t,rfl,h1,Yp mw.f6,lk5,t,_,_,rfl,g1,g4,Zb (Zc rfl (Zf (Zam mw m hd h2 hx kk)))⟩))))
theorem Zc1(mw:Mw T){m:Mc}{w L:Nat}(hm:m.ok)(h30:m.dep<=30)(tw:WW m S w)(hd:m.dep+1<=L){e a b c:Ex}{env:En}{l o r:D}(hl:Nd m l)(ho:Sd m o)(hr:Nd m r)(he:ev (Za T W (L+1)) e env S=some (.ref w,S))(ha:ev (Za T W (L+1)) a env S=some (l,S))(hb:ev (Za T W (L+1)) b env S=some (o,S))(hc:ev (Za T W (L+1)) c env S=some (r,S))(kk:P (mb m l o r) S):Ev (ev (Za T W (L+1)) (.mcl e "behind" (.cons a (.cons b (.cons c .nil)))) env S) P:=by
 obtain⟨t,h1,h2⟩:=tw;obtain⟨fs,g1,g2,g3,g4,g5⟩:=h2.at;refine YA ⟨_,_,he,w,"Works",_,rfl,h1,lk4,Zb ⟨_,_,ha,Zb ⟨_,_,hb,Zb ⟨_,_,hc,Zf (Ye mw.w4 rfl ?_)⟩⟩⟩⟩;dsimp only[Jf];exact Ze (Zy (YA (JA (Zc rfl ⟨w,"Works",_,.ref t,rfl,h1,Yp mw.f6,lk5,t,_,_,rfl,g1,g5,Zb (Zc rfl (Zb (Zc rfl (Zb (Zc rfl (Zf (zg mw m hm h30 hd h2 hl ho hr kk)))))))⟩))))
end
end LU
namespace K06
open PySem L2 PF
noncomputable def F_law_parts:FI:=⟨1,1,(.cons (.ret (.ite (.cmp .In (.sub (.var 0) (.int (0))) (.tup (.cons (.str "later") (.cons (.str "slowed") .nil)))) (.slc (.var 0) (.yes (.int (2))) .no) (.slc (.var 0) (.yes (.int (1))) .no)))
  .nil)⟩
noncomputable def F_law_first:FI:=⟨2,3,(.cons (.ifs (.cmp .Eq (.sub (.var 0) (.int (0))) (.str "table")) (.cons (.ret (.sub (.var 0) (.var 1)))
  .nil) .nil)
  (.cons (.asg (.name 2) (.lv (.comp 2 [1] (.name 1) (.seq (.call "_law_parts" (.cons (.var 0) .nil))) .nil (.call "_law_first" (.cons (.var 1) (.cons (.var 2) .nil))))))
  (.cons (.ifs (.cmp .Eq (.sub (.var 0) (.int (0))) (.str "mirrored")) (.cons (.ret (.sub (.var 2) (.int (0))))
  .nil) .nil)
  (.cons (.ret (.ite (.cmp .In (.sub (.var 0) (.int (0))) (.tup (.cons (.str "later") (.cons (.str "slowed") .nil)))) (.tup (.cons (.sub (.var 2) (.int (0))) (.cons (.int (0)) .nil))) (.tup (.cons (.sub (.var 2) (.int (0))) (.cons (.sub (.var 2) (.int (1))) .nil)))))
  .nil))))⟩
noncomputable def F_law_fires:FI:=⟨2,4,(.cons (.ifs (.cmp .Eq (.sub (.var 0) (.int (0))) (.str "table")) (.cons (.ret (.cmp .Eq (.var 1) (.sub (.var 0) (.int (3)))))
  .nil) .nil)
  (.cons (.ifs (.cmp .Eq (.sub (.var 0) (.int (0))) (.str "mirrored")) (.cons (.ret (.call "_law_fires" (.cons (.sub (.var 0) (.int (1))) (.cons (.var 1) .nil))))
  .nil) .nil)
  (.cons (.ifs (.cmp .Eq (.sub (.var 0) (.int (0))) (.str "later")) (.cons (.ret (.and (.cmp .Eq (.sub (.var 1) (.int (1))) (.sub (.var 0) (.int (1)))) (.call "_law_fires" (.cons (.sub (.var 0) (.int (2))) (.cons (.sub (.var 1) (.int (0))) .nil)))))
  .nil) .nil)
  (.cons (.ifs (.cmp .Eq (.sub (.var 0) (.int (0))) (.str "slowed")) (.cons (.ret (.call "_law_fires" (.cons (.sub (.var 0) (.int (2))) (.cons (.sub (.var 1) (.int (0))) .nil))))
  .nil) .nil)
  (.cons (.par 2 3 (.call "_law_fires" (.cons (.sub (.var 0) (.int (1))) (.cons (.sub (.var 1) (.int (0))) .nil))) (.call "_law_fires" (.cons (.sub (.var 0) (.int (2))) (.cons (.sub (.var 1) (.int (1))) .nil))))
  (.cons (.ret (.ite (.cmp .Eq (.sub (.var 0) (.int (0))) (.str "both")) (.and (.var 2) (.var 3)) (.or (.var 2) (.var 3))))
  .nil))))))⟩
noncomputable def F_law_behind:FI:=⟨4,8,(.cons (.ifs (.cmp .Eq (.sub (.var 0) (.int (0))) (.str "table")) (.cons (.asg (.name 4) (.blt .tuple (.cons (.lv (.comp 2 [] (.name 1) (.seq (.tup (.cons (.var 1) (.cons (.var 2) (.cons (.var 3) .nil))))) .nil (.ite (.isN (.var 1)) (.str "") (.var 1)))) .nil)))
  (.cons (.ret (.sub (.bin .Add (.lv (.comp 2 [4] (.name 1) (.seq (.sub (.var 0) (.int (4)))) (.cons (.cmp .Eq (.slc (.var 1) .no (.yes (.int (3)))) (.var 2)) .nil) (.sub (.var 1) (.int (3))))) (.lv (.dsp (.cons (.var 2) .nil)))) (.int (0))))
  .nil)) .nil)
  (.cons (.ifs (.cmp .Eq (.sub (.var 0) (.int (0))) (.str "mirrored")) (.cons (.ret (.call "_law_behind" (.cons (.sub (.var 0) (.int (1))) (.cons (.var 3) (.cons (.var 2) (.cons (.var 1) .nil))))))
  .nil) .nil)
  (.cons (.ifs (.cmp .Eq (.sub (.var 0) (.int (0))) (.str "slowed")) (.cons (.ret (.call "_law_slow_behind" (.cons (.var 0) (.cons (.var 1) (.cons (.var 2) (.cons (.var 3) .nil))))))
  .nil) .nil)
  (.cons (.asg (.name 5) (.lv (.comp 2 [] (.name 1) (.seq (.tup (.cons (.var 1) (.cons (.var 2) (.cons (.var 3) .nil))))) .nil (.ite (.isN (.var 1)) .non (.sub (.var 1) (.int (0)))))))
  (.cons (.asg (.name 6) (.call "_law_behind" (.cons (.sub (.call "_law_parts" (.cons (.var 0) .nil)) (.int (0))) (.cons (.sub (.var 5) (.int (0))) (.cons (.sub (.var 5) (.int (1))) (.cons (.sub (.var 5) (.int (2))) .nil))))))
  (.cons (.ifs (.cmp .Eq (.sub (.var 0) (.int (0))) (.str "later")) (.cons (.ifs (.not (.call "_law_fires" (.cons (.sub (.var 0) (.int (2))) (.cons (.sub (.var 2) (.int (0))) .nil)))) (.cons (.ret (.tup (.cons (.var 6) (.cons (.int (0)) .nil))))
  .nil) .nil)
  (.cons (.ret (.tup (.cons (.var 6) (.cons (.ite (.cmp .Lt (.sub (.var 2) (.int (1))) (.sub (.var 0) (.int (1)))) (.bin .Add (.sub (.var 2) (.int (1))) (.int (1))) (.sub (.var 2) (.int (1)))) .nil))))
  .nil)) .nil)
  (.cons (.asg (.name 7) (.lv (.comp 2 [] (.name 1) (.seq (.tup (.cons (.var 1) (.cons (.var 2) (.cons (.var 3) .nil))))) .nil (.ite (.isN (.var 1)) .non (.sub (.var 1) (.int (1)))))))
  (.cons (.ret (.tup (.cons (.var 6) (.cons (.call "_law_behind" (.cons (.sub (.var 0) (.int (2))) (.cons (.sub (.var 7) (.int (0))) (.cons (.sub (.var 7) (.int (1))) (.cons (.sub (.var 7) (.int (2))) .nil))))) .nil))))
  .nil))))))))⟩
noncomputable def F_law_slow_behind:FI:=⟨4,8,(.cons (.asg (.name 4) (.tup (.cons (.call "_law_first" (.cons (.sub (.var 0) (.int (2))) (.cons (.int (1)) .nil))) (.cons (.int (0)) .nil))))
  (.cons (.asg (.name 5) (.lv (.comp 2 [4] (.name 1) (.seq (.tup (.cons (.var 1) (.cons (.var 2) (.cons (.var 3) .nil))))) (.cons (.cmp .NotIn (.var 1) (.tup (.cons .non (.cons (.var 2) .nil)))) .nil) (.var 1))))
  (.cons (.ifs (.cmp .Eq (.var 5) (.lv (.dsp .nil))) (.cons (.ret (.var 2))
  .nil) .nil)
  (.cons (.asg (.name 6) (.sub (.sub (.var 5) (.int (0))) (.int (1))))
  (.cons (.ifs (.cmp .Lt (.var 6) (.bin .Sub (.sub (.var 0) (.int (1))) (.int (1)))) (.cons (.ret (.ite (.cmp .Eq (.var 2) (.var 4)) (.var 2) (.tup (.cons (.sub (.var 2) (.int (0))) (.cons (.bin .Add (.var 6) (.int (1))) .nil)))))
  .nil) .nil)
  (.cons (.asg (.name 7) (.lv (.comp 2 [] (.name 1) (.seq (.tup (.cons (.var 1) (.cons (.var 2) (.cons (.var 3) .nil))))) .nil (.ite (.isN (.var 1)) .non (.sub (.var 1) (.int (0)))))))
  (.cons (.ret (.tup (.cons (.call "_law_behind" (.cons (.sub (.var 0) (.int (2))) (.cons (.sub (.var 7) (.int (0))) (.cons (.sub (.var 7) (.int (1))) (.cons (.sub (.var 7) (.int (2))) .nil))))) (.cons (.int (0)) .nil))))
  .nil)))))))⟩
noncomputable def F_law_state:FI:=⟨2,4,(.cons (.ifs (.cmp .Eq (.sub (.var 1) (.int (0))) (.str "table")) (.cons (.asg (.name 2) (.bin .Add (.bin .Add (.lv (.blt .list (.cons (.slc (.var 1) (.yes (.int (1))) (.yes (.int (4)))) .nil))) (.lv (.comp 2 [] (.name 1) (.seq (.sub (.var 1) (.int (4)))) .nil (.sub (.var 1) (.int (1)))))) (.lv (.comp 2 [] (.name 1) (.seq (.sub (.var 1) (.int (4)))) .nil (.sub (.var 1) (.int (3)))))))
  (.cons (.ret (.sub (.var 2) (.call "_law_pick" (.cons (.var 0) (.cons (.sub (.lv (.dsp (.cons (.int (3)) (.cons (.blt .len (.cons (.var 2) .nil)) .nil)))) (.call "_law_pick" (.cons (.var 0) (.cons (.int (2)) .nil)))) .nil)))))
  .nil)) .nil)
  (.cons (.ifs (.cmp .Eq (.sub (.var 1) (.int (0))) (.str "mirrored")) (.cons (.ret (.call "_law_state" (.cons (.var 0) (.cons (.sub (.var 1) (.int (1))) .nil))))
  .nil) .nil)
  (.cons (.asg (.name 3) (.call "_law_state" (.cons (.var 0) (.cons (.sub (.call "_law_parts" (.cons (.var 1) .nil)) (.int (0))) .nil))))
  (.cons (.ifs (.cmp .Eq (.sub (.var 1) (.int (0))) (.str "later")) (.cons (.ret (.tup (.cons (.var 3) (.cons (.sub (.lv (.dsp (.cons (.int (0)) (.cons (.int (0)) (.cons (.sub (.var 1) (.int (1))) (.cons (.call "_law_pick" (.cons (.var 0) (.cons (.bin .Add (.sub (.var 1) (.int (1))) (.int (1))) .nil))) .nil)))))) (.call "_law_pick" (.cons (.var 0) (.cons (.int (4)) .nil)))) .nil))))
  .nil) .nil)
  (.cons (.ifs (.cmp .Eq (.sub (.var 1) (.int (0))) (.str "slowed")) (.cons (.ret (.tup (.cons (.var 3) (.cons (.sub (.lv (.dsp (.cons (.int (0)) (.cons (.int (0)) (.cons (.bin .Sub (.sub (.var 1) (.int (1))) (.int (1))) (.cons (.call "_law_pick" (.cons (.var 0) (.cons (.sub (.var 1) (.int (1))) .nil))) .nil)))))) (.call "_law_pick" (.cons (.var 0) (.cons (.int (4)) .nil)))) .nil))))
  .nil) .nil)
  (.cons (.ret (.tup (.cons (.var 3) (.cons (.call "_law_state" (.cons (.var 0) (.cons (.sub (.var 1) (.int (2))) .nil))) .nil))))
  .nil))))))⟩
noncomputable def F_law_side:FI:=⟨2,3,(.cons (.asg (.name 2) (.call "_law_pick" (.cons (.var 0) (.cons (.int (5)) .nil))))
  (.cons (.ifs (.cmp .Eq (.var 2) (.int (0))) (.cons (.ret .non)
  .nil) .nil)
  (.cons (.ret (.ite (.cmp .Eq (.var 2) (.int (1))) (.call "_law_first" (.cons (.var 1) (.cons (.int (1)) .nil))) (.call "_law_state" (.cons (.var 0) (.cons (.var 1) .nil)))))
  .nil)))⟩
noncomputable def F_law_same:FI:=⟨2,2,(.cons (.ifs (.isi (.var 1) "tuple") (.cons (.ifs (.or (.not (.isi (.var 0) "tuple")) (.cmp .NotEq (.blt .len (.cons (.var 0) .nil)) (.blt .len (.cons (.var 1) .nil)))) (.cons (.ret (.bl false))
  .nil) .nil)
  (.cons (.ret (.blt .all (.cons (.lv (.comp 3 [] (.tup (.cons (.name 1) (.cons (.name 2) .nil))) (.zip (.var 0) (.var 1)) .nil (.call "_law_same" (.cons (.var 1) (.cons (.var 2) .nil))))) .nil)))
  .nil)) .nil)
  (.cons (.ifs (.isi (.var 1) "str") (.cons (.ret (.and (.isi (.var 0) "str") (.cmp .Eq (.var 0) (.var 1))))
  .nil) .nil)
  (.cons (.ret (.and (.isi (.var 0) "int") (.and (.not (.isi (.var 0) "bool")) (.cmp .Eq (.var 0) (.var 1)))))
  .nil)))⟩
noncomputable def F_law_right:FI:=⟨4,11,(.cons (.ifs (.or (.not (.call "_law_same" (.cons (.mcl (.var 2) "quiet" .nil) (.cons (.call "_law_first" (.cons (.var 1) (.cons (.int (1)) .nil))) .nil)))) (.not (.call "_law_same" (.cons (.mcl (.var 2) "start" .nil) (.cons (.call "_law_first" (.cons (.var 1) (.cons (.int (2)) .nil))) .nil))))) (.cons (.ret (.bl false))
  .nil) .nil)
  (.cons (.fr (.name 4) (.rng1 (.var 3)) (.cons (.asg (.name 5) (.tup (.cons (.call "_law_side" (.cons (.var 0) (.cons (.var 1) .nil))) (.cons (.call "_law_side" (.cons (.var 0) (.cons (.var 1) .nil))) .nil))))
  (.cons (.asg (.name 6) (.ite (.cmp .Eq (.call "_law_pick" (.cons (.var 0) (.cons (.int (4)) .nil))) (.int (0))) (.call "_law_first" (.cons (.var 1) (.cons (.bin .Add (.int (1)) (.call "_law_pick" (.cons (.var 0) (.cons (.int (2)) .nil)))) .nil))) (.call "_law_state" (.cons (.var 0) (.cons (.var 1) .nil)))))
  (.cons (.asg (.name 7) (.call "_law_behind" (.cons (.var 1) (.cons (.sub (.var 5) (.int (0))) (.cons (.var 6) (.cons (.sub (.var 5) (.int (1))) .nil))))))
  (.cons (.fr (.name 8) (.rng1 (.int (2))) (.cons (.ifs (.not (.call "_law_same" (.cons (.mcl (.var 2) "behind" (.cons (.sub (.var 5) (.int (0))) (.cons (.var 6) (.cons (.sub (.var 5) (.int (1))) .nil)))) (.cons (.var 7) .nil)))) (.cons (.ret (.bl false))
  .nil) .nil)
  .nil))
  (.cons (.fr (.name 9) (.seq (.tup (.cons (.var 6) (.cons (.var 7) .nil)))) (.cons (.asg (.name 10) (.mcl (.var 2) "fires" (.cons (.var 9) .nil)))
  (.cons (.ifs (.or (.not (.isi (.var 10) "bool")) (.cmp .NotEq (.var 10) (.call "_law_fires" (.cons (.var 1) (.cons (.var 9) .nil))))) (.cons (.ret (.bl false))
  .nil) .nil)
  .nil)))
  .nil))))))
  (.cons (.ret (.bl true))
  .nil)))⟩
noncomputable def Flaw:FI:=⟨1,6,(.cons (.fr (.name 1) (.rng1 (.bin .Add (.int (1)) (.blt .min (.cons (.int (6)) (.cons (.blt .len (.cons (.var 0) .nil)) .nil))))) (.cons (.asg (.name 2) (.call "_law_left" (.cons (.var 0) (.cons (.var 1) .nil))))
  (.cons (.asg (.name 3) (.call "_law_table" (.cons (.var 2) (.cons (.int (4)) (.cons (.int (40)) .nil)))))
  (.cons (.fr (.name 4) (.seq (.tup (.cons (.int (1)) (.cons (.int (2)) (.cons (.int (3)) (.cons (.int (60)) (.cons (.bin .Add (.int (1)) (.call "_law_pick" (.cons (.var 2) (.cons (.int (60)) .nil)))) .nil))))))) (.cons (.asg (.name 5) (.tup (.cons (.str "slowed") (.cons (.var 4) (.cons (.var 3) .nil)))))
  (.cons (.ifs (.not (.call "_law_right" (.cons (.var 2) (.cons (.var 5) (.cons (.new "Works" (.cons (.var 5) .nil)) (.cons (.int (60)) .nil)))))) (.cons (.ret (.bl false))
  .nil) .nil)
  .nil)))
  .nil))))
  (.cons (.ret (.bl true))
  .nil))⟩
noncomputable def T:Tab:=⟨[("is_whole",LM.J6),("is_between",LM.YR),("is_tuple_of",LZ.Ve),("is_name",LZ.Vf),("is_neighbour",LZ.J3),("is_table_row",LZ.rowF),("are_table_rows",LZ.Vg),("is_table",LZ.J4),("names_in",LW.YD),("has_form",LM.Vj),("parts_of",LM.J7),("is_machine_within",LM.YS),("is_machine",LM.YT),("need_machine",LU.Vo),("part_at",LU.Jg),("works_of",LU.JD),("_law_cell",LW.Vk),("_law_left",LW.Vl),("_law_pick",LW.Vm),("_law_names",LW.Ua),("_law_may",LW.mayF),("_law_table",LW.tblF),("_law_parts",F_law_parts),("_law_first",F_law_first),("_law_fires",F_law_fires),("_law_behind",F_law_behind),("_law_slow_behind",F_law_slow_behind),("_law_state",F_law_state),("_law_side",F_law_side),("_law_same",F_law_same),("_law_right",F_law_right),("law",Flaw)],[("LONGEST_NAME",.int (8)),("NOBODY",.str ""),("DEEPEST",.int (4)),("MOST_COUNT",.int (60))],[("LEAST_COUNT",[("later",0),("slowed",1)]),("PARTS",[("mirrored",1),("later",1),("slowed",1),("both",2),("either",2)])],[("TableWorks","calm"),("TableWorks","opening"),("TableWorks","firing"),("TableWorks","states"),("TableWorks","news"),("Works","inner"),("SlowedWorks","most"),("SlowedWorks","part"),("SlowedWorks","calm")],[("TableWorks.__init__",LW.Uv),("TableWorks.quiet",LW.Ub),("TableWorks.start",LW.Uc),("TableWorks.fires",LW.Ud),("TableWorks.behind",LW.Je),("SlowedWorks.__init__",LU.Vp),("SlowedWorks.quiet",LU.Uh),("SlowedWorks.start",LU.Ui),("SlowedWorks.fires",LU.Uj),("SlowedWorks.behind",LU.Jh),("Works.__init__",LW.Vn),("Works.quiet",LW.Ue),("Works.start",LW.Uf),("Works.fires",LW.Ug),("Works.behind",LW.Jf)]⟩
theorem ZaW:T.lookup ("is_whole":Str)=some LM.J6:=by kernel_rfl
theorem zi:T.lookup ("is_between":Str)=some LM.YR:=by kernel_rfl
theorem W3:T.lookup ("is_tuple_of":Str)=some LZ.Ve:=by kernel_rfl
theorem Zb9:T.lookup ("is_name":Str)=some LZ.Vf:=by kernel_rfl
theorem Wp:T.lookup ("is_neighbour":Str)=some LZ.J3:=by kernel_rfl
theorem Wq:T.lookup ("is_table_row":Str)=some LZ.rowF:=by kernel_rfl
theorem VP:T.lookup ("are_table_rows":Str)=some LZ.Vg:=by kernel_rfl
theorem ZaX:T.lookup ("is_table":Str)=some LZ.J4:=by kernel_rfl
theorem ZaY:T.lookup ("names_in":Str)=some LW.YD:=by kernel_rfl
theorem ZaZ:T.lookup ("has_form":Str)=some LM.Vj:=by kernel_rfl
theorem Za0:T.lookup ("parts_of":Str)=some LM.J7:=by kernel_rfl
theorem UA:T.lookup ("is_machine_within":Str)=some LM.YS:=by kernel_rfl
theorem zj:T.lookup ("is_machine":Str)=some LM.YT:=by kernel_rfl
theorem Wr:T.lookup ("need_machine":Str)=some LU.Vo:=by kernel_rfl
theorem Zca:T.lookup ("part_at":Str)=some LU.Jg:=by kernel_rfl
theorem Za1:T.lookup ("works_of":Str)=some LU.JD:=by kernel_rfl
theorem Za2:T.lookup ("_law_cell":Str)=some LW.Vk:=by kernel_rfl
theorem Za3:T.lookup ("_law_left":Str)=some LW.Vl:=by kernel_rfl
theorem Za4:T.lookup ("_law_pick":Str)=some LW.Vm:=by kernel_rfl
theorem zH:T.lookup ("_law_names":Str)=some LW.Ua:=by kernel_rfl
theorem Zcb:T.lookup ("_law_may":Str)=some LW.mayF:=by kernel_rfl
theorem zI:T.lookup ("_law_table":Str)=some LW.tblF:=by kernel_rfl
theorem VB:T.lookup ("_law_first":Str)=some F_law_first:=by kernel_rfl
theorem VC:T.lookup ("_law_fires":Str)=some F_law_fires:=by kernel_rfl
theorem UZ:T.lookup ("_law_behind":Str)=some F_law_behind:=by kernel_rfl
theorem Vs:T.lookup ("_law_slow_behind":Str)=some F_law_slow_behind:=by kernel_rfl
theorem VD:T.lookup ("_law_state":Str)=some F_law_state:=by kernel_rfl
theorem Za5:T.lookup ("_law_side":Str)=some F_law_side:=by kernel_rfl
theorem Za6:T.lookup ("_law_same":Str)=some F_law_same:=by kernel_rfl
theorem zJ:T.lookup ("_law_right":Str)=some F_law_right:=by kernel_rfl
theorem Za7:T.lookup ("law":Str)=some Flaw:=by kernel_rfl
theorem Vt:T.mts.lookup (Zh "TableWorks" "__init__")=some LW.Uv:=by kernel_rfl
theorem U0:T.mts.lookup (Zh "TableWorks" "quiet")=some LW.Ub:=by kernel_rfl
theorem U1:T.mts.lookup (Zh "TableWorks" "start")=some LW.Uc:=by kernel_rfl
theorem U2:T.mts.lookup (Zh "TableWorks" "fires")=some LW.Ud:=by kernel_rfl
theorem UB:T.mts.lookup (Zh "TableWorks" "behind")=some LW.Je:=by kernel_rfl
theorem U3:T.mts.lookup (Zh "SlowedWorks" "__init__")=some LU.Vp:=by kernel_rfl
theorem UC:T.mts.lookup (Zh "SlowedWorks" "quiet")=some LU.Uh:=by kernel_rfl
theorem UD:T.mts.lookup (Zh "SlowedWorks" "start")=some LU.Ui:=by kernel_rfl
theorem UE:T.mts.lookup (Zh "SlowedWorks" "fires")=some LU.Uj:=by kernel_rfl
theorem Uw:T.mts.lookup (Zh "SlowedWorks" "behind")=some LU.Jh:=by kernel_rfl
theorem zk:T.mts.lookup (Zh "Works" "__init__")=some LW.Vn:=by kernel_rfl
theorem W4:T.mts.lookup (Zh "Works" "quiet")=some LW.Ue:=by kernel_rfl
theorem W5:T.mts.lookup (Zh "Works" "start")=some LW.Uf:=by kernel_rfl
theorem W6:T.mts.lookup (Zh "Works" "fires")=some LW.Ug:=by kernel_rfl
theorem Ws:T.mts.lookup (Zh "Works" "behind")=some LW.Jf:=by kernel_rfl
abbrev Sc(st:Stmt):Prop:=Yl (namesOf st) (Zq st) (Zo st)
abbrev Dv(st:Stmt)(F:FI):Prop:=∀ (k:Nat) (X:Cx),RX X T 40 k (Zo st).names (namesOf st)->PSs X (ZJ st) (tSt X.K (evSs (Za T 40 k) 40 F.body))
open PySem L2 PF LC LZ LW LU
open LM (at_0)
theorem wt:Wt T:=⟨Za2,Za3,Za4,zH,Zcb,zI⟩
theorem zt:Zt T:=⟨W3,Zb9,Wp,Wq,VP,ZaX,by kernel_rfl,by kernel_rfl⟩
theorem mt:LM.Mt T:=⟨zt,ZaW,zi,ZaZ,Za0,UA,zj,by kernel_rfl,by kernel_rfl,by kernel_rfl,by kernel_rfl⟩
section
variable {k W:Nat}{S:Sto}{P:D->Sto->Prop}
theorem at0{w:Str}{xs:List D}{i:Nat}{env:En}{c:Cl}(he:env[i]?=some (some (.tup (.str w::xs))))(kk:P (.str w) S):Ev (ev c (.sub (.var i) (.int (0))) env S) P:=Zm (Zc he (Zg (Zp at_0 kk)))
theorem o_k{w v:Str}{xs:List D}{i:Nat}{env:En}{c:Cl}{a ss:Sms}{Q:Fl->Prop}(he:env[i]?=some (some (.tup (.str w::xs))))(h:decide (w=v)=false)(kk:Fo (evSs c W ss env S) Q):Fo (evSs c W (.cons (.ifs (.cmp .Eq (.sub (.var i) (.int (0))) (.str v)) a .nil) ss) env S) Q:=
 Ze (Zu (ZA (at0 he (Yj (Z6 (t_bl (by rw[h];exact two_f (Yd (Zj kk)))))))))
theorem o_l{w:Str}{xs:List D}{i:Nat}{env:En}{c:Cl}{a ss:Sms}{Q:Fl->Prop}(he:env[i]?=some (some (.tup (.str w::xs))))(kk:Fo (evSs c W a env S) (V7 c W ss Q)):Fo (evSs c W (.cons (.ifs (.cmp .Eq (.sub (.var i) (.int (0))) (.str w)) a .nil) ss) env S) Q:=
 Ze (Zu (ZA (at0 he (Yj (Z6 (t_bl (by rw[oAi rfl];exact two_t kk)))))))
noncomputable def pts:Mc->List Mc
 |.tab ..=>[]
 |.slo _ m=>[m]
theorem JB:∀ (m:Mc) {L:Nat},(∀ q s f rows,m≠.tab q s f rows)->1<=L->P (.tup ((pts m).map Mc.d)) S->Ev ((Za T 40 L).fn "_law_parts" [m.d] S) P
 |.tab q s f rows,L,h,_,kk=>absurd rfl (h q s f rows)
 | .slo c m,L,_,hL,kk=>by
  obtain⟨L,rfl,_⟩:=up (n:=0) hL;exact⟨_,S,show (Za T 40 (L+1)).fn "_law_parts" [.tup [.str "slowed",.int c,m.d]] S=some (.tup [m.d],S) by kernel_rfl,kk⟩
theorem zm:∀ (m:Mc) {L:Nat}{d:D}{P:D->Sto->Prop},m.dep<=L->Sd m d->P (.bl (mf m d)) S->Ev ((Za T 40 L).fn "_law_fires" [m.d,d] S) P
 | .tab q s f rows,L,d,P,hL,⟨x,hd,_⟩,kk=>by
  subst hd;obtain⟨L,rfl,_⟩:=up (n:=0) hL;refine Zw VC rfl ?_;dsimp only[F_law_fires];refine o_l (w:="table") (xs:=[.str q,.str s,.str f,.tup (rows.map rowD)]) rfl (Ze (Zy (ZA (Zc rfl (Zm (Zc rfl (Zg (Zp (d:=.str f) rfl (Z6 ?_)))))))));have e:decide (x=f)=mf (.tab q s f rows) (.str x):=decide_eq_decide.2 ⟨fun h=>by rw[h],D.str.inj⟩;rw[e];exact kk
 | .slo c m,L,d,P,hL,⟨a,j,hd,ha,_⟩,kk=>by
  subst hd;obtain⟨L,rfl,hj⟩:=up hL;refine Zw VC rfl ?_;dsimp only[F_law_fires];exact o_k (w:="slowed") (xs:=[.int c,m.d]) rfl (by decide +kernel) (o_k (w:="slowed") (xs:=[.int c,m.d]) rfl (by decide +kernel) (o_k (w:="slowed") (xs:=[.int c,m.d]) rfl (by decide +kernel) (o_l (w:="slowed") (xs:=[.int c,m.d]) rfl (Ze (Zy (Zn (Zb (Zm (Zc rfl (Zg (Zp (d:=m.d) rfl (Zb (e_at rfl rfl (Zf (zm m hj ha kk)))))))))))))))
end
open LM (at_0)
section
variable {k W:Nat}{S:Sto}{P:D->Sto->Prop}
theorem Zaq{α:Type}(ms:List α)(f g:α->D){c:Cl}{env rest:En}{caps:List Nat}{it:Itx}{elt:Ex}{R:List D->Sto->Prop}(hr:(caps.map fun i=>(env[i]?).join)=rest)(hi:evI c it env S=some (.vs (ms.map f),S))(hl:ms.length<=1000)
  (h1:∀ a∈ms,∀ P:D->Sto->Prop,P (g a) S->Ev (ev c elt (none::some (f a)::rest) S) P)(kk:R (ms.map g) S):Es (evL c (.comp 2 caps (.name 1) it .nil elt) env S) R:=by
 refine Ym (.vs (ms.map f)) (ms.map f) S hi (fun i e2 S2 acc=>(∃ a,e2=none::a::rest)/\S2=S/\i<=ms.length/\acc=(ms.take i).map g) ⟨⟨none,by unfold ZG;rw[hr];rfl⟩,rfl,zero_le _,rfl⟩ (.inl rfl) ?_ ?_
 ·rintro i d e2 S2 acc hd ⟨⟨a,rfl⟩,rfl,hle,rfl⟩;rw[getElem?_map] at hd;obtain⟨m,hm,rfl⟩:=zoM hd;obtain⟨hi',_⟩:=List.getElem?_eq_some_iff.1 hm;refine g_nm (Ys ⟨fun _=>h1 m (mem_of_getElem? hm) _ ⟨?_,⟨_,rfl⟩,rfl,hi',?_⟩,fun z=>by cases z⟩)
  ·rw[length_map,length_take];show _<16777216;lia
  ·rw[List.take_add_one,hm,map_append];rfl
 ·rintro e2 S2 acc ⟨_,rfl,_,rfl⟩;rw[length_map,take_length];exact kk
theorem Zcc(m:Mc){L i:Nat}{env:En}(h:∀ q s f rows,m≠.tab q s f rows)(hL:1<=L)(he:env[i]?=some (some m.d)):evI (Za T 40 L) (.seq (.call "_law_parts" (.cons (.var i) .nil))) env S=some (.vs ((pts m).map Mc.d),S):=by
 obtain⟨d,S',h1,rfl,rfl⟩:Ev (ev (Za T 40 L) (.call "_law_parts" (.cons (.var i) .nil)) env S) fun d S'=>d=.tup ((pts m).map Mc.d)/\S'=S:=
  Zn (Zb (Zc he (Zf (JB m h hL ⟨rfl,rfl⟩))))
 dsimp only[evI];rw[h1];rfl
noncomputable def mz(z:Bool)(m:Mc):D:=if z then mq m else ms m
noncomputable def nz(z:Bool):Int:=if z then 1 else 2
theorem mz_2{z:Bool}{c:Int}{m:Mc}:mz z (.slo c m)=.tup [mz z m,.int 0]:=by cases z<;>rfl
theorem c_ls{w:Str}{b:Bool}{c:Cl}{env:En}{xs:List D}(he:env[0]?=some (some (.tup (.str w::xs))))(h:inD S (.str w) (.tup [.str "later",.str "slowed"])=some b)(kk:P (.bl b) S):Ev (ev c (.cmp .In (.sub (.var 0) (.int (0))) (.tup (.cons (.str "later") (.cons (.str "slowed") .nil)))) env S) P:=
 ZA (at0 he (ZP (Zb (Yj (Zb (Yj (Zf ⟨t2,⟨b,h,kk⟩⟩)))))))
theorem YE(z:Bool):∀ (m:Mc) {L:Nat}{P:D->Sto->Prop},m.dep+1<=L->P (mz z m) S->Ev ((Za T 40 L).fn "_law_first" [m.d,.int (nz z)] S) P
 | .tab q s f rows,L,P,hL,kk=>by
  obtain⟨L,rfl,_⟩:=up (n:=0) (Nat.le_of_succ_le hL);refine Zw VB rfl ?_;dsimp only[F_law_first];refine o_l (w:="table") (xs:=[.str q,.str s,.str f,.tup (rows.map rowD)]) rfl (Ze (Zy (Zm (Zc rfl (Zc rfl ?_)))));cases z with
  |true=>exact Zp (d:=.str q) rfl kk
  |false=>exact Zp (d:=.str s) rfl kk
 | .slo c m,L,P,hL,kk=>by
  obtain⟨L,rfl,hj⟩:=up hL;have hL1:1<=L:=oAq (Nat.le_add_left _ _) hj;have ih:=fun (P:D->Sto->Prop) (h:P (mz z m) S)=>YE z m hj h;rw[mz_2] at kk;refine Zw VB rfl ?_;dsimp only[F_law_first];refine o_k (w:="slowed") (xs:=[.int c,m.d]) rfl (by decide +kernel) (Ze (ZF (ZO (Zaq [m] Mc.d (mz z) (rest:=[some (.int (nz z))]) rfl (Zcc (.slo c m) (fun _ _ _ _=>by intro z;cases z) hL1 rfl) (by show 1<=1000;decide) (fun a ha P h=>?_) ?_))))
  ·obtain rfl:=List.mem_singleton.1 ha;exact Zn (Zb (Zc rfl (Zb (Zc rfl (Zf (ih P h))))))
  exact g_nm (Zj (o_k (w:="slowed") (xs:=[.int c,m.d]) rfl (by decide +kernel) (Ze (Zy (Y3 (c_ls (w:="slowed") (b:=true) (xs:=[.int c,m.d]) rfl (by kernel_rfl) (t_bl (two_t (ZP (Zb (Zm (Zc rfl (Zg (ZB (d:=mz z m) rfl (Zb (Zg (Zf ⟨t2,kk⟩)))))))))))))))))
end
open LM (at_0)
theorem ok3{a b c:Str}(ha:PyData.strOk a=true)(hb:PyData.strOk b=true)(hc:PyData.strOk c=true):okD (.tup [.str a,.str b,.str c])=true:=by
 simp[okD,YU,Yh,toP,toPs,PyData.canLay0,PyData.canLayAll0,PyData.depth,PyData.depthAll,ha,hb,hc]
theorem eq3{a b c x y z:Str}:PyData.eqv (toP (.tup [.str a,.str b,.str c])) (toP (.tup [.str x,.str y,.str z]))=decide (a=x/\b=y/\c=z):=by
 simp[toP,toPs,PyData.eqv,PyData.eqvAll];rfl
theorem nbOk{x:Str}(h:isNb (.str x)=true):PyData.strOk x=true:=by
 have h:(decide (x="")||(decide (1<=x.length)&&decide (x.length<=8)&&x.cps.toList.all fun c=>decide (97<=c)&&decide (c<=122)))=true:=h;unfold PyData.strOk;rw[or_eq_true] at h
 rcases h with h | h
 ·rw[oAj h];decide +kernel
 ·simp only[and_eq_true,all_eq_true,decide_eq_true_eq] at h;rw[<- Array.all_toList,all_eq_true];intro c hc;have:=h.2 c hc;exact oAi (by lia)
theorem Zjf{S:Sto}{a b c x y z:Str}{PB:Bool->Prop}(ha:isNb (.str a)=true)(hb:isNb (.str b)=true)(hc:isNb (.str c)=true)(hx:isNb (.str x)=true)(hy:isNb (.str y)=true)(hz:isNb (.str z)=true)(k:PB (decide (a=x/\b=y/\c=z))):Op (cmpop S .Eq (.tup [.str a,.str b,.str c]) (.tup [.str x,.str y,.str z])) PB:=by
 refine⟨_,?_,k⟩;show eqD S _ _=_;unfold eqD;rw[if_neg (show ¬ W9 (.tup [.str a,.str b,.str c]) (.tup [.str x,.str y,.str z])=true from by intro h;cases h),ok3 (nbOk ha) (nbOk hb) (nbOk hc),ok3 (nbOk hx) (nbOk hy) (nbOk hz),if_pos (show (true&&true)=true from rfl),eq3]
noncomputable def lawT(l o r:Str):List (List Str)->List Str
 |[]=>[]
 |[a,b,c,n]::rest=>if a=l/\b=o/\c=r then n::lawT l o r rest else lawT l o r rest
 |_::rest=>lawT l o r rest
abbrev R4(rows:List (List Str)):Prop:=∀ row∈rows,∃ l o r n:Str,row=[l,o,r,n]/\isNb (.str l)=true/\isNb (.str o)=true/\isNb (.str r)=true/\isN (.str n)=true
theorem zn{l o r:Str}:∀ (a b:List (List Str)),R4 a->lawT l o r (a++b)=lawT l o r a++lawT l o r b
 |[],b,_=>rfl
 | row::a,b,h=>by
  obtain⟨x,y,z,n,rfl,_⟩:=h row (oAn ..);rw[List.cons_append,lawT,lawT,zn a b (fun w hw=>h w (oAm _ hw))];split<;>rfl
theorem zo{x:Str}(h:isN (.str x)=true):isNb (.str x)=true:=by
 show (decide (x="")||isN (.str x))=true;rw[h,Bool.or_true]
theorem ZgY{x:Str}(h:isN (.str x)=true):x≠"":=by
 have h:(decide (1<=x.length)&&decide (x.length<=8)&&x.cps.toList.all fun c=>decide (97<=c)&&decide (c<=122))=true:=h;simp only[and_eq_true,decide_eq_true_eq] at h;intro e;rw[e] at h;exact absurd h.1.1 (by decide +kernel)
theorem Zar{l own r:Str}{o:D}:∀ rows:List (List Str),R4 rows->(valD (rows.map kvR) [kO l,.inr own,kO r]).getD o=match lawT l own r rows with | []=>o | n::_=>.str n
 |[],_=>rfl
 | row::rows,h=>by
  obtain⟨x,y,z,n,rfl,_⟩:=h row (oAn ..);have ih:=Zar (l:=l) (own:=own) (r:=r) (o:=o) rows (fun w hw=>h w (oAm _ hw));rw[map_cons,lawT];unfold valD at ih ⊢;rw[find?_cons];show Option.getD (Option.map (fun x:List Key×D=>x.2) (match decide ([kO x,Key.inr y,kO z]=[kO l,.inr own,kO r]) with | true=>some (([kO x,Key.inr y,kO z],D.str n):List Key×D) | false=>(rows.map kvR).find? fun kv=>decide (kv.1=[kO l,.inr own,kO r]))) o=_;by_cases hc:x=l/\y=own/\z=r
  ·rw[if_pos hc,oAi (by rw[hc.1,hc.2.1,hc.2.2])];rfl
  ·rw[if_neg hc,oAh (fun e=>hc (by
    injection e with e1 e
    injection e with e2 e
    injection e with e3 _
    exact⟨Wf e1,Key.inr.inj e2,Wf e3⟩))]
   exact ih
inductive Nt:D->Str->Prop where
 |s (x:Str) (h:isN (.str x)=true):Nt (.str x) x
 |n:Nt .non ""
theorem Nt.key{d:D}{x:Str}(h:Nt d x):key1 d=kO x:=by
 cases h with
 | s x h=>
  unfold kO;rw[if_neg (ZgY h)];rfl
 |n=>rfl
theorem Nt.nb{d:D}{x:Str}(h:Nt d x):isNb (.str x)=true:=by
 cases h with
 |s x h=>exact zo h
 |n=>decide +kernel
theorem Zdy{q s f:Str}{rows:List (List Str)}{d:D}(h:Nd (.tab q s f rows) d):∃ x,Nt d x:=by
 rcases h with rfl | ⟨x,rfl,hx⟩
 ·exact⟨_,.n⟩
 ·exact⟨_,.s x hx⟩
section
variable {k:Nat}{S:Sto}{P:D->Sto->Prop}{PD:D->Prop}{q s f x:Str}{rows:List (List Str)}{c j:Int}
theorem Jn{l r:D}{lt rt own:Str}(nl:Nt l lt)(nr:Nt r rt):ev (Za T 40 k) (.blt .tuple (.cons (.lv (.comp 2 [] (.name 1) (.seq (.tup (.cons (.var 1) (.cons (.var 2) (.cons (.var 3) .nil))))) .nil (.ite (.isN (.var 1)) (.str "") (.var 1)))) .nil)) [some (tabOf q s f rows),some l,some (.str own),some r,none,none,none,none] S=some (.tup [.str lt,.str own,.str rt],S):=by
 cases nl<;>cases nr<;>kernel_rfl
theorem zp{xs ys:List D}(hz:xs.length+ys.length<=line)(k:PD (.lst (xs++ys))):Op (binop S .Add (.lst xs) (.lst ys)) PD:=
 ⟨_,by show ((if xs.length+ys.length<=line then some (xs++ys) else none).map D.lst)=_;rw[if_pos hz];rfl,k⟩
theorem ZgZ{xs:List Str}{o:D}(kk:PD (match xs with | []=>o | x::_=>.str x)):Op (subD S (.lst (xs.map D.str++[o])) (.int 0)) PD:=by
 cases xs with
 |nil=>exact ZB (Yv (j:=0) rfl) kk
 |cons x xs=>exact ZB (Yv (j:=0) rfl) kk
theorem bh_t{l r:D}{own:Str}(tb:Tb q s f rows)(hl:Nd (.tab q s f rows) l)(hr:Nd (.tab q s f rows) r)(ho:isN (.str own)=true)(kk:P (mb (.tab q s f rows) l (.str own) r) S):Ev ((Za T 40 (k+1)).fn "_law_behind" [tabOf q s f rows,l,.str own,r] S) P:=by
 obtain⟨lt,nl⟩:=Zdy hl;obtain⟨rt,nr⟩:=Zdy hr;obtain⟨_,_,_,_,hrr,_⟩:=Y7 tb.tab;have h4:R4 rows:=fun row h=>by obtain⟨l,o,r,n,e,g1,g2,g3,g4,_⟩:=hrr row h;exact⟨l,o,r,n,e,g1,zo g2,g3,g4⟩
 have kk:P ((valD (rows.map kvR) [key1 l,.inr own,key1 r]).getD (.str own)) S:=kk;rw[nl.key,nr.key,Zar rows h4] at kk;refine Zw UZ rfl ?_;dsimp only[F_law_behind];refine Ze (Zu (ZA (Zm (Zc rfl (Zg (Zp (d:=.str "table") rfl (Yj (Z6 (t_bl ?_)))))))));rw[oAi rfl];refine two_t (Ze (ZF ⟨_,_,Jn nl nr,g_nm (Zj (Ze (Zy (Zm (ZR (ZO ?_))))))⟩));refine Ym (.vs (rows.map rowD)) (rows.map rowD) S (by dsimp only[evI];rfl) (fun i e2 S2 acc=>(∃ t,e2=[none,t,some (.tup [.str lt,.str own,.str rt])])/\S2=S/\acc.length<=i/\acc=(lawT lt own rt (rows.take i)).map D.str) ⟨⟨none,rfl⟩,rfl,zero_le _,rfl⟩ (.inl rfl) ?_ ?_
 ·rintro i d e2 S2 acc hd ⟨⟨t,rfl⟩,rfl,hlen,rfl⟩;rw[getElem?_map] at hd;obtain⟨row,hx,rfl⟩:=zoM hd;have hlt:=(List.getElem?_eq_some_iff.1 hx).1;have hfew:=tb.few;obtain⟨a,b,c,n,rfl,g1,g2,g3,g4⟩:=h4 row (mem_of_getElem? hx);have et:lawT lt own rt (rows.take (i+1))=lawT lt own rt (rows.take i)++lawT lt own rt [[a,b,c,n]]:=by
   rw[take_succ,hx];exact zn _ _ fun w hw=>h4 w (List.mem_of_mem_take hw)
  refine g_nm (Vb (ZA (J0 (Zc rfl (qc (Y4 (Zg ⟨_,rfl,Jz (d:=.tup [.str a,.str b,.str c]) rfl (Zc rfl (Zjf g1 g2 g3 nl.nb (zo ho) nr.nb (t_bl (two_of (fun h=>?_) (fun h=>?_)))))⟩)))))))
  ·refine Ys ⟨fun _=>Zm (Zc rfl (Zg (Zp (d:=.str n) rfl ⟨by show _<16777216;lia,⟨_,rfl⟩,rfl,by rw[length_append];exact Nat.succ_le_succ hlen,?_⟩))),fun z=>nomatch z⟩
   rw[et,lawT,if_pos h,map_append];rfl
  ·refine⟨fun z=>(by cases z),fun _=>⟨⟨_,rfl⟩,rfl,by lia,?_⟩⟩;rw[et,lawT,if_neg h,map_append];simp[lawT]
 ·rintro e2 S2 acc ⟨_,rfl,hlen,rfl⟩;have hfew:=tb.few;have e:(rows.map rowD).length=rows.length:=length_map ..;rw[e,take_length] at hlen ⊢;refine ZO (Jy (Zb (Zc rfl (Zf ⟨by show 1<=16777216;decide,zp (by show _+1<=16777216;lia) (Zg (ZgZ kk))⟩))))
end
open LM (at_0)
section
variable {k:Nat}{S:Sto}{P:D->Sto->Prop}
abbrev Cut(j:Int)(g:D->D)(a:D):Prop:=a=.non/\g a=.non\/∃ ds,a=.tup ds/\atI ds j=some (g a)
theorem Zjg{c:Cl}{j:Int}(g:D->D){x l o r:D}{es:En}{R:List D->Sto->Prop}(hl:Cut j g l)(ho:Cut j g o)(hr:Cut j g r)(kk:R [g l,g o,g r] S):Es (evL c (.comp 2 [] (.name 1) (.seq (.tup (.cons (.var 1) (.cons (.var 2) (.cons (.var 3) .nil))))) .nil (.ite (.isN (.var 1)) .non (.sub (.var 1) (.int j)))) (some x::some l::some o::some r::es) S) R:=by
 refine Zaq [l,o,r] id g (rest:=[]) rfl (by dsimp only[evI];rfl) (by show 3<=1000;decide) (fun a ha P h=>?_) kk
 have hc:Cut j g a:=by
  simp only[mem_cons,not_mem_nil,or_false] at ha
  rcases ha with rfl | rfl | rfl
  ·exact hl
  ·exact ho
  ·exact hr
 rcases hc with ⟨rfl,e⟩ | ⟨ds,rfl,e⟩
 ·rw[e] at h;exact Y3 (UV (Zc rfl (t_bl (two_t (JZ h)))))
 ·exact Y3 (UV (Zc rfl (t_bl (two_f (Zm (Zc rfl (Zg (Zp e h))))))))
theorem lst3{c:Cl}{a b d x:D}{env:En}{i:Nat}{j:Int}(he:env[i]?=some (some (.lst [a,b,d])))(hj:atI [a,b,d] j=some x)(kk:P x S):Ev (ev c (.sub (.var i) (.int j)) env S) P:=Zm (Zc he (Zg (ZB hj kk)))
theorem Zcd{n:Nat}:∀ {ds:List D},(∀ d∈ds,Dt n d)->Yh ds=true/\PyData.canLayAll0 (toPs ds)=true/\PyData.depthAll (toPs ds)<=n+1
 |[],_=>⟨rfl,rfl,by rw[toPs,PyData.depthAll];lia⟩
 | d::ds,h=>by
  obtain⟨a1,a2,a3⟩:=JL (h d oAn);obtain⟨b1,b2,b3⟩:=Zcd (ds:=ds) fun e he=>h e (oAm _ he);refine⟨by rw[Yh,a1,b1];rfl,by rw[toPs,PyData.canLayAll0,a2,b2];rfl,by rw[toPs,PyData.depthAll];lia⟩
theorem Zjh{n:Nat}{d:D}{ds:List D}{PB:Bool->Prop}(h:∀ e∈d::ds,Dt n e)(hn:n<=40)(kk:PB false):Op (cmpop S .Eq (.lst (d::ds)) (.lst [])) PB:=by
 refine⟨false,?_,kk⟩;show eqD S _ _=_;obtain⟨h1,h2,h3⟩:=Zcd h;have ok:okD (.lst (d::ds))=true:=by
  unfold okD;show (Yh (d::ds)&&PyData.canLay0 (.list (toPs (d::ds)))&&decide (PyData.depth (.list (toPs (d::ds)))<=100))=true;rw[h1,PyData.canLay0,h2,PyData.depth,oAi (by lia)];rfl
 have ok2:okD (.lst [])=true:=by decide +kernel
 unfold eqD;rw[if_neg (show ¬ W9 (.lst (d::ds)) (.lst [])=true from by intro z;cases z),ok,ok2,if_pos (show (true&&true)=true from rfl)]
 rfl
theorem Ze6{c:Int}{m:Mc}{L:Nat}{l o r:D}(hm:(Mc.slo c m).ok)(hd:(Mc.slo c m).dep<=30)(hL:m.dep+2<=L)(hl:Nd (.slo c m) l)(ho:Sd (.slo c m) o)(hr:Nd (.slo c m) r)
  (ih:∀ (P:D->Sto->Prop) {L':Nat},L=L'+1->P (mb m (p0 l) (p0 o) (p0 r)) S->Ev ((Za T 40 L').fn "_law_behind" [m.d,p0 l,p0 o,p0 r] S) P)(kk:P (mb (.slo c m) l o r) S):Ev ((Za T 40 L).fn "_law_slow_behind" [(Mc.slo c m).d,l,o,r] S) P:=by
 have hcm:=Zan hm.2.2;have hdd:m.dep+1<=30:=hd;obtain⟨a,j,rfl,ha,j0,jc⟩:=id ho;obtain⟨L,rfl,hj⟩:=up hL;have kk:P (slB c (.tup [mq m,.int 0]) (mb m (p0 l) a (p0 r)) l (.tup [a,.int j]) r) S:=kk;unfold slB at kk;refine Zw Vs rfl ?_;dsimp only[F_law_slow_behind];refine Ze (ZF (ZP (Zb (Zn (Zb (Zm (Zc rfl (Zg (Zp (d:=m.d) rfl (Zb (Zg (Zf (YE true m hj (Zb (Zg (Zf ⟨t2,g_nm (Zj (Ze (ZF (ZO ?_))))⟩))))))))))))))));refine Zdw (calm:=.tup [mq m,.int 0]) (ds:=[l,.tup [a,.int j],r]) (cap:=.tup [mq m,.int 0]) rfl (by dsimp only[evI];rfl) (by simp) (fun d hdm=>?_) ?_
 ·have hdn:Nd (.slo c m) d:=by
   simp only[mem_cons,not_mem_nil,or_false] at hdm
   rcases hdm with rfl | rfl | rfl
   ·exact hl
   ·exact .inr ho
   ·exact hr
  refine Vb (ZA (Zc rfl (ZP (Zb (JZ (Zb (Zc rfl (Zf ⟨t2,Vi (hdn.imp id (YC _)) hcm ⟨_,_,rfl⟩ (oAq hd (by decide)) (oAq hdd (by decide)) (t_bl ?_)⟩))))))));cases aw (.tup [mq m,.int 0]) d with
  |true=>exact two_t (Ys ⟨rfl,rfl⟩)
  |false=>exact two_f ⟨rfl,rfl⟩
 cases hws:[l,.tup [a,.int j],r].filter (aw (.tup [mq m,.int 0])) with
 | nil=>
  rw[hws] at kk;refine g_nm (Zj (Ze (Zu (ZA (Zc rfl (ZO (Jy (Zf ⟨zero_le _,true,by kernel_rfl,t_bl (two_t ?_)⟩))))))));exact Ze (Zy (Zc rfl kk))
 | cons w ws=>
  obtain⟨a',j',rfl,ha',jw0,jwc⟩:=ZaT hl ho hr hws;rw[hws] at kk;dsimp only at kk;have hall:∀ e∈D.tup [a',.int j']::ws,Dt (m.dep+1) e:=by
   intro e he;rw[<- hws] at he;obtain⟨h1,h2⟩:=List.mem_filter.1 he;have hn:e≠.non:=by unfold aw at h2;rw[and_eq_true] at h2;exact oAj h2.1
   simp only[mem_cons,not_mem_nil,or_false] at h1
   rcases h1 with rfl | rfl | rfl
   ·exact YC _ (hl.resolve_left hn)
   ·exact YC _ ho
   ·exact YC _ (hr.resolve_left hn)
  refine g_nm (Zj (Ze (Zu (ZA (Zc rfl (ZO (Jy (Zf ⟨zero_le _,Zjh hall (oAq hdd (by decide)) (t_bl (two_f ?_))⟩))))))));refine Yd (Zj (Ze (ZF (Zm (Zm (Zc rfl (Zg (ZB (d:=.tup [a',.int j']) at_0 (Zg (Zp (d:=.int j') rfl (g_nm ?_)))))))))));refine Zj (Ze (Zu (ZA (Zc rfl (ZR (Zm (Zc rfl (Zg (Zp (d:=.int c) rfl (Zg (qe (c_lt (t_bl (two_of (fun h=>?_) (fun h=>?_)))))))))))))))
  ·rw[if_neg (show ¬ p1 (.tup [a',.int j'])=c - 1 from by show ¬ j'=c - 1;lia)] at kk
   refine Ze (Zy (Y3 (ZA (Zc rfl (Zc rfl (Zdv (YC _ ho) hcm (oAq hd (by decide)) (oAq hdd (by decide)) (t_bl (two_of (fun g=>?_) (fun g=>?_)))))))))
   ·rw[if_pos (show D.tup [a,.int j]=.tup [mq m,.int 0] from g)] at kk;exact Zc rfl kk
   ·rw[if_neg (show ¬ D.tup [a,.int j]=.tup [mq m,.int 0] from g)] at kk;exact ZP (Zb (e_at rfl rfl (Zb (ZR (Zc rfl (Zg (p_add (Zf ⟨t2,kk⟩))))))))
  ·rw[if_pos (show p1 (.tup [a',.int j'])=c - 1 from by show j'=c - 1;lia)] at kk
   exact Yd (Zj (Ze (ZF (ZO (Zjg p0 (pt0 hl ts) (.inr ⟨_,rfl,rfl⟩) (pt0 hr ts) (g_nm (Zj (Ze (Zy (ZP (Zb (Zn (Zb (Zm (Zc rfl (Zg (Zp (d:=m.d) rfl (Zb (lst3 rfl rfl (Zb (lst3 rfl rfl (Zb (lst3 rfl rfl (Zf (ih _ rfl (Zb (Zg (Zf ⟨t2,kk⟩))))))))))))))))))))))))))))
end
open LM (at_0)
section
variable {k:Nat}{S:Sto}{P:D->Sto->Prop}
theorem up2{n L:Nat}(h:2 * (n+1)+2<=L):∃ j,L=j+1+1/\2 * n+2<=j:=⟨L - 2,by lia,by lia⟩
theorem WZ:∀ (m:Mc) {L:Nat}{l o r:D}{P:D->Sto->Prop},m.ok->m.dep<=30->2 * m.dep+2<=L->Nd m l->Sd m o->Nd m r->P (mb m l o r) S->Ev ((Za T 40 L).fn "_law_behind" [m.d,l,o,r] S) P
 | .tab q s f rows,L,l,o,r,P,hm,hd,hL,hl,⟨x,ho,hx⟩,hr,kk=>by
  subst ho;obtain⟨L,rfl,_⟩:=up (n:=0) (oAq (Nat.le_add_left 1 _) hL);exact bh_t hm hl hr hx kk
 | .slo c m,L,l,o,r,P,hm,hd,hL,hl,ho,hr,kk=>by
  obtain⟨L,rfl,hj⟩:=up2 hL;have ih:=fun (P:D->Sto->Prop) (h:P (mb m (p0 l) (p0 o) (p0 r)) S)=>WZ m (L:=L) hm.2.2 (Nat.le_of_succ_le hd) hj (hl.p0 ts) (by obtain⟨a,j,rfl,ha,_⟩:=ho;exact ha) (hr.p0 ts) h
  refine Zw UZ rfl ?_;dsimp only[F_law_behind];exact o_k (w:="slowed") (xs:=[.int c,m.d]) rfl (by decide +kernel) (o_k (w:="slowed") (xs:=[.int c,m.d]) rfl (by decide +kernel) (o_l (w:="slowed") (xs:=[.int c,m.d]) rfl (Ze (Zy (Zn (Zb (Zc rfl (Zb (Zc rfl (Zb (Zc rfl (Zb (Zc rfl (Zf (Ze6 (c:=c) (m:=m) hm hd (by lia) hl ho hr (fun P {L'} e h=>by cases e;exact ih P h) kk)))))))))))))))
end
open LM (at_0)
section
variable {k:Nat}{S:Sto}{P:D->Sto->Prop}{PD:D->Prop}{q s f x:Str}{rows:List (List Str)}{c j:Int}
theorem col{g:List Str->Str}{i:Int}{env:En}{c:Cl}{R:List D->Sto->Prop}(hi:evI c (.seq (.sub (.var 1) (.int 4))) env S=some (.vs (rows.map rowD),S))(hf:rows.length<=63)(hg:∀ row∈rows,∃ ds,rowD row=.tup ds/\L2.atI ds i=some (.str (g row)))(kk:R ((rows.map g).map D.str) S):Es (evL c (.comp 2 [] (.name 1) (.seq (.sub (.var 1) (.int 4))) .nil (.sub (.var 1) (.int i))) env S) R:=by
 refine Ym (.vs (rows.map rowD)) (rows.map rowD) S hi (fun i e2 S2 acc=>(∃ t,e2=[none,t])/\S2=S/\acc=((rows.take i).map g).map D.str) ⟨⟨none,rfl⟩,rfl,rfl⟩ (.inl rfl) ?_ ?_
 ·rintro n d e2 S2 acc hd ⟨⟨t,rfl⟩,rfl,rfl⟩;rw[getElem?_map] at hd;obtain⟨row,hx,rfl⟩:=zoM hd;have hlt:=(List.getElem?_eq_some_iff.1 hx).1;obtain⟨ds,e1,e2⟩:=hg row (mem_of_getElem? hx);refine g_nm (Ys ⟨fun _=>Zm (Zc rfl (Zg ?_)),fun z=>nomatch z⟩);rw[e1];refine Zp e2 ⟨by rw[length_map,length_map,length_take];show _<16777216;lia,⟨_,rfl⟩,rfl,?_⟩
  rw[take_succ,hx,map_append,map_append];rfl
 ·rintro e2 S2 acc ⟨_,rfl,rfl⟩;rw[length_map,take_length];exact kk
theorem Wu{L:List D}{d:Int}(h0:0<=d)(h1:d<L.length)(kk:∀ x∈L,PD x):Op (subD S (.lst L) (.int d)) PD:=by
 have hl:d.toNat<L.length:=by lia
 have e:((d.toNat:Nat):Int)=d:=by lia
 have:=Yv (oAt hl);rw[e] at this;exact ZB this (kk _ (getElem_mem hl))
theorem st_t(tb:Tb q s f rows){r:Nat}(h:Pk S r)(kk:∀ x S',isN (.str x)=true->Pk S' r->Fr r S S'->P (.str x) S'):Ev ((Za T 40 (k+2)).fn "_law_state" [.ref r,tabOf q s f rows] S) P:=by
 obtain⟨_,hq,hs,hf,hrr,_⟩:=Y7 tb.tab;have hfew:=tb.few;refine Zw VD rfl ?_;dsimp only[F_law_state];refine Ze (Zu (ZA (Zm (Zc rfl (Zg (Zp (d:=.str "table") rfl (Yj (Z6 (t_bl ?_)))))))));rw[oAi rfl];refine two_t (Ze (ZF (ZR (ZR (ZO (V9 (Zb (J0 (Zc rfl (Y4 (Zg ⟨_,rfl,Y4 (Zg ⟨_,rfl,Jz Zdr (Zf ⟨[.str q,.str s,.str f],rfl,?_⟩)⟩)⟩)))))))))));refine ZO (col (g:=fun row=>row.getD 1 "") (by dsimp only[evI];rfl) hfew ?_ (zp ?_ (ZO (col (g:=fun row=>row.getD 3 "") (by dsimp only[evI];rfl) hfew ?_ (zp ?_ ?_)))))
 ·intro row hrow;obtain⟨l,o,r,n,rfl,_⟩:=hrr row hrow;exact⟨_,rfl,rfl⟩
 ·show _<=16777216;simp only[length_map,length_cons,length_nil];lia
 ·intro row hrow;obtain⟨l,o,r,n,rfl,_⟩:=hrr row hrow;exact⟨_,rfl,rfl⟩
 ·show _<=16777216;simp only[length_append,length_map,length_cons,length_nil];lia
 generalize hL:([D.str q,.str s,.str f]++(rows.map fun row=>row.getD 1 "").map D.str++(rows.map fun row=>row.getD 3 "").map D.str)=L;have h3:3<=(L.length:Int):=by rw[<- hL];simp only[length_append,length_map,length_cons,length_nil];lia
 have h4:(L.length:Int)<=200:=by rw[<- hL];simp only[length_append,length_map,length_cons,length_nil];lia
 have hA:∀ d∈L,∃ x,d=.str x/\isN (.str x)=true:=by
  rw[<- hL];intro d hd
  rcases List.mem_append.1 hd with hd | hd
  ·rcases List.mem_append.1 hd with hd | hd
   ·simp only[mem_cons,not_mem_nil,or_false] at hd
    rcases hd with rfl | rfl | rfl
    ·exact⟨_,rfl,hq⟩
    ·exact⟨_,rfl,hs⟩
    ·exact⟨_,rfl,hf⟩
   ·obtain⟨x,hx,rfl⟩:=List.mem_map.1 hd;obtain⟨row,hrow,rfl⟩:=List.mem_map.1 hx;obtain⟨l,o,r,n,rfl,g1,g2,g3,g4,_⟩:=hrr row hrow;exact⟨_,rfl,g2⟩
  ·obtain⟨x,hx,rfl⟩:=List.mem_map.1 hd;obtain⟨row,hrow,rfl⟩:=List.mem_map.1 hx;obtain⟨l,o,r,n,rfl,g1,g2,g3,g4,_⟩:=hrr row hrow;exact⟨_,rfl,g4⟩
 clear hL;refine g_nm (Zj (Ze (Zy (Zm (Zc rfl (Zn (Zb (Zc rfl (Zb (Zm (ZO (Jy (Zb (Zg (Zb (Y5 (Zb (Zc rfl (Zf ?_)))))))))))))))))));walk_at "go";refine ZN (k:=k) wt h (by decide) (by decide) (fun d S1 a1 a2 a3 a4 a5=>?_);have hd:d=0\/d=1:=by lia
 rcases hd with rfl | rfl
 ·refine ZB (d:=.int 3) rfl (Zf (ZN (k:=k) wt a1 (by decide) (by decide) fun e S2 b1 b2 b3 b4 b5=>?_));refine Wu b4 (by lia) (fun y hy=>?_);obtain⟨x,rfl,hx⟩:=hA y hy;walk_at "go";exact kk x S2 hx b1 (a2.trans b2)
 ·refine ZB (d:=.int (L.length:Int)) rfl (Zf (ZN (k:=k) wt a1 (by lia) (by lia) fun e S2 b1 b2 b3 b4 b5=>?_));refine Wu b4 b5 (fun y hy=>?_);obtain⟨x,rfl,hx⟩:=hA y hy;walk_at "go";exact kk x S2 hx b1 (a2.trans b2)
end
open LM (at_0)
section
variable {k:Nat}{S:Sto}{P:D->Sto->Prop}
theorem Ze7{m n:Mc}{L:Nat}{env:En}{ns:List Mc}(h:∀ q s f rows,m≠.tab q s f rows)(hp:pts m=n::ns)(hL:1<=L)(he:env[1]?=some (some m.d))(kk:P n.d S):Ev (ev (Za T 40 L) (.sub (.call "_law_parts" (.cons (.var 1) .nil)) (.int (0))) env S) P:=
 Zm (Zn (Zb (Zc he (Zf (JB m h hL (Zg (by rw[hp];exact Zp at_0 kk)))))))
theorem U4{L:Nat}{r:Nat}{m:Int}{env:En}{e:Ex}(hL:1<=L)(h:Pk S r)(he:env[0]?=some (some (.ref r)))(hm:0<m)(hm2:m<=1000)(hv:∀ P:D->Sto->Prop,P (.int m) S->Ev (ev (Za T 40 L) e env S) P)(kk:∀ (d:Int) (S':Sto),Pk S' r->Fr r S S'->S'.length=S.length->0<=d->d<m->P (.int d) S'):Ev (ev (Za T 40 L) (.call "_law_pick" (.cons (.var 0) (.cons e .nil))) env S) P:=by
 obtain⟨L,rfl,_⟩:=up (n:=0) hL;exact Zn (Zb (Zc he (Zb (hv _ (Zf (ZN wt h hm hm2 kk))))))
theorem VQ:∀ (m:Mc) {L r:Nat}{S:Sto}{P:D->Sto->Prop},m.ok->m.dep+1<=L->Pk S r->(∀ d S',Sd m d->Pk S' r->Fr r S S'->P d S')->Ev ((Za T 40 L).fn "_law_state" [.ref r,m.d] S) P
 | .tab q s f rows,L,r,S,P,hm,hL,hp,kk=>by
  obtain⟨L,rfl⟩:∃ j,L=j+2:=⟨L - 2,by have:1+1<=L:=hL;lia⟩
  exact st_t hm hp fun x S' hx h g=>kk _ _ ⟨x,rfl,hx⟩ h g
 | .slo c m,L,r,S,P,hm,hL,hp,kk=>by
  obtain⟨L,rfl,hj⟩:=up hL;have hj:m.dep+1<=L:=hj;have hc:=hm.1;have hc6:=hm.2.1;have hn:∀ q s f rows,Mc.slo c m≠.tab q s f rows:=fun _ _ _ _=>by intro z;cases z
  refine Zw VD rfl ?_;dsimp only[F_law_state];refine o_k (w:="slowed") (xs:=[.int c,m.d]) rfl (by decide +kernel) (o_k (w:="slowed") (xs:=[.int c,m.d]) rfl (by decide +kernel) (Ze (ZF (Zn (Zb (Zc rfl (Zb (Ze7 hn rfl (by lia) rfl (Zf (VQ m hm.2.2 hj hp fun a S1 ha hp1 g1=>g_nm (Zj ?_)))))))))));refine o_k (w:="slowed") (xs:=[.int c,m.d]) rfl (by decide +kernel) (o_l (w:="slowed") (xs:=[.int c,m.d]) rfl (Ze (Zy (ZP (Zb (Zc rfl (Zb (Zm (ZO (Jy (Zb (Zg (Zb (Zg (Zb (ZR (Zm (Zc rfl (Zg (Zp (d:=.int c) rfl (Zg (qe (Zb ?_)))))))))))))))))))))));refine U4 (m:=c) (by lia) hp1 rfl (by lia) (by lia) (fun P h=>Zm (Zc rfl (Zg (Zp (d:=.int c) rfl h)))) (fun d S2 hp2 g2 _ d0 dc=>Zf ⟨by show 4<=16777216;decide,?_⟩)
  refine U4 (m:=4) (by lia) hp2 rfl (by decide) (by decide) (fun P h=>Zg h) (fun i S3 hp3 g3 _ i0 i4=>Wu i0 i4 fun x hx=>Zf ⟨t2,?_⟩);have hx':∃ z:Int,x=.int z/\0<=z/\z<=c - 1:=by
   simp only[mem_cons,not_mem_nil,or_false] at hx
   rcases hx with rfl | rfl | rfl | rfl
   ·exact⟨0,rfl,by lia,by lia⟩
   ·exact⟨0,rfl,by lia,by lia⟩
   ·exact⟨c - 1,rfl,by lia,by lia⟩
   ·exact⟨d,rfl,d0,by lia⟩
  obtain⟨z,rfl,z0,zc⟩:=hx';exact kk _ _ ⟨a,z,rfl,ha,z0,zc⟩ hp3 ((g1.trans g2).trans g3)
end
open LM (at_0)
section
variable {k:Nat}{S:Sto}{P:D->Sto->Prop}
theorem Zas(m:Mc){L r:Nat}(hm:m.ok)(hL:m.dep+2<=L)(hp:Pk S r)(kk:∀ d S',Nd m d->Pk S' r->Fr r S S'->P d S'):Ev ((Za T 40 L).fn "_law_side" [.ref r,m.d] S) P:=by
 obtain⟨L,rfl,hj⟩:=up hL;refine Zw Za5 rfl ?_;dsimp only[F_law_side];refine Ze (ZF (U4 (m:=5) (by lia) hp rfl (by decide) (by decide) (fun P h=>Zg h) (fun d S1 hp1 g1 _ d0 d5=>g_nm (Zj ?_))));refine Ze (Zu (ZA (Zc rfl (Zg (Vc (t_bl (two_of (fun h=>?_) (fun h=>?_))))))))
 ·exact Ze (Zy (JZ (kk _ _ (.inl rfl) hp1 g1)))
 ·refine Yd (Zj (Ze (Zy (Y3 (ZA (Zc rfl (Zg (Vc (t_bl (two_of (fun h=>?_) (fun h=>?_)))))))))))
  ·exact Zn (Zb (Zc rfl (Zb (Zg (Zf (YE true m hj (kk _ _ (.inr (Wg m hm)) hp1 g1)))))))
  ·exact Zn (Zb (Zc rfl (Zb (Zc rfl (Zf (VQ m hm hj hp1 fun d S2 hd hp2 g2=>kk _ _ (.inr hd) hp2 (g1.trans g2)))))))
theorem sa_s{x:Str}:(Za T 40 (k+2)).fn "_law_same" [.str x,.str x] S=some (.bl (decide (D.str x=D.str x)),S):=by kernel_rfl
theorem sa_i{j:Int}:(Za T 40 (k+2)).fn "_law_same" [.int j,.int j] S=some (.bl (decide (D.int j=D.int j)),S):=by kernel_rfl
end
open LM (at_0)
section
variable {k:Nat}{S:Sto}{P:D->Sto->Prop}
theorem Zg0{a b:D}{L:Nat}(h:∀ x,x=a\/x=b->∀ P:D->Sto->Prop,P (.bl true) S->Ev ((Za T 40 L).fn "_law_same" [x,x] S) P)(kk:P (.bl true) S):Ev ((Za T 40 (L+1)).fn "_law_same" [.tup [a,b],.tup [a,b]] S) P:=by
 refine Zw Za6 rfl ?_;dsimp only[F_law_same];refine Ze (Zu (V8 (Zc rfl ⟨true,by kernel_rfl,t_bl (two_t ?_)⟩)));refine Ze (Zu (YO (Yk (V8 (Zc rfl ⟨true,by kernel_rfl,t_bl (t_bl (two_f ?_))⟩)))));refine ZA (Y5 (Zb (Zc rfl (Zf (Op.mk JQ (Y5 (Zb (Zc rfl (Zf (Op.mk JQ (Zdm (t_bl ?_))))))))))));rw[oAi rfl];refine two_f (Yd (Zj (Ze (Zy (Y5 (Zb (ZO ?_)))))));refine Ym (.vs [.tup [a,a],.tup [b,b]]) [.tup [a,a],.tup [b,b]] S (by dsimp only[evI];rfl) (fun i e2 S2 acc=>(∃ x y,e2=[none,x,y])/\S2=S/\i<=2/\acc=List.replicate i (.bl true)) ⟨⟨none,none,rfl⟩,rfl,by decide,rfl⟩ (.inl rfl) ?_ ?_
 ·rintro i d e2 S2 acc hd ⟨⟨x,y,rfl⟩,rfl,hle,rfl⟩;obtain⟨hi,_⟩:=List.getElem?_eq_some_iff.1 hd;have hi:i<2:=hi;obtain⟨z,hz,rfl⟩:∃ z,(z=a\/z=b)/\d=.tup [z,z]:=by
   match i,hi,hd with
   |0,_,hd=>exact⟨a,.inl rfl,(oAk hd).symm⟩
   |1,_,hd=>exact⟨b,.inr rfl,(oAk hd).symm⟩
  refine g_tp (Yx (g_nm (Yx (g_nm (Wa ?_)))));refine Ys ⟨fun _=>Zn (Zb (Zc rfl (Zb (Zc rfl (Zf (h z hz _ ⟨?_,⟨_,_,rfl⟩,rfl,hi,?_⟩)))))),fun e=>by cases e⟩
  ·rw[length_replicate];show i<16777216;lia
  ·rw[List.replicate_succ']
 ·rintro e2 S2 acc ⟨_,rfl,_,rfl⟩;exact Zf ⟨.bl true,by kernel_rfl,kk⟩
theorem Wv{n:Nat}{d:D}(h:Dt n d):∀ {L:Nat}{P:D->Sto->Prop},n+2<=L->P (.bl true) S->Ev ((Za T 40 L).fn "_law_same" [d,d] S) P:=by
 induction h with
 | s h=>
  intro L P hL kk;obtain⟨L,rfl⟩:∃ j,L=j+2:=⟨L - 2,by lia⟩;exact⟨_,_,sa_s,by rw[oAi rfl];exact kk⟩
 | i=>
  intro L P hL kk;obtain⟨L,rfl⟩:∃ j,L=j+2:=⟨L - 2,by lia⟩;exact⟨_,_,sa_i,by rw[oAi rfl];exact kk⟩
 | p _ _ iha ihb=>
  intro L P hL kk;obtain⟨L,rfl⟩:∃ j,L=j+1:=⟨L - 1,by lia⟩;refine Zg0 (fun x hx P h=>?_) kk
  rcases hx with rfl | rfl
  ·exact iha (by lia) h
  ·exact ihb (by lia) h
end
open LM (at_0)
theorem mw:Mw T:=⟨mt,ZaY,Wr,Zca,Za1,Vt,U0,U1,U2,UB,U3,UC,UD,UE,Uw,zk,W4,W5,W6,Ws,by kernel_rfl,by kernel_rfl,by kernel_rfl,by kernel_rfl,by kernel_rfl,by kernel_rfl,by kernel_rfl,by kernel_rfl,by kernel_rfl⟩
section
variable {k:Nat}{S:Sto}{P:D->Sto->Prop}{PD:D->Prop}
theorem Zji{a b:Bool}{PB:Bool->Prop}(h:PB (!decide (a=b))):Op (cmpop S .NotEq (.bl a) (.bl b)) PB:=by
 refine⟨_,?_,h⟩;cases a<;>cases b<;>rfl
theorem Zg1{b:Bool}{PB:Bool->Prop}(h:PB true):Op (isiD S (.bl b) "bool") PB:=J1 LM.JO rfl h
theorem Zdz{r t:Nat}{o:Ob}(hp:Pk S r)(h:S[t]?=some o)(ho:∀ l,o≠.lst l):t≠r:=fun e=>by
 obtain⟨a,b,n,h1,_⟩:=hp;rw[e,h1] at h;exact ho _ (oAk h).symm
theorem zq{r t:Nat}{C:Str}{fs:List (Str×D)}{S':Sto}(hp:Pk S r)(f:Fr r S S')(h:S[t]?=some (.ins C fs)):S'[t]?=some (.ins C fs):=f.get (Zdz hp h (fun _ e=>by cases e)) h
theorem WK.fr{S':Sto}{r:Nat}(hp:Pk S r)(f:Fr r S S'):∀ {m:Mc}{t:Nat},WK m S t->WK m S' t
 |.tab ..,t,⟨m,sts,h1,h2,h3⟩=>⟨m,sts,zq hp f h1,f.get (Zdz hp h2 (fun _ e=>by cases e)) h2,h3⟩
 |.slo c m,t,⟨p,h1,h2⟩=>⟨p,zq hp f h1,WK.fr hp f h2⟩
theorem WW.fr{S':Sto}{r w:Nat}{m:Mc}(hp:Pk S r)(f:Fr r S S')(h:WW m S w):WW m S' w:=by
 obtain⟨t,h1,h2⟩:=h;exact⟨t,zq hp f h1,WK.fr hp f h2⟩
theorem Zc2{m:Mc}{z:Int}(hm:m.ok)(h4:m.dep<=4)(z0:0<=z)(z1:z<=1000){r w:Nat}(hp:Pk S r)(ww:WW m S w)(kk:∀ S',Pk S' r->Fr r S S'->P (.bl true) S'):Ev ((Za T 40 (k+12)).fn "_law_right" [.ref r,m.d,.ref w,.int z] S) P:=by
 have hd:m.dep<=k+10:=by lia
 have hd1:m.dep+1<=k+10:=by lia
 have h30:m.dep<=30:=by lia
 refine Zw zJ rfl ?_;dsimp only[F_law_right];refine Ze (Zu (YO (Yk (Zn (Zb (Ze3 (L:=k+10) mw ww hd (by dsimp only[ev];rfl) (Zb (Zn (Zb (Zc rfl (Zb (Zg (Zf (YE true m (by lia) ?_))))))))))))))
 refine Zf (Wv (YC m (Wg m hm)) (by lia) (t_bl (t_bl (two_nf ?_))));refine Yk (Zn (Zb (Ze4 (L:=k+10) mw ww hd (by dsimp only[ev];rfl) (Zb (Zn (Zb (Zc rfl (Zb (Zg (Zf (YE false m (by lia) ?_)))))))))))
 refine Zf (Wv (YC m (ZaU m hm)) (by lia) (t_bl (t_bl (two_nf (Yd (Zj (Ze (UX (Zc rfl ?_)))))))));refine⟨_,fun i e2 S2=>Pk S2 r/\Fr r S S2/\WW m S2 w/\∃ t4 t5 t6 t7 t8 t9 t10,e2=[some (.ref r),some m.d,some (.ref w),some (.int z),t4,t5,t6,t7,t8,t9,t10],rfl,by lia,by lia,⟨hp,.refl,ww,none,none,none,none,none,none,none,rfl⟩,?_,?_⟩
 ·rintro i e2 S2 hi ⟨p2,f2,w2,t4,t5,t6,t7,t8,t9,t10,rfl⟩;refine g_nm (Ze (ZF (ZP (Zb (Zn (Zb (Zc rfl (Zb (Zc rfl (Zf (Zas m hm (by lia) p2 (fun a S3 ha p3 f3=>?_))))))))))));refine Zb (Zn (Zb (Zc rfl (Zb (Zc rfl (Zf (Zas m hm (by lia) p3 (fun b S4 hb p4 f4=>Zf ⟨by show 2<=16777216;decide,g_nm (Zj (Ze (ZF (Ev.mono (P:=fun o S6=>Sd m o/\Pk S6 r/\Fr r S4 S6) (Y3 ?_) ?_))))⟩))))))))
  ·refine ZA (U4 (m:=4) (by lia) p4 rfl (by decide) (by decide) (fun P h=>Zg h) (fun d S5 p5 f5 _ d0 d1=>Zg (Vc (t_bl (two_of (fun h=>?_) (fun h=>?_))))))
   ·refine Zn (Zb (Zc rfl (Zb (ZR (Zg (U4 (m:=2) (by lia) p5 rfl (by decide) (by decide) (fun P h=>Zg h) (fun e S6 p6 f6 _ e0 e1=>p_add (Zf ?_))))))));have he:e=0\/e=1:=by lia
    rcases he with rfl | rfl
    ·exact YE true m (by lia) ⟨Wg m hm,p6,f5.trans f6⟩
    ·exact YE false m (by lia) ⟨ZaU m hm,p6,f5.trans f6⟩
   ·exact Zn (Zb (Zc rfl (Zb (Zc rfl (Zf (VQ m hm (by lia) p5 (fun o S6 ho p6 f6=>⟨ho,p6,f5.trans f6⟩)))))))
  ·rintro o S6 ⟨ho,p6,f6⟩;have w6:WW m S6 w:=WW.fr p4 f6 (WW.fr p3 f4 (WW.fr p2 f3 w2));have ff:Fr r S S6:=((f2.trans f3).trans f4).trans f6;have hdue:Sd m (mb m a o b):=Zds m hm ha ho hb;refine g_nm (Zj (Ze (ZF (Zn (Zb (Zc rfl (Zb (Zm (Zc rfl (Zg (Zp (d:=a) rfl (Zb (Zc rfl (Zb (Zm (Zc rfl (Zg (Zp (d:=b) rfl (Zf (WZ m hm h30 (by lia) ha ho hb ?_))))))))))))))))))));refine g_nm (Zj (Ze (UX ?_)));walk_at "go";refine⟨_,fun i2 e2 S7=>S7=S6/\∃ t8,e2=[some (.ref r),some m.d,some (.ref w),some (.int z),some (.int i),some (.tup [a,b]),some o,some (mb m a o b),t8,t9,t10],rfl,by decide,by decide,⟨rfl,t8,rfl⟩,?_,?_⟩
   ·rintro i2 e2 S7 hi2 ⟨rfl,t8,rfl⟩;refine g_nm (Ze (Zu (Yk (Zn (Zb (Zc1 (L:=k+10) mw hm h30 w6 hd1 ha ho hb (by dsimp only[ev];rfl) (by kernel_rfl) (by dsimp only[ev];rfl) (by kernel_rfl) (Zb (Zc rfl (Zf (Wv (YC m hdue) (by lia) (t_bl (t_bl (two_nf (Yd ?_))))))))))))))
    walk_at "go";exact⟨rfl,_,rfl⟩
   ·rintro e2 S7 ⟨rfl,t8,rfl⟩;refine Zj (Ze (ZaM (ZP (Zb (Zc rfl (Zb (Zc rfl (Zf ⟨by show 2<=16777216;decide,[o,mb m a o b],fun i3 e2 S8=>S8=S7/\∃ t9 t10,e2=[some (.ref r),some m.d,some (.ref w),some (.int z),some (.int i),some (.tup [a,b]),some o,some (mb m a o b),t8,t9,t10],rfl,⟨rfl,_,_,rfl⟩,?_,?_⟩))))))))
    ·rintro i3 d e2 S8 hdd ⟨rfl,t9,t10,rfl⟩;have hd':Sd m d:=by
      have hm:=mem_of_getElem? hdd;simp only[mem_cons,not_mem_nil,or_false] at hm
      rcases hm with rfl | rfl
      ·exact ho
      ·exact hdue
     refine g_nm (Ze (ZF (Ze5 (L:=k+10) mw w6 hd hd' (by dsimp only[ev];rfl) (by dsimp only[ev];rfl) (g_nm (Zj (Ze (Zu (YO (Yk (V8 (Zc rfl (Zg1 (t_bl (t_bl (two_nf ?_)))))))))))))))
     refine ZA (Zc rfl (Zn (Zb (Zc rfl (Zb (Zc rfl (Zf (zm m (by lia) hd' (Zji ?_)))))))));rw[oAi rfl];walk_at "go";exact⟨rfl,_,_,rfl⟩
    ·rintro e2 S8 ⟨rfl,t9,t10,rfl⟩;walk_at "go";exact⟨p6,ff,w6,_,_,_,_,_,_,_,rfl⟩
 ·rintro e2 S2 ⟨p2,f2,w2,t4,t5,t6,t7,t8,t9,t10,rfl⟩;walk_at "go";exact kk _ p2 f2
end
open LM (at_0)
theorem Zg2{ns:List Int}(hn:ns.length<=63):Ev ((Za T 40 20).fn "law" [.lst (ns.map D.int)] []) (fun d _=>d=.bl true):=by
 refine Zw Za7 rfl ?_;dsimp only[Flaw];refine Ze (UX ?_);walk_at "go";refine⟨_,fun i e2 S2=>∃ t1 t2 t3 t4 t5,e2=[some (.lst (ns.map D.int)),t1,t2,t3,t4,t5],rfl,by split<;>lia,by split<;>lia,⟨none,none,none,none,none,rfl⟩,?_,?_⟩
 ·rintro i e2 S2 hi ⟨t1,t2,t3,t4,t5,rfl⟩;have hi4:(i:Int)<=100:=by
   split at hi<;>lia
  walk_at "go";refine ZeV wt (by lia) hi4 (fun S3 p3 g3=>?_);generalize S2.length=r at *;refine g_nm (Zj (Ze (ZF (Zn (Zb (Zc rfl (Zb (Zg (Zb (Zg (Zf ?_)))))))))));refine ZgQ wt p3 (by decide) (by decide) (by decide) (by decide) (fun q s f rows S4 tb p4 f4=>g_nm (Zj ?_));refine Ze (ZaM (ZP (Zb (Zg (Zb (Zg (Zb (Zg (Zb (Zg (Zb (ZR (Zg (Zn (Zb (Zc rfl (Zb (Zg (Zf ?_)))))))))))))))))));refine ZN (k:=18) wt p4 (by decide) (by decide) (fun z S5 p5 f5 _ z0 z1=>p_add (Zf ⟨by show 5<=16777216;decide,[.int 1,.int 2,.int 3,.int 60,.int (1+z)],fun i2 e2 S6=>Pk S6 r/\∃ t1 t4 t5,e2=[some (.lst (ns.map D.int)),t1,some (.ref r),some (tabOf q s f rows),t4,t5],rfl,⟨p5,_,_,_,rfl⟩,?_,?_⟩))
  ·rintro i2 d e2 S7 hdd ⟨p7,t1,t4,t5,rfl⟩;obtain⟨c,rfl,c1,c6⟩:∃ c:Int,d=.int c/\1<=c/\c<=60:=by
    have hm:=mem_of_getElem? hdd;simp only[mem_cons,not_mem_nil,or_false] at hm
    rcases hm with rfl | rfl | rfl | rfl | rfl
    ·exact⟨1,rfl,by lia,by lia⟩
    ·exact⟨2,rfl,by lia,by lia⟩
    ·exact⟨3,rfl,by lia,by lia⟩
    ·exact⟨60,rfl,by lia,by lia⟩
    ·exact⟨1+z,rfl,by lia,by lia⟩
   have ho:(Mc.slo c (.tab q s f rows)).ok:=⟨c1,c6,tb⟩;have h4:(Mc.slo c (.tab q s f rows)).dep<=4:=by show 1+1<=4;decide
   refine g_nm (Ze (ZF (ZP (Zb (Yj (Zb (Zc rfl (Zb (Zc rfl (Zf ⟨by show 3<=16777216;decide,g_nm (Zj ?_)⟩))))))))))
   refine Ze (Zu (Yk (Zn (Zb (Zc rfl (Zb (Zc rfl (Zb (ZgX (k:=5) (m:=.slo c (.tab q s f rows)) mw ho h4 (fun S8 g8 w8=>Zb (Zg (Zf (Zc2 (k:=7) ho h4 (by decide) (by decide) (p7.gr g8) w8 (fun S9 p9 f9=>t_bl (t_bl (two_nf (Yd ?_)))))))) rfl (by dsimp only[ev];rfl))))))))))
   walk_at "go";exact⟨p9,_,_,_,rfl⟩
  ·rintro e2 S7 ⟨p7,t1,t4,t5,rfl⟩;walk_at "go";exact⟨_,_,_,_,_,rfl⟩
 ·rintro e2 S2 ⟨t1,t2,t3,t4,t5,rfl⟩;walk_at "go";rfl
theorem sc5:Sc (top 5):=by walk_at "sc"
theorem bo5:Zs "is_whole" (top 5):=by walk_at "b1"
theorem dv5:Dv (top 5) LM.J6:=by
 intro k X r;dsimp only[LM.J6];walk_at "dv"
theorem sc14:Sc (top 14):=by walk_at "sc"
theorem bo14:Zs "are_table_rows" (top 14):=by walk_at "b3"
theorem dv14:Dv (top 14) LZ.Vg:=by
 intro k X r;dsimp only[LZ.Vg];walk_at "dv"
theorem sc25:Sc (top 25):=by walk_at "sc"
theorem bo25:Zs "is_machine" (top 25):=by walk_at "b1"
theorem dv25:Dv (top 25) LM.YT:=by
 intro k X r;dsimp only[LM.YT];walk_at "dv"
theorem sc38:Sc (top 38):=by walk_at "sc"
theorem bo38:Zs "_law_pick" (top 38):=by walk_at "b2"
theorem dv38:Dv (top 38) LW.Vm:=by
 intro k X r;dsimp only[LW.Vm];walk_at "dv"
theorem sc44:Sc (top 44):=by walk_at "sc"
theorem bo44:Zs "_law_fires" (top 44):=by walk_at "b2"
theorem dv44:Dv (top 44) F_law_fires:=by
 intro k X r;dsimp only[F_law_fires];walk_at "dv"
theorem sc50:Sc (top 50):=by walk_at "sc"
theorem bo50:Zs "_law_right" (top 50):=by walk_at "b4"
theorem dv50:Dv (top 50) F_law_right:=by
 intro k X r;dsimp only[F_law_right];walk_at "dv"
theorem Zg3:Sc (mth 28 4):=by walk_at "sc"
theorem Zg4:Z5 "behind" (Zh "TableWorks" "behind") (mth 28 4):=by walk_at "b4"
theorem Zg5:Dv (mth 28 4) LW.Je:=by
 intro k X r;dsimp only[LW.Je];walk_at "dv"
theorem Zg6:Sc (mth 34 0):=by walk_at "sc"
theorem Zg7:Z5 "__init__" (Zh "Works" "__init__") (mth 34 0):=by walk_at "b2"
theorem Zg8:Dv (mth 34 0) LW.Vn:=by
 intro k X r;dsimp only[LW.Vn];walk_at "dv"
theorem sc6:Sc (top 6):=by walk_at "sc"
theorem bo6:Zs "is_between" (top 6):=by walk_at "b3"
theorem dv6:Dv (top 6) LM.YR:=by
 intro k X r;dsimp only[LM.YR];walk_at "dv"
theorem sc15:Sc (top 15):=by walk_at "sc"
theorem bo15:Zs "is_table" (top 15):=by walk_at "b1"
theorem dv15:Dv (top 15) LZ.J4:=by
 intro k X r;dsimp only[LZ.J4];walk_at "dv"
theorem sc26:Sc (top 26):=by walk_at "sc"
theorem bo26:Zs "need_machine" (top 26):=by walk_at "b1"
theorem dv26:Dv (top 26) LU.Vo:=by
 intro k X r;dsimp only[LU.Vo];walk_at "dv"
theorem sc39:Sc (top 39):=by walk_at "sc"
theorem bo39:Zs "_law_names" (top 39):=by walk_at "b2"
theorem dv39:Dv (top 39) LW.Ua:=by
 intro k X r;dsimp only[LW.Ua];walk_at "dv"
theorem sc45:Sc (top 45):=by walk_at "sc"
theorem bo45:Zs "_law_behind" (top 45):=by walk_at "b4"
theorem dv45:Dv (top 45) F_law_behind:=by
 intro k X r;dsimp only[F_law_behind];walk_at "dv"
theorem sc51:Sc (top 51):=by walk_at "sc"
theorem bo51:Zs "law" (top 51):=by walk_at "b1"
theorem dv51:Dv (top 51) Flaw:=by
 intro k X r;dsimp only[Flaw];walk_at "dv"
theorem Zg9:Sc (mth 31 0):=by walk_at "sc"
theorem Zha:Z5 "__init__" (Zh "SlowedWorks" "__init__") (mth 31 0):=by walk_at "b3"
theorem Zhb:Dv (mth 31 0) LU.Vp:=by
 intro k X r;dsimp only[LU.Vp];walk_at "dv"
theorem Zhc:Sc (mth 34 1):=by walk_at "sc"
theorem Zhd:Z5 "quiet" (Zh "Works" "quiet") (mth 34 1):=by walk_at "b1"
theorem Zhe:Dv (mth 34 1) LW.Ue:=by
 intro k X r;dsimp only[LW.Ue];walk_at "dv"
theorem sc7:Sc (top 7):=by walk_at "sc"
theorem bo7:Zs "is_tuple_of" (top 7):=by walk_at "b2"
theorem dv7:Dv (top 7) LZ.Ve:=by
 intro k X r;dsimp only[LZ.Ve];walk_at "dv"
theorem sc16:Sc (top 16):=by walk_at "sc"
theorem bo16:Zs "names_in" (top 16):=by walk_at "b1"
theorem dv16:Dv (top 16) LW.YD:=by
 intro k X r;dsimp only[LW.YD];walk_at "dv"
theorem sc27:Sc (top 27):=by walk_at "sc"
theorem bo27:Zs "part_at" (top 27):=by walk_at "b2"
theorem dv27:Dv (top 27) LU.Jg:=by
 intro k X r;dsimp only[LU.Jg];walk_at "dv"
theorem sc40:Sc (top 40):=by walk_at "sc"
theorem bo40:Zs "_law_may" (top 40):=by walk_at "b4"
theorem dv40:Dv (top 40) LW.mayF:=by
 intro k X r;dsimp only[LW.mayF];walk_at "dv"
theorem sc46:Sc (top 46):=by walk_at "sc"
theorem bo46:Zs "_law_slow_behind" (top 46):=by walk_at "b4"
theorem dv46:Dv (top 46) F_law_slow_behind:=by
 intro k X r;dsimp only[F_law_slow_behind];walk_at "dv"
theorem Zhf:Sc (mth 28 0):=by walk_at "sc"
theorem Zhg:Z5 "__init__" (Zh "TableWorks" "__init__") (mth 28 0):=by walk_at "b2"
theorem Zhh:Dv (mth 28 0) LW.Uv:=by
 intro k X r;dsimp only[LW.Uv];walk_at "dv"
theorem Zhi:Sc (mth 31 1):=by walk_at "sc"
theorem Zhj:Z5 "quiet" (Zh "SlowedWorks" "quiet") (mth 31 1):=by walk_at "b1"
theorem Zhk:Dv (mth 31 1) LU.Uh:=by
 intro k X r;dsimp only[LU.Uh];walk_at "dv"
theorem Zhl:Sc (mth 34 2):=by walk_at "sc"
theorem Zhm:Z5 "start" (Zh "Works" "start") (mth 34 2):=by walk_at "b1"
theorem Zhn:Dv (mth 34 2) LW.Uf:=by
 intro k X r;dsimp only[LW.Uf];walk_at "dv"
theorem sc11:Sc (top 11):=by walk_at "sc"
theorem bo11:Zs "is_name" (top 11):=by walk_at "b1"
theorem dv11:Dv (top 11) LZ.Vf:=by
 intro k X r;dsimp only[LZ.Vf];walk_at "dv"
theorem sc22:Sc (top 22):=by walk_at "sc"
theorem bo22:Zs "has_form" (top 22):=by walk_at "b1"
theorem dv22:Dv (top 22) LM.Vj:=by
 intro k X r;dsimp only[LM.Vj];walk_at "dv"
theorem sc33:Sc (top 33):=by walk_at "sc"
theorem bo33:Zs "works_of" (top 33):=by walk_at "b1"
theorem dv33:Dv (top 33) LU.JD:=by
 intro k X r;dsimp only[LU.JD];walk_at "dv"
theorem sc41:Sc (top 41):=by walk_at "sc"
theorem bo41:Zs "_law_table" (top 41):=by walk_at "b3"
theorem dv41:Dv (top 41) LW.tblF:=by
 intro k X r;dsimp only[LW.tblF];walk_at "dv"
theorem sc47:Sc (top 47):=by walk_at "sc"
theorem bo47:Zs "_law_state" (top 47):=by walk_at "b2"
theorem dv47:Dv (top 47) F_law_state:=by
 intro k X r;dsimp only[F_law_state];walk_at "dv"
theorem Zho:Sc (mth 28 1):=by walk_at "sc"
theorem Zhp:Z5 "quiet" (Zh "TableWorks" "quiet") (mth 28 1):=by walk_at "b1"
theorem Zhq:Dv (mth 28 1) LW.Ub:=by
 intro k X r;dsimp only[LW.Ub];walk_at "dv"
theorem Zhr:Sc (mth 31 2):=by walk_at "sc"
theorem Zhs:Z5 "start" (Zh "SlowedWorks" "start") (mth 31 2):=by walk_at "b1"
theorem Zht:Dv (mth 31 2) LU.Ui:=by
 intro k X r;dsimp only[LU.Ui];walk_at "dv"
theorem Zhu:Sc (mth 34 3):=by walk_at "sc"
theorem Zhv:Z5 "fires" (Zh "Works" "fires") (mth 34 3):=by walk_at "b2"
theorem Zhw:Dv (mth 34 3) LW.Ug:=by
 intro k X r;dsimp only[LW.Ug];walk_at "dv"
theorem sc12:Sc (top 12):=by walk_at "sc"
theorem bo12:Zs "is_neighbour" (top 12):=by walk_at "b1"
theorem dv12:Dv (top 12) LZ.J3:=by
 intro k X r;dsimp only[LZ.J3];walk_at "dv"
theorem sc23:Sc (top 23):=by walk_at "sc"
theorem bo23:Zs "parts_of" (top 23):=by walk_at "b1"
theorem dv23:Dv (top 23) LM.J7:=by
 intro k X r;dsimp only[LM.J7];walk_at "dv"
theorem sc36:Sc (top 36):=by walk_at "sc"
theorem bo36:Zs "_law_cell" (top 36):=by walk_at "b2"
theorem dv36:Dv (top 36) LW.Vk:=by
 intro k X r;dsimp only[LW.Vk];walk_at "dv"
theorem sc42:Sc (top 42):=by walk_at "sc"
theorem bo42:Zs "_law_parts" (top 42):=by walk_at "b1"
theorem dv42:Dv (top 42) F_law_parts:=by
 intro k X r;dsimp only[F_law_parts];walk_at "dv"
theorem sc48:Sc (top 48):=by walk_at "sc"
theorem bo48:Zs "_law_side" (top 48):=by walk_at "b2"
theorem dv48:Dv (top 48) F_law_side:=by
 intro k X r;dsimp only[F_law_side];walk_at "dv"
theorem Zhx:Sc (mth 28 2):=by walk_at "sc"
theorem Zhy:Z5 "start" (Zh "TableWorks" "start") (mth 28 2):=by walk_at "b1"
theorem Zhz:Dv (mth 28 2) LW.Uc:=by
 intro k X r;dsimp only[LW.Uc];walk_at "dv"
theorem ZhA:Sc (mth 31 3):=by walk_at "sc"
theorem ZhB:Z5 "fires" (Zh "SlowedWorks" "fires") (mth 31 3):=by walk_at "b2"
theorem ZhC:Dv (mth 31 3) LU.Uj:=by
 intro k X r;dsimp only[LU.Uj];walk_at "dv"
theorem ZhD:Sc (mth 34 4):=by walk_at "sc"
theorem ZhE:Z5 "behind" (Zh "Works" "behind") (mth 34 4):=by walk_at "b4"
theorem ZhF:Dv (mth 34 4) LW.Jf:=by
 intro k X r;dsimp only[LW.Jf];walk_at "dv"
theorem sc13:Sc (top 13):=by walk_at "sc"
theorem bo13:Zs "is_table_row" (top 13):=by walk_at "b3"
theorem dv13:Dv (top 13) LZ.rowF:=by
 intro k X r;dsimp only[LZ.rowF];walk_at "dv"
theorem sc24:Sc (top 24):=by walk_at "sc"
theorem bo24:Zs "is_machine_within" (top 24):=by walk_at "b2"
theorem dv24:Dv (top 24) LM.YS:=by
 intro k X r;dsimp only[LM.YS];walk_at "dv"
theorem sc37:Sc (top 37):=by walk_at "sc"
theorem bo37:Zs "_law_left" (top 37):=by walk_at "b2"
theorem dv37:Dv (top 37) LW.Vl:=by
 intro k X r;dsimp only[LW.Vl];walk_at "dv"
theorem sc43:Sc (top 43):=by walk_at "sc"
theorem bo43:Zs "_law_first" (top 43):=by walk_at "b2"
theorem dv43:Dv (top 43) F_law_first:=by
 intro k X r;dsimp only[F_law_first];walk_at "dv"
theorem sc49:Sc (top 49):=by walk_at "sc"
theorem bo49:Zs "_law_same" (top 49):=by walk_at "b2"
theorem dv49:Dv (top 49) F_law_same:=by
 intro k X r;dsimp only[F_law_same];walk_at "dv"
theorem ZhG:Sc (mth 28 3):=by walk_at "sc"
theorem ZhH:Z5 "fires" (Zh "TableWorks" "fires") (mth 28 3):=by walk_at "b2"
theorem ZhI:Dv (mth 28 3) LW.Ud:=by
 intro k X r;dsimp only[LW.Ud];walk_at "dv"
theorem ZhJ:Sc (mth 31 4):=by walk_at "sc"
theorem ZhK:Z5 "behind" (Zh "SlowedWorks" "behind") (mth 31 4):=by walk_at "b4"
theorem ZhL:Dv (mth 31 4) LU.Jh:=by
 intro k X r;dsimp only[LU.Jh];walk_at "dv"
theorem facts{K:Frag}{h:Heap}{mg:Str->Option Value}(KX:K.In h)(G:h.Ns mainGlobals mg)(d5:Zd K "is_whole" (top 5))(d6:Zd K "is_between" (top 6))(d7:Zd K "is_tuple_of" (top 7))(d11:Zd K "is_name" (top 11))(d12:Zd K "is_neighbour" (top 12))(d13:Zd K "is_table_row" (top 13))(d14:Zd K "are_table_rows" (top 14))(d15:Zd K "is_table" (top 15))(d16:Zd K "names_in" (top 16))(d22:Zd K "has_form" (top 22))(d23:Zd K "parts_of" (top 23))(d24:Zd K "is_machine_within" (top 24))(d25:Zd K "is_machine" (top 25))(d26:Zd K "need_machine" (top 26))(d27:Zd K "part_at" (top 27))(d33:Zd K "works_of" (top 33))(d36:Zd K "_law_cell" (top 36))(d37:Zd K "_law_left" (top 37))(d38:Zd K "_law_pick" (top 38))(d39:Zd K "_law_names" (top 39))(d40:Zd K "_law_may" (top 40))(d41:Zd K "_law_table" (top 41))(d42:Zd K "_law_parts" (top 42))(d43:Zd K "_law_first" (top 43))(d44:Zd K "_law_fires" (top 44))(d45:Zd K "_law_behind" (top 45))(d46:Zd K "_law_slow_behind" (top 46))(d47:Zd K "_law_state" (top 47))(d48:Zd K "_law_side" (top 48))(d49:Zd K "_law_same" (top 49))(d50:Zd K "_law_right" (top 50))(d51:Zd K "law" (top 51)):∀ f fi,T.lookup f=some fi->∃ st fa fd,JM T 40 K mg f fi st fa fd:=by
 refine ZgA (C:=fun f fi=>∃ st fa fd,JM T 40 K mg f fi st fa fd) ?_;dsimp only[T];refine fm (Zd.ok KX G d5 sc5 bo5 rfl rfl dv5) ?_;refine fm (Zd.ok KX G d6 sc6 bo6 rfl rfl dv6) ?_;refine fm (Zd.ok KX G d7 sc7 bo7 rfl rfl dv7) ?_;refine fm (Zd.ok KX G d11 sc11 bo11 rfl rfl dv11) ?_;refine fm (Zd.ok KX G d12 sc12 bo12 rfl rfl dv12) ?_;refine fm (Zd.ok KX G d13 sc13 bo13 rfl rfl dv13) ?_;refine fm (Zd.ok KX G d14 sc14 bo14 rfl rfl dv14) ?_;refine fm (Zd.ok KX G d15 sc15 bo15 rfl rfl dv15) ?_;refine fm (Zd.ok KX G d16 sc16 bo16 rfl rfl dv16) ?_;refine fm (Zd.ok KX G d22 sc22 bo22 rfl rfl dv22) ?_;refine fm (Zd.ok KX G d23 sc23 bo23 rfl rfl dv23) ?_;refine fm (Zd.ok KX G d24 sc24 bo24 rfl rfl dv24) ?_;refine fm (Zd.ok KX G d25 sc25 bo25 rfl rfl dv25) ?_;refine fm (Zd.ok KX G d26 sc26 bo26 rfl rfl dv26) ?_;refine fm (Zd.ok KX G d27 sc27 bo27 rfl rfl dv27) ?_;refine fm (Zd.ok KX G d33 sc33 bo33 rfl rfl dv33) ?_;refine fm (Zd.ok KX G d36 sc36 bo36 rfl rfl dv36) ?_;refine fm (Zd.ok KX G d37 sc37 bo37 rfl rfl dv37) ?_;refine fm (Zd.ok KX G d38 sc38 bo38 rfl rfl dv38) ?_;refine fm (Zd.ok KX G d39 sc39 bo39 rfl rfl dv39) ?_;refine fm (Zd.ok KX G d40 sc40 bo40 rfl rfl dv40) ?_;refine fm (Zd.ok KX G d41 sc41 bo41 rfl rfl dv41) ?_;refine fm (Zd.ok KX G d42 sc42 bo42 rfl rfl dv42) ?_;refine fm (Zd.ok KX G d43 sc43 bo43 rfl rfl dv43) ?_;refine fm (Zd.ok KX G d44 sc44 bo44 rfl rfl dv44) ?_;refine fm (Zd.ok KX G d45 sc45 bo45 rfl rfl dv45) ?_;refine fm (Zd.ok KX G d46 sc46 bo46 rfl rfl dv46) ?_;refine fm (Zd.ok KX G d47 sc47 bo47 rfl rfl dv47) ?_;refine fm (Zd.ok KX G d48 sc48 bo48 rfl rfl dv48) ?_;refine fm (Zd.ok KX G d49 sc49 bo49 rfl rfl dv49) ?_;refine fm (Zd.ok KX G d50 sc50 bo50 rfl rfl dv50) ?_;refine fm (Zd.ok KX G d51 sc51 bo51 rfl rfl dv51) ?_;exact forall_mem_nil _
theorem mfacts{K:Frag}{h:Heap}{mg:Str->Option Value}(KX:K.In h)(G:h.Ns mainGlobals mg)(d28_0:Zk K "TableWorks" "__init__" (mth 28 0))(d28_1:Zk K "TableWorks" "quiet" (mth 28 1))(d28_2:Zk K "TableWorks" "start" (mth 28 2))(d28_3:Zk K "TableWorks" "fires" (mth 28 3))(d28_4:Zk K "TableWorks" "behind" (mth 28 4))(d31_0:Zk K "SlowedWorks" "__init__" (mth 31 0))(d31_1:Zk K "SlowedWorks" "quiet" (mth 31 1))(d31_2:Zk K "SlowedWorks" "start" (mth 31 2))(d31_3:Zk K "SlowedWorks" "fires" (mth 31 3))(d31_4:Zk K "SlowedWorks" "behind" (mth 31 4))(d34_0:Zk K "Works" "__init__" (mth 34 0))(d34_1:Zk K "Works" "quiet" (mth 34 1))(d34_2:Zk K "Works" "start" (mth 34 2))(d34_3:Zk K "Works" "fires" (mth 34 3))(d34_4:Zk K "Works" "behind" (mth 34 4)):∀ C m fi,T.mts.lookup (Zh C m)=some fi->∃ st Ca fa fd,JN T 40 K mg C m fi st Ca fa fd:=by
 refine ZeM ?_;dsimp only[T];refine fm ⟨"TableWorks","__init__",by kernel_rfl,by decide +kernel,by decide +kernel,Zk.ok KX G d28_0 Zhf Zhg rfl rfl Zhh⟩ ?_;refine fm ⟨"TableWorks","quiet",by kernel_rfl,by decide +kernel,by decide +kernel,Zk.ok KX G d28_1 Zho Zhp rfl rfl Zhq⟩ ?_;refine fm ⟨"TableWorks","start",by kernel_rfl,by decide +kernel,by decide +kernel,Zk.ok KX G d28_2 Zhx Zhy rfl rfl Zhz⟩ ?_;refine fm ⟨"TableWorks","fires",by kernel_rfl,by decide +kernel,by decide +kernel,Zk.ok KX G d28_3 ZhG ZhH rfl rfl ZhI⟩ ?_;refine fm ⟨"TableWorks","behind",by kernel_rfl,by decide +kernel,by decide +kernel,Zk.ok KX G d28_4 Zg3 Zg4 rfl rfl Zg5⟩ ?_;refine fm ⟨"SlowedWorks","__init__",by kernel_rfl,by decide +kernel,by decide +kernel,Zk.ok KX G d31_0 Zg9 Zha rfl rfl Zhb⟩ ?_;refine fm ⟨"SlowedWorks","quiet",by kernel_rfl,by decide +kernel,by decide +kernel,Zk.ok KX G d31_1 Zhi Zhj rfl rfl Zhk⟩ ?_;refine fm ⟨"SlowedWorks","start",by kernel_rfl,by decide +kernel,by decide +kernel,Zk.ok KX G d31_2 Zhr Zhs rfl rfl Zht⟩ ?_;refine fm ⟨"SlowedWorks","fires",by kernel_rfl,by decide +kernel,by decide +kernel,Zk.ok KX G d31_3 ZhA ZhB rfl rfl ZhC⟩ ?_;refine fm ⟨"SlowedWorks","behind",by kernel_rfl,by decide +kernel,by decide +kernel,Zk.ok KX G d31_4 ZhJ ZhK rfl rfl ZhL⟩ ?_;refine fm ⟨"Works","__init__",by kernel_rfl,by decide +kernel,by decide +kernel,Zk.ok KX G d34_0 Zg6 Zg7 rfl rfl Zg8⟩ ?_;refine fm ⟨"Works","quiet",by kernel_rfl,by decide +kernel,by decide +kernel,Zk.ok KX G d34_1 Zhc Zhd rfl rfl Zhe⟩ ?_;refine fm ⟨"Works","start",by kernel_rfl,by decide +kernel,by decide +kernel,Zk.ok KX G d34_2 Zhl Zhm rfl rfl Zhn⟩ ?_;refine fm ⟨"Works","fires",by kernel_rfl,by decide +kernel,by decide +kernel,Zk.ok KX G d34_3 Zhu Zhv rfl rfl Zhw⟩ ?_;refine fm ⟨"Works","behind",by kernel_rfl,by decide +kernel,by decide +kernel,Zk.ok KX G d34_4 ZhD ZhE rfl rfl ZhF⟩ ?_;exact forall_mem_nil _
end K06
open PySem PySem.W PyProof.Rows L2 PF K06
theorem PySem.Challenge.cw_firetogether_k06_slowed_holds : PySem.Challenge.rw_firetogether_k06_slowed.Holds := by
 refine HQ.hd (CX:=CX0) (sp:=fun K=>spOf K K06.T 40 20 "law") ⟨?F,?S,fun H s e s' z=>z⟩
 case F=>
  intro w K mg fa h KX G hmg d5 d6 d7 d11 d12 d13 d14 d15 d16 d22 d23 d24 d25 d26 d27 d33 d36 d37 d38 d39 d40 d41 d42 d43 d44 d45 d46 d47 d48 d49 d50 d51 d28_0 d28_1 d28_2 d28_3 d28_4 d31_0 d31_1 d31_2 d31_3 d31_4 d34_0 d34_1 d34_2 d34_3 d34_4 fd0 fd1 fd2 fd3 fd4 fd5 fd6 fd7 fd8 gl0 gl1 gl2 gl3 bb gd0 gd1;have gb:∀ p∈K06.T.gls,GlIn K p.1 p.2:=by
   dsimp only[K06.T];refine fm gl0 ?_;refine fm gl1 ?_;refine fm gl2 ?_;refine fm gl3 ?_;exact forall_mem_nil _
  have fb:∀ p∈K06.T.fds,FdIn K p.1 p.2:=by
   dsimp only[K06.T];refine fm fd0 ?_;refine fm fd1 ?_;refine fm fd2 ?_;refine fm fd3 ?_;refine fm fd4 ?_;refine fm fd5 ?_;refine fm fd6 ?_;refine fm fd7 ?_;refine fm fd8 ?_;exact forall_mem_nil _
  have gdb:∀ x kvs,K06.T.gds.lookup x=some kvs->GdF K w mg x kvs:=fun x kvs hl=>by
   have hm:=PySem.mem_of_lookup (l:=K06.T.gds) hl;have ha:∀ p∈K06.T.gds,GdF K w mg p.1 p.2:=by
    dsimp only[K06.T];refine fm gd0 ?_;refine fm gd1 ?_;exact forall_mem_nil _
   exact ha _ hm
  have all:=facts KX G d5 d6 d7 d11 d12 d13 d14 d15 d16 d22 d23 d24 d25 d26 d27 d33 d36 d37 d38 d39 d40 d41 d42 d43 d44 d45 d46 d47 d48 d49 d50 d51;have mets:=mfacts KX G d28_0 d28_1 d28_2 d28_3 d28_4 d31_0 d31_1 d31_2 d31_3 d31_4 d34_0 d34_1 d34_2 d34_3 d34_4;have bl:=Zi0 KX G bb;obtain⟨fl,fd,dl,hb⟩:=Zd.ok2 (fi:=Flaw) KX G d51 sc51 bo51 rfl rfl dv51;have e0:=hmg.symm.trans dl.gl;cases e0
  exact⟨fd,fun s u=>hb s [u] rfl,fun base kb nb=>Zgy all mets bl (ZgJ KX G gb) gdb (Zi5 fb) 20 "law" Flaw (top 51) _ _ Za7 dl⟩
 case S=>exact fun K H a ns hl hO hS=>Zgz Za7 rfl (fun ns hl=>by
  obtain⟨d,S',h1,h2⟩:=Zg2 hl;rw[h2] at h1;exact⟨S',h1⟩) H a ns hl hS _
end
