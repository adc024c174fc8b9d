import PyProof.Rows.All
import Wide.All
import OpenK.AllK
import Wide.FinOn
import Lean
import PyProof.EqAt
import PyProof.EqKinds
import PyProof.TupleCall
import PyProof.Rows.SortRunsK
import OpenK.KMore
import PyProof.Rows.SortShell
import PyProof.Rows.SortWalk
import KE.KSortTup
import PyProof.StrLawsLines
import PyProof.StrWalks
import PyProof.Rows.SetFrom
import PyProof.CollectWalk
import PyProof.Rows.SortStr
import PyProof.WalksMore
import PyProof.SetKind
import PyProof.TupleKey
import PyProof.IsRules
import PyProof.DictIter
import PyProof.DictWalks
import KE.KRevIter
import PyProof.MeetsStr
import PyProof.DictCompW
import PySem.Challenge.RW_firetogether_k03_machines_of_anything
section
abbrev oAa:=@PySem.wpAny_bind
abbrev oAb:=@PySem.wpAny_pure
abbrev oAc:=@PySem.wpAny_mono
abbrev oAd:=@PySem.Heap.get?_push_of_some
abbrev oAe:=@PySem.Heap.get?_push_size
abbrev oAf:=@PySem.Heap.lt_size
abbrev oAg:=@Bool.false_ne_true
abbrev oAh:=@decide_eq_false
abbrev oAi:=@decide_eq_true
abbrev oAj:=@of_decide_eq_true
abbrev oAk:=@Option.some.inj
abbrev oAl:=@Nat.le_refl
abbrev oAm:=@List.mem_cons_of_mem
abbrev oAn:=@List.mem_cons_self
abbrev oAo:=@Nat.lt_of_lt_of_le
abbrev oAp:=@Nat.ne_of_lt
abbrev oAq:=@Nat.le_trans
abbrev oAr:=@Nat.lt_irrefl
abbrev oAs:=@Nat.lt_succ_self
abbrev oAt:=@List.getElem?_eq_getElem
abbrev oAu:=@List.mem_append_right
abbrev oAv:=@PyProof.Rows.wpS_bind
abbrev oAw:=@PyProof.Rows.wpS_pure
abbrev zPn:=List (PySem.Addr×PySem.Obj)
abbrev zVP:=PySem.Value->PySem.Shared->Prop
theorem zoB {α β:Type}{x:Option α}{f:α->Option β}{b:β}(h:x.bind f=some b):∃ a,x=some a/\f a=some b:=Option.bind_eq_some_iff.1 h
theorem zoM {α β:Type}{x:Option α}{f:α->β}{b:β}(h:x.map f=some b):∃ a,x=some a/\f a=b:=Option.map_eq_some_iff.1 h
open List (filterMap_cons mem_append_left getElem?_set_self getElem?_set_ne size_toArray length_cons length_nil append_nil of_mem_zip length_take getElem?_append_right getElem?_append_left getElem?_map mem_of_getElem? length_append length_map length_drop map_nil map_cons all_cons any_cons replicate_succ flatten_cons find?_cons nodup_nil take_of_length_le map_map getElem_mem nodup_range length_range mem_cons mem_of_mem_take mem_of_mem_drop foldl_cons not_mem_nil all_map pairwise_cons take_succ reverse_cons lookup_cons map_append nodup_cons cons_ne_nil)
open Nat (ne_of_gt le_of_eq lt_trans zero_le add_zero le_succ zero_add mod_lt succ_pos)
open PySem.Heap (SameBut get?_update_self size_push ExtBut)
open Bool (and_eq_true false_eq_true not_eq_true' or_eq_true)
open Int (emod_lt_of_pos emod_nonneg)
open Array (length_toList getElem?_eq_getElem mem_toList_iff getElem?_toList getD)
open PySem.W (Frag)
set_option Elab.async false
set_option linter.all false
set_option maxRecDepth 100000
namespace L2
open PySem PySem.Spec PyProof.Rows
inductive Key where
 |inl (i:Int) | inr (x:Str) | non
 deriving DecidableEq
noncomputable def ZcS:Key->Value->Bool
 |.inl k,v=>Value.isInt k v
 |.inr x,v=>Value.isStrOf x v
 |.non,.none=>true
 |.non,_=>false
noncomputable def keyH(w:World):Key->Int
 |.inl k=>hashInt k
 |.inr x=>hashStr w x
 |.non=>4238894112
theorem Z4:∀ {k:Key}{v:Value},ZcS k v=true->(∃ i t,k=Key.inl i/\v=Value.int i t)\/(∃ x t,k=Key.inr x/\v=Value.str x t)\/(k=Key.non/\v=Value.none)
 |.inl i,v,h=>by obtain⟨t,e⟩:=Value.isInt_shape (k:=i) (v:=v) h;exact .inl ⟨i,t,rfl,e⟩
 |.inr x,v,h=>by obtain⟨t,e⟩:=Value.isStrOf_shape (x:=x) (v:=v) h;exact .inr<|.inl ⟨x,t,rfl,e⟩
 |.non,v,h=>by cases v<;>first | exact .inr (.inr ⟨rfl,rfl⟩) | cases h
theorem ZaA{E:zVP}{Q:Int->Shared->Prop}(h:Q 4238894112 { s with toks:=s.toks+1 }):wpAny (model prog w) A (PySem.pyHash .none) Q E s:=by
 have hT:s.TypeIs .none "NoneType":=rfl;unfold PySem.pyHash pyHashByItsType;refine oAa ?_;rw[cRoomFor,if_neg (by decide)];refine oAb ?_
 refine oAa<|wpAny_specialOf hT F.slot_NoneType_hash.lookup ?_;show wpAny _ _ (if (some (Value.builtin "NoneType.__hash__")==some Value.none)=true then _ else _) Q E s;rw[if_neg (by decide)];refine oAa<|wpAny_specialOf hT F.slot_NoneType_hash.lookup ?_;show wpAny _ _ (callSpecialIfBoundUnlessNone? .none "__hash__" _>>=_) Q E s;refine oAa<|wpAny_callSpecialIfBoundUnlessNone?_slot hT F.slot_NoneType_hash<|wpAny_call_entry F.slot_NoneType_hash hT F.entry_NoneType_hash (show wpAny _ _ (do ret (<- mkInt 4238894112)) _ _ s from wpAny_ret_mkInt ?_)<|F.args_NoneType_hash_1 _;exact oAb h
theorem keq{a b:Key}:decide (a=b)=(match a,b with | .inl i,.inl j=>i==j | .inr x,.inr y=>x==y | .non,.non=>true | _,_=>false):=by
 cases a with
 | inl i=>cases b with
  | inl j=>
   by_cases e:i=j
   ·subst e;simp
   ·rw[oAh<|λ q=>e<|Key.inl.inj q];simp[e]
  |inr y=>exact oAh (λ q=>nomatch q)
  |non=>exact oAh (λ q=>nomatch q)
 | inr x=>cases b with
  |inl j=>exact oAh (λ q=>nomatch q)
  | inr y=>
   by_cases e:x=y
   ·subst e;simp
   ·rw[oAh<|λ q=>e<|Key.inr.inj q];simp[e]
  |non=>exact oAh (λ q=>nomatch q)
 | non=>cases b with
  |inl j=>exact oAh (λ q=>nomatch q)
  |inr y=>exact oAh (λ q=>nomatch q)
  |non=>rfl
noncomputable def ZA(prog:Program)(w:World):PySem.KeyKind prog w Key where
 is:=ZcS
 hash:=keyH w
 inj:=λ v a b ha hb=>by
  rcases Z4 ha with ⟨i,t,rfl,rfl⟩ | ⟨x,t,rfl,rfl⟩ | ⟨rfl,rfl⟩<;>rcases Z4 hb with ⟨j,u,rfl,e⟩ | ⟨y,u,rfl,e⟩ | ⟨rfl,e⟩<;>first | (cases e;rfl) | exact nomatch e
 byValue:=λ k v h=>by rcases Z4 h with ⟨i,t,rfl,rfl⟩ | ⟨x,t,rfl,rfl⟩ | ⟨rfl,rfl⟩<;>rfl
 pyHash:=λ hv h=>by
  rcases Z4 hv with ⟨i,t,rfl,rfl⟩ | ⟨x,t,rfl,rfl⟩ | ⟨rfl,rfl⟩
  ·exact wpAny_pyHash_int h
  ·exact wpAny_pyHash_str h
  ·exact ZaA h
 eqBool:=λ hu hv h=>by
  rw[keq] at h
  rcases Z4 hu with ⟨i,t,rfl,rfl⟩ | ⟨x,t,rfl,rfl⟩ | ⟨rfl,rfl⟩<;>rcases Z4 hv with ⟨j,u,rfl,rfl⟩ | ⟨y,u,rfl,rfl⟩ | ⟨rfl,rfl⟩
  ·exact SeqAt.EqAt.int_int i t j u _ _ _ _ h
  ·exact SeqAt.EqAt.int_str i t y u _ _ _ _ h
  ·exact SeqAt.EqAt.int_none i t _ _ _ _ h
  ·exact SeqAt.EqAt.str_int x t j u _ _ _ _ h
  ·exact SeqAt.EqAt.str_str x t y u _ _ _ _ h
  ·exact SeqAt.EqAt.str_none x t _ _ _ _ h
  ·exact SeqAt.EqAt.none_int j u _ _ _ _ h
  ·exact SeqAt.EqAt.none_str y u _ _ _ _ h
  ·exact SeqAt.EqAt.same .none _ _ _ _ h
 «strs»:=λ k x t v h=>by
  rcases Z4 h with ⟨i,u,rfl,e⟩ | ⟨y,u,rfl,e⟩ | ⟨rfl,e⟩
  ·exact nomatch e
  ·injection e with e1 _;subst e1;cases v<;>rfl
  ·exact nomatch e
theorem qR(prog:Program)(w:World)(i:Int)(t:Tok):(ZA prog w).is (.inl i) (.int i t)=true:=by show Value.isInt i (.int i t)=true;simp[Value.isInt]
theorem qS(prog:Program)(w:World)(x:Str)(t:Tok):(ZA prog w).is (.inr x) (.str x t)=true:=by show Value.isStrOf x (.str x t)=true;simp[Value.isStrOf]
theorem qT(prog:Program)(w:World):(ZA prog w).is .non .none=true:=rfl
inductive V where
 |non | bl (b:Bool) | int (i:Int) | str (x:Str) | byt (b:Array UInt8) | flt (b:UInt64) | ref (a:Addr) | ty (n:String)
 deriving DecidableEq
def RelV:V->Value->Prop
 |.non,u=>u=Value.none
 |.bl b,u=>u=Value.bool b
 |.int i,u=>∃ t,u=Value.int i t
 |.str x,u=>∃ t,u=Value.str x t
 |.byt b,u=>∃ t,u=Value.bytes b t
 |.flt b,u=>∃ t,u=Value.float b t
 |.ref a,u=>u=Value.ref a
 |.ty n,u=>u=Value.type n
abbrev Vals:List V->List Value->Prop:=Paired RelV
theorem Vals.length{xs:List V}{us:List Value}(r:Vals xs us):xs.length=us.length:=Paired.length r
theorem Vals.get:∀ {xs:List V}{us:List Value}{i:Nat}{x:V},Vals xs us->xs[i]?=some x->∃ u,us[i]?=some u/\RelV x u
 |_,_,_,_,.nil,e=>by simp at e
 |_,_,0,_,.cons r _,e=>by simp at e;subst e;exact⟨_,rfl,r⟩
 | _,_,i+1,x,.cons _ t,e=>by
  obtain⟨u,h1,h2⟩:=Vals.get (i:=i) (x:=x) t (by simpa using e);exact⟨u,by simpa using h1,h2⟩
theorem Vals.set{x:V}{u:Value}(r:RelV x u):∀ {xs:List V}{us:List Value} (i:Nat),Vals xs us->Vals (xs.set i x) (us.set i u)
 |_,_,_,.nil=>.nil
 |_,_,0,.cons _ t=>.cons r t
 |_,_,i+1,.cons q t=>.cons q<|Vals.set r i t
theorem Vals.append:∀ {xs ys:List V}{us ws:List Value},Vals xs us->Vals ys ws->Vals (xs++ys) (us++ws)
 |_,_,_,_,.nil,s=>s
 |_,_,_,_,.cons r t,s=>.cons r<|Vals.append t s
theorem Vals.take:∀ {xs:List V}{us:List Value} (n:Nat),Vals xs us->Vals (xs.take n) (us.take n)
 |_,_,0,_=>.nil
 |_,_,_+1,.nil=>.nil
 |_,_,n+1,.cons r t=>.cons r<|Vals.take n t
theorem Vals.drop:∀ {xs:List V}{us:List Value} (n:Nat),Vals xs us->Vals (xs.drop n) (us.drop n)
 |_,_,0,r=>r
 |_,_,_+1,.nil=>.nil
 |_,_,n+1,.cons _ t=>Vals.drop n t
def RelO:Option V->Option Value->Prop
 |some v,some u=>RelV v u
 |none,none=>True
 |_,_=>False
def KV{κ:Type}:List (κ×V)->List (κ×Value)->Prop:=Paired λ (p:κ×V) (q:κ×Value)=>p.1=q.1/\RelV p.2 q.2
noncomputable def kV:Key->V
 |.inl i=>.int i
 |.inr x=>.str x
 |.non=>.non
inductive HO where
  |lst (xs:List V)
  |tup (xs:List V)
  |dK (kvs:List (Key×V)) | dT (kvs:List (List Key×V))
  |set (S:Int->Bool) (n:Nat)
  |ins (C dx:Addr) (fs:List (Str×V))
  |own (x:Addr)
  |xd (fs:List (Str×V))
  |met (f x:Addr)
  |rng (lo hi:Int)
  |frz (o:Obj) (u:HO)
  |tbl (ps:Array Value)
  |ext (φ:Heap->Prop)
noncomputable abbrev Hp:=Addr->Option HO
noncomputable def upd(H:Hp)(a:Addr)(o:HO):Hp:=λ b=>if b=a then some o else H b
theorem Zo:upd H a o a=some o:=by unfold upd;rw[if_pos rfl]
theorem Zf(h:b≠a):upd H a o b=H b:=by unfold upd;rw[if_neg h]
theorem Zdg:upd (upd H a o) a u=upd H a u:=by
 funext b;unfold upd;split<;>rfl
theorem JT{H:Hp}{a b:Addr}{o u:HO}(h:H a=some o)(h':H b=some u)(d:o≠u):a≠b:=by
 intro e;subst e;rw[h] at h';exact d<|oAk h'
theorem Zl{H:Hp}{a b:Addr}{o:HO}(h:H a=some o)(h':H b=none):a≠b:=by
 intro e;subst e;rw[h] at h';cases h'
section
variable (P:Program) (w:World)
def Zr(H:Hp)(h:Heap)(a:Addr):HO->Prop
 |.lst xs=>xs.length<=sizeLine/\∃ (its:List Value) (n:Nat),Vals xs its/\h.get? a=some { cls:=.type "list",data:=.seq its.toArray n }
 |.tup xs=>xs.length<=sizeLine/\∃ its:List Value,Vals xs its/\IsTup h a its.toArray
 |.dK kvs=>kvs.length<=sizeLine/\(a==sysModules)=false/\∃ vs,KV kvs vs/\h.DictOf (ZA P w) a vs
 | .dT kvs=>kvs.length<=sizeLine/\(a==sysModules)=false/\∃ xs:List (List Key×Addr×Value),
   Paired (λ (p:List Key×V) (q:List Key×Addr×Value)=>p.1=q.1/\H q.2.1=some (.tup (p.1.map kV))/\RelV p.2 q.2.2) kvs xs /\
   ∃ o es ep,h.get? a=some o/\o.ExactDict/\o.data=.dict es ep/\es.toList=xs.map (entryOfKey (tupleKind (ZA P w)))/\(xs.map (·.1)).Nodup
 |.set S n=>h.SetOf (intKind P w) a S n
 | .ins C dx fs=>H dx=some (.own a)/\fs.length<=1000/\dx≠a/\h.get? a=some (PySem.W.instObj C dx) /\
   ∃ mA,h.Ns1 dx mA/\(∀ f,RelO (fs.lookup f) (mA f))/\PySem.Within mA (fs.map (·.1))
 |.own _=>∃ o,h.get? a=some o
 |.xd fs=>∃ mA,h.Ns1 a mA/\∀ f,RelO (fs.lookup f) (mA f)
 |.rng lo hi=>∃ t u v,h.get? a=some { cls:=.type "range",data:=.fields #[.int lo t,.int hi u,.int 1 v] }
 |.frz o u=>h.get? a=some o/\Zr H h a u
 |.tbl ps=>h.get? a=some { cls:=.none,data:=.fields ps }
 |.met f x=>h.get? a=some (PySem.W.methodObj (.ref f) (.ref x))
 |.ext φ=>φ h/\(∃ o,h.get? a=some o)/\∀ h1 h2:Heap,φ h1->(∀ o,h1.get? a=some o->h2.get? a=some o)->φ h2
def HOk(H:Hp)(h:Heap):Prop:=∀ a o,H a=some o->Zr P w H h a o
end
section
variable {P:Program}{w:World}{H H':Hp}{h h':Heap}{a:Addr}{o:HO}
theorem Zr.lt(x:Zr P w H h a o):a<h.objs.size:=by
 cases o with
 |lst xs=>obtain⟨_,_,_,_,e⟩:=x;exact oAf e
 |tup xs=>obtain⟨_,_,_,p⟩:=x;exact p.lt
 |dK kvs=>obtain⟨_,_,_,_,o,_,_,e,_⟩:=x;exact oAf e
 |dT kvs=>obtain⟨_,_,_,_,o,_,_,e,_⟩:=x;exact oAf e
 |set S n=>obtain⟨o,_,_,_,e,_⟩:=x;exact oAf e
 |ins C dx fs=>obtain⟨_,_,_,e,_⟩:=x;exact oAf e
 |own y=>obtain⟨_,e⟩:=x;exact oAf e
 |xd fs=>obtain⟨_,⟨_,_,_,e,_⟩,_⟩:=x;exact oAf e
 |rng lo hi=>obtain⟨_,_,_,e⟩:=x;exact oAf e
 |frz ob u=>obtain⟨e,_⟩:=x;exact oAf e
 |tbl ps=>exact oAf (show h.get? a=some _ from x)
 |met f y=>exact oAf (show h.get? a=some _ from x)
 |ext φ=>obtain⟨_,⟨_,e⟩,_⟩:=x;exact oAf e
theorem Paired.mapP{α β:Type}{F G:α->β->Prop}:∀ {l₁:List α}{l₂:List β},Paired F l₁ l₂->(∀ a b,F a b->G a b)->Paired G l₁ l₂
 |_,_,.nil,_=>.nil
 |_,_,.cons r t,f=>.cons (f _ _ r)<|Paired.mapP t f
theorem Zr.stay(x:Zr P w H h a o)(k:∀ b u,(b=a\/H b=some (.own a))->h.get? b=some u->h'.get? b=some u)
  (ho:∀ b,H b=some (.own a)->H' b=some (.own a))(ht:∀ b xs,H b=some (.tup xs)->H' b=some (.tup xs)):Zr P w H' h' a o:=by
 induction o with
 |lst xs=>obtain⟨z,its,n,r,e⟩:=x;exact⟨z,its,n,r,k _ _ (.inl rfl) e⟩
 |tup xs=>obtain⟨z,its,r,ob,e,c⟩:=x;exact⟨z,its,r,ob,k _ _ (.inl rfl) e,c⟩
 |dK kvs=>obtain⟨z,y,vs,r,ob,es,ep,e,c⟩:=x;exact⟨z,y,vs,r,ob,es,ep,k _ _ (.inl rfl) e,c⟩
 | dT kvs=>
  obtain⟨z,y,xs,r,ob,es,ep,e,c⟩:=x;exact⟨z,y,xs,Paired.mapP r λ p q z=>⟨z.1,ht _ _ z.2.1,z.2.2⟩,ob,es,ep,k _ _ (.inl rfl) e,c⟩
 |set S n=>obtain⟨ob,es,ep,t,e,c⟩:=x;exact⟨ob,es,ep,t,k _ _ (.inl rfl) e,c⟩
 | ins C dx fs=>
  obtain⟨d,z,ne,e,mA,⟨od,es,ep,e2,c⟩,r⟩:=x;exact⟨ho _ d,z,ne,k _ _ (.inl rfl) e,mA,⟨od,es,ep,k _ _ (.inr d) e2,c⟩,r⟩
 |own y=>obtain⟨ob,e⟩:=x;exact⟨ob,k _ _ (.inl rfl) e⟩
 |xd fs=>obtain⟨mA,⟨od,es,ep,e,c⟩,r⟩:=x;exact⟨mA,⟨od,es,ep,k _ _ (.inl rfl) e,c⟩,r⟩
 |rng lo hi=>obtain⟨t,u,v,e⟩:=x;exact⟨t,u,v,k _ _ (.inl rfl) e⟩
 |frz ob u ih=>obtain⟨e,q⟩:=x;exact⟨k _ _ (.inl rfl) e,ih q⟩
 | tbl ps=>
  have e:h.get? a=some { cls:=.none,data:=.fields ps }:=x;show h'.get? a=some { cls:=.none,data:=.fields ps };exact k a _ (.inl rfl) e
 | met f y=>
  have e:h.get? a=some (PySem.W.methodObj (.ref f)<|.ref y):=x;show h'.get? a=some (PySem.W.methodObj (.ref f)<|.ref y);exact k a _ (.inl rfl) e
 |ext φ=>obtain⟨p,⟨o,e⟩,st⟩:=x;exact⟨st _ _ p λ o q=>k _ _ (.inl rfl) q,⟨o,k _ _ (.inl rfl) e⟩,st⟩
theorem HOk.lt(x:HOk P w H h)(e:H a=some o):a<h.objs.size:=(x a o e).lt
theorem HOk.fresh(x:HOk P w H h)(e:h.objs.size<=a):H a=none:=by
 cases q:H a with
 |none=>rfl
 |some u=>exact absurd (oAo (x.lt q) e)<|oAr _
theorem HOk.kept(x:HOk P w H h)(k:∀ b u,h.get? b=some u->h'.get? b=some u):HOk P w H h':=λ a o e=>
 (x a o e).stay (λ b u _ q=>k b u q) (λ _ q=>q) λ _ _ q=>q
theorem HOk.laid(x:HOk P w H h)(k:∀ b u,h.get? b=some u->h'.get? b=some u)(hp:h.objs.size<=a)(new:Zr P w (upd H a o) h' a o):HOk P w (upd H a o) h':=λ b u e=>by
 have hn:=x.fresh hp;by_cases hb:b=a
 ·subst hb;rw[Zo] at e;cases e;exact new
 ·rw[Zf hb] at e;exact(x b u e).stay (λ c v _ q=>k c v q) (λ c q=>by rw[Zf<|Zl q hn];exact q) λ c xs q=>by rw[Zf<|Zl q hn];exact q
end
def Rd(H:Hp)(a:Addr)(u:HO):Prop:=H a=some u\/∃ o,H a=some (.frz o u)
theorem Rd.ok(r:Rd H a u)(x:HOk P w H h):Zr P w H h a u:=by
 rcases r with r | ⟨o,r⟩
 ·exact x a u r
 ·obtain⟨_,q⟩:=x a _ r;exact q
def Mut:Option HO->Prop
 |some (.lst _)=>True
 |some (.dK _)=>True
 |some (.dT _)=>True
 |some (.set _ _)=>True
 |some (.ins _ _ _)=>True
 |some (.ext _)=>True
 |_=>False
section
variable {P:Program}{w:World}{H:Hp}{h h':Heap}{x e:Addr}{o':HO}
theorem HOk.write(ok:HOk P w H h)(mu:Mut (H x))(he:e=x\/H e=some (.own x))(k:∀ b u,b≠e->h.get? b=some u->h'.get? b=some u)(heo:∃ u,h'.get? e=some u)
  (new:Zr P w (upd H x o') h' x o'):HOk P w (upd H x o') h':=λ b u q=>by
 have nown:∀ c y,H c=some (.own y)->c≠x:=λ c y r z=>by subst z;rw[r] at mu;exact mu
 have ntup:∀ c xs,H c=some (.tup xs)->c≠x:=λ c xs r z=>by subst z;rw[r] at mu;exact mu
 by_cases hb:b=x
 ·subst hb;rw[Zo] at q;cases q;exact new
 ·rw[Zf hb] at q;by_cases hbe:b=e
  ·have q':H b=some (.own x):=by
    rcases he with z | z
    ·exact absurd (hbe.trans z) hb
    ·rw[hbe];exact z
   rw[q] at q';cases q'
   obtain⟨v,hv⟩:=heo;exact⟨v,by rw[hbe];exact hv⟩
  ·refine(ok b u q).stay (λ c v hc r=>k c v ?_ r) (λ c r=>by rw[Zf<|nown c b r];exact r) λ c xs r=>by rw[Zf<|ntup c xs r];exact r
   rcases hc with rfl | hc
   ·exact hbe
   ·rintro rfl
    rcases he with z | z
    ·exact nown c b hc z
    ·rw[hc] at z;cases z;exact hb rfl
end
structure Un(fs ex:List Addr)(H H':Hp)(h h':Heap):Prop where
 keep:∀ b o,h.get? b=some o->H b=none->b∉fs->b∉ex->h'.get? b=some o
 slot:∀ b o,h.get? b=some o->H b=none->b∈fs->b∉ex->∃ sl,h'.get? b=some { o with slots:=sl }
 free:∀ b o,h.get? b=some o->H b=none->b∉ex->H' b=none
 there:∀ b o,h.get? b=some o->b∉ex->∃ o',h'.get? b=some o'
 tups:∀ b xs,H b=some (.tup xs)->H' b=some (.tup xs)
 frzs:∀ b o u,H b=some (.frz o u)->H' b=some (.frz o u)
 tbls:∀ b ps,H b=some (.tbl ps)->∃ more,H' b=some (.tbl (ps++more))
section
variable {fs fs' ex ex':List Addr}{H H1 H2:Hp}{h h1 h2 h':Heap}{a x e:Addr}{o:HO}
theorem Un.any(u:Un fs ex H H1 h h1)(q:h.get? b=some ob)(n:H b=none)(hx:b∉ex):∃ sl,h1.get? b=some { ob with slots:=sl }:=by
 by_cases hb:b∈fs
 ·exact u.slot b ob q n hb hx
 ·exact⟨ob.slots,u.keep b ob q n hb hx⟩
theorem Un.kept(k:∀ b u,h.get? b=some u->h'.get? b=some u):Un fs ex H H h h':=
 ⟨λ b ob q _ _ _=>k b ob q,λ b ob q _ _ _=>⟨ob.slots,k b ob q⟩,λ _ _ _ n _=>n,λ b ob q _=>⟨ob,k b ob q⟩,λ _ _ q=>q,λ _ _ _ q=>q,λ _ ps q=>⟨#[],by rw[q];simp⟩⟩
theorem Un.refl:Un fs ex H H h h:=Un.kept λ _ _ q=>q
theorem Un.laid(k:∀ b u,h.get? b=some u->h'.get? b=some u)(hp:h.objs.size<=a)(hn:H a=none):Un fs ex H (upd H a o) h h' where
 keep:=λ b u q _ _ _=>k b u q
 slot:=λ b u q _ _ _=>⟨u.slots,k b u q⟩
 free:=λ b u q n _=>by rw[Zf<|oAp<|oAo (oAf q) hp];exact n
 there:=λ b u q _=>⟨u,k b u q⟩
 tups:=λ b xs q=>by rw[Zf<|Zl q hn];exact q
 frzs:=λ b u xs q=>by rw[Zf<|Zl q hn];exact q
 tbls:=λ b ps q=>⟨#[],by rw[Zf<|Zl q hn,q];simp⟩
theorem Un.write(mu:Mut (H x))(he:e=x\/H e=some (.own x))(k:∀ b u,b≠e->h.get? b=some u->h'.get? b=some u)(heo:∃ u,h'.get? e=some u):Un fs ex H (upd H x o) h h':=by
 have hx:∀ b,H b=none->b≠x:=λ b n z=>by subst z;rw[n] at mu;exact mu
 have hb:∀ b,H b=none->b≠e:=λ b n z=>by
  subst z
  rcases he with r | r
  ·exact hx b n r
  ·rw[n] at r;cases r
 have hm:∀ b u,H b=some u->¬ Mut (some u)->b≠x:=λ b u q nm z=>by subst z;rw[q] at mu;exact nm mu
 refine⟨λ b u q n _ _=>k b u (hb b n) q,λ b u q n _ _=>⟨u.slots,k b u (hb b n) q⟩,λ b u q n _=>by rw[Zf<|hx b n];exact n,λ b u q _=>?_,
  λ b xs q=>by rw[Zf<|hm b _ q λ z=>z];exact q,λ b u xs q=>by rw[Zf<|hm b _ q λ z=>z];exact q,λ b ps q=>⟨#[],by rw[Zf<|hm b _ q λ z=>z,q];simp⟩⟩
 by_cases hbe:b=e
 ·subst hbe;exact heo
 ·exact⟨u,k b u hbe q⟩
end
noncomputable def trk(h:Heap)(H:Hp):List Addr:=(List.range h.objs.size).filter λ a=>(H a).isSome
noncomputable def hidT(h:Heap)(H:Hp):Heap:=PySem.W.hideAll h (trk h H)
theorem ZaB(h:Heap)(H:Hp):(hidT h H).objs.size=h.objs.size:=PySem.W.hideAll_size _ _
theorem ZbX(e:h.get? b=some o)(n:H b=none):(hidT h H).get? b=some o:=
 PySem.W.hideAll_get _ e λ hm=>by
  have q:(H b).isSome=true:=(List.mem_filter.1 hm).2;rw[n] at q;simp at q
theorem Zdh(e:(hidT h H).get? b=some o):h.get? b=some o/\H b=none:=by
 have e':h.get? b=some o:=PySem.W.of_hideAll (trk h H) e;refine⟨e',?_⟩;cases q:H b with
 |none=>rfl
 | some x=>
  have hm:b∈trk h H:=List.mem_filter.2 ⟨List.mem_range.2<|oAf e',by simp[q]⟩;have z:(hidT h H).get? b=none:=PySem.W.hideAll_none (trk h H) hm;rw[z] at e;cases e
structure Mod(K:Frag)(mg:Str->Option Value)(base:Heap):Prop where
 kin:K.In base
 glob:base.Ns mainGlobals mg
 blt:∃ mb,base.Ns builtinsNs mb/\∀ x:Str,x≠"__name__"->mb x=bootBuiltins x
 nolimit:base.NoLimit
structure Cx where
 prog:Program
 w:World
 K:Frag
 mg:Str->Option Value
 base:Heap
 A:Around
 N:List Str
 s₀:Shared
 H₀:Hp
 env:Env
 outer:List Env
 stack:List Env
 ex:List Addr
 fn:Str->Bool
 calm:Bool
 pn:zPn
 xe:Value->Shared->Prop
noncomputable def frs(l:List Env):List Addr:=l.filterMap (·.frame)
noncomputable abbrev Cx.fs(X:Cx):List Addr:=frs X.outer
def Vis(sc:Scope)(x:Str):Prop:=sc.names.lookup x=some .local\/sc.names.lookup x=some .cell\/sc.names.lookup x=some .free
def Loc(sc:Scope)(x:Str):Prop:=sc.names.lookup x=some .local\/sc.names.lookup x=some .cell
def Look(env:Env)(h:Heap)(m:Str->Option Value)(x:Str)(u:Value):Prop:=
 (env.kindOf x=some .local/\m x=some u)\/((env.kindOf x=some .cell\/env.kindOf x=some .free)/\∃ c,env.cells.lookup x=some c/\h.IsCell c (some u))
structure Cx.Ok(X:Cx):Prop where
 mod:Mod X.K X.mg X.base
 kind:X.env.scope.kind=.function
 glob:X.env.globals=mainGlobals
 blt:X.env.builtins=builtinsNs
 above:X.s₀.heap.objs.size<=X.env.locals
 inj:∀ x y c,X.env.cells.lookup x=some c->X.env.cells.lookup y=some c->x=y
 has:∀ x,(X.env.kindOf x=some .cell\/X.env.kindOf x=some .free)->∃ c,X.env.cells.lookup x=some c
 cab:∀ x c,X.fn x=true->X.env.cells.lookup x=some c->X.s₀.heap.objs.size<=c
 hd:X.calm=true->X.A.handled=none
 frames:X.A.frames=some X.stack
 stk:X.stack=X.outer\/(X.stack=X.env::X.outer/\X.env.frame=some X.env.locals)
 exf:∀ b∈X.ex,b≠X.env.locals/\∀ x c,X.env.cells.lookup x=some c->c≠b
 bs:∀ b o,X.base.get? b=some o->X.s₀.heap.get? b=some o/\X.H₀ b=none
 bsz:X.base.objs.size<=X.s₀.heap.objs.size
 noex:∀ b o,X.base.get? b=some o->b∉X.ex
 exfs:∀ b∈X.ex,b∉X.fs
 funs:X.s₀.heap.FunFrames X.base X.outer
 frf:∀ b∈X.fs,X.H₀ b=none
structure Inv(X:Cx)(pj:zPn)(σ:List (Option V))(H:Hp)(s:Shared):Prop where
 ok:X.Ok
 os:s.os=X.s₀.os
 bare:AllBare s.gens
 base:Un X.fs X.ex X.H₀ H X.s₀.heap s.heap
 loc:∃ m,s.heap.Ns X.env.locals m/\∀ (i:Nat) (x:Str) (v:V),X.N[i]?=some x->σ[i]?=some (some v)->Vis X.env.scope x->∃ u,RelV v u/\Look X.env s.heap m x u
 cell:∀ x c,X.env.cells.lookup x=some c->∃ v,s.heap.IsCell c v
 free:H X.env.locals=none
 freeC:∀ x c,X.env.cells.lookup x=some c->H c=none
 pin:∀ p∈X.pn++pj,s.heap.get? p.1=some p.2/\H p.1=none/\p.1≠X.env.locals/\p.1∉X.fs/\∀ v,p.2.data≠.cell v
 hok:HOk X.prog X.w H s.heap
 len:σ.length=X.N.length
section
variable {X:Cx}{pj:zPn}{σ:List (Option V)}{H H':Hp}{s:Shared}{h':Heap}
theorem Cx.Ok.nofr(ok:X.Ok)(e:X.base.get? b=some o):b∉X.fs:=λ hb=>by
 have:=(ok.funs.mem hb).1;rw[e] at this;cases this
theorem Inv.bs(I:Inv X pj σ H s):∀ b o,X.base.get? b=some o->s.heap.get? b=some o/\H b=none:=λ b o e=>
 ⟨I.base.keep b o (I.ok.bs b o e).1 (I.ok.bs b o e).2 (I.ok.nofr e)<|I.ok.noex b o e,I.base.free b o (I.ok.bs b o e).1 (I.ok.bs b o e).2<|I.ok.noex b o e⟩
theorem Inv.bk(I:Inv X pj σ H s):∀ b o,X.base.get? b=some o->s.heap.get? b=some o:=λ b o e=>(I.bs b o e).1
theorem Inv.mod(I:Inv X pj σ H s):Mod X.K X.mg X.base:=I.ok.mod
theorem Inv.kIn(I:Inv X pj σ H s):X.K.In s.heap:=I.ok.mod.kin.keeps I.bk
theorem Inv.lt(I:Inv X pj σ H s):X.env.locals<s.heap.objs.size:=let ⟨_,hn,_⟩:=I.loc;hn.lt
theorem Inv.sz(I:Inv X pj σ H s):X.s₀.heap.objs.size<=s.heap.objs.size:=oAq I.ok.above<|Nat.le_of_lt I.lt
theorem Inv.nofs(I:Inv X pj σ H s)(h:s.heap.objs.size<=a):a∉X.fs:=λ hb=>by
 obtain⟨_,o,ho,_⟩:=I.ok.funs.mem hb;exact absurd (oAo (oAf ho)<|oAq I.sz h)<|oAr _
theorem Inv.cne(I:Inv X pj σ H s):∀ x c,X.env.cells.lookup x=some c->c≠X.env.locals:=λ x c e z=>by
 obtain⟨v,o,ho,hd⟩:=I.cell x c e;obtain⟨m,⟨o',es,ep,ho',hd',_⟩,_⟩:=I.loc;rw[z,ho'] at ho;cases ho;rw[hd'] at hd;cases hd
theorem Inv.funs(I:Inv X pj σ H s):s.heap.FunFrames X.base X.outer:=by
 have all:∀ (l:List Env),(∀ b∈frs l,b∈X.fs)->X.s₀.heap.FunFrames X.base l->s.heap.FunFrames X.base l:=by
  intro l
  induction l with
  |nil=>intro _ _;trivial
  | cons env r ih=>
   intro hs hl;obtain⟨hk,⟨L,o,hf,hn,ho,hd⟩,hr⟩:=hl;have hL:L∈X.fs:=hs L (by unfold frs;rw[filterMap_cons,hf];exact oAn)
   obtain⟨sl,e⟩:=I.base.slot L o ho (I.ok.frf L hL) hL λ z=>I.ok.exfs L z hL;exact⟨hk,⟨L,_,hf,hn,e,hd⟩,ih (λ b hb=>hs b<|by unfold frs;rw[filterMap_cons,hf];exact oAm _ hb) hr⟩
 exact all X.outer (λ _ hb=>hb) I.ok.funs
theorem Inv.stack(I:Inv X pj σ H s):s.heap.FunFrames X.base X.stack:=by
 rcases I.ok.stk with e | ⟨e,hf⟩
 ·rw[e];exact I.funs
 ·rw[e];obtain⟨m,hn,_⟩:=I.loc;refine .cons (by rw[I.ok.kind];decide) hf hn ?_ I.funs
  exact Heap.get?_none_of_le<|oAq I.ok.bsz I.ok.above
theorem Inv.stkSub(I:Inv X pj σ H s):∀ b∈frs X.stack,b∈X.env.locals::X.fs:=λ b hb=>by
 rcases I.ok.stk with e | ⟨e,hf⟩
 ·rw[e] at hb;exact oAm _ hb
 ·rw[e] at hb;unfold frs at hb;rw[filterMap_cons,hf] at hb;exact hb
theorem Inv.stkFree(I:Inv X pj σ H s):∀ b∈frs X.stack,H b=none:=λ b hb=>by
 rcases List.mem_cons.1 (I.stkSub b hb) with e | hb
 ·rw[e];exact I.free
 ·obtain⟨_,o,ho,_⟩:=I.ok.funs.mem hb;exact I.base.free b o ho (I.ok.frf b hb) λ z=>I.ok.exfs b z hb
theorem Inv.step{g':Array GenState}{t':Nat}{d':Drawn}{ch:List Addr}(I:Inv X pj σ H s)
  (hch:∀ b∈ch,(b∈X.ex\/X.s₀.heap.objs.size<=b)/\b≠X.env.locals/\(∀ x c,X.env.cells.lookup x=some c->c≠b)/\∀ p∈X.pn++pj,p.1≠b)
  (keep:∀ b o,b≠X.env.locals->b∉X.fs->b∉ch->s.heap.get? b=some o->H b=none->h'.get? b=some o)
  (slot:∀ b o,b≠X.env.locals->b∈X.fs->b∉ch->s.heap.get? b=some o->H b=none->∃ sl,h'.get? b=some { o with slots:=sl })(free:∀ b o,b∉ch->s.heap.get? b=some o->H b=none->H' b=none)
  (there:∀ b o,b∉ch->s.heap.get? b=some o->∃ o',h'.get? b=some o')
  (tups:∀ b xs,H b=some (.tup xs)->H' b=some (.tup xs))(frzs:∀ b o u,H b=some (.frz o u)->H' b=some (.frz o u))(tbls:∀ b ps,H b=some (.tbl ps)->∃ more,H' b=some (.tbl (ps++more)))
  (ns:∀ m,s.heap.Ns X.env.locals m->h'.Ns X.env.locals m)(hok:HOk X.prog X.w H' h')(hg:AllBare g') :
  Inv X pj σ H' { s with heap:=h',gens:=g',drawn:=d',toks:=t' }:=by
 have neL:∀ b o,X.s₀.heap.get? b=some o->b≠X.env.locals:=λ b o e=>oAp<|oAo (oAf e) I.ok.above;have neC:∀ b o,X.s₀.heap.get? b=some o->b∉X.ex->b∉ch:=λ b o e hx hb=>by
  rcases (hch b hb).1 with z | z
  ·exact hx z
  ·exact absurd (oAo (oAf e) z)<|oAr _
 have cellK:∀ x c,X.env.cells.lookup x=some c->∀ v,s.heap.IsCell c v->h'.IsCell c v:=λ x c e v ⟨o,ho,hd⟩=>by
  have nch:c∉ch:=λ z=>(hch c z).2.2.1 x c e rfl;by_cases hc:c∈X.fs
  ·obtain⟨sl,q⟩:=slot c o (I.cne x c e) hc nch ho<|I.freeC x c e;exact⟨_,q,hd⟩
  ·exact⟨o,keep c o (I.cne x c e) hc nch ho<|I.freeC x c e,hd⟩
 refine⟨I.ok,I.os,hg,⟨λ b o e n hb hx=>?_,λ b o e n hb hx=>?_,λ b o e n hx=>?_,λ b o e hx=>?_,λ b xs e=>tups b xs<|I.base.tups b xs e,λ b o xs e=>frzs b o xs<|I.base.frzs b o xs e,λ b ps e=>?_⟩,?_,λ x c e=>?_,?_,λ x c e=>?_,λ p hp=>?_,hok,I.len⟩
 ·exact keep b o (neL b o e) hb (neC b o e hx) (I.base.keep b o e n hb hx)<|I.base.free b o e n hx
 ·obtain⟨sl,e1⟩:=I.base.slot b o e n hb hx;obtain⟨sl',e2⟩:=slot b _ (neL b o e) hb (neC b o e hx) e1<|I.base.free b o e n hx;exact⟨sl',e2⟩
 ·obtain⟨o',e1⟩:=I.base.there b o e hx;exact free b o' (neC b o e hx) e1<|I.base.free b o e n hx
 ·obtain⟨o',e1⟩:=I.base.there b o e hx;exact there b o' (neC b o e hx) e1
 ·obtain⟨m1,e1⟩:=I.base.tbls b ps e;obtain⟨m2,e2⟩:=tbls b _ e1;exact⟨m1++m2,by rw[e2,Array.append_assoc]⟩
 ·obtain⟨m,hn,hl⟩:=I.loc;refine⟨m,ns m hn,λ i x v e1 e2 e3=>?_⟩;obtain⟨u,r,l⟩:=hl i x v e1 e2 e3;refine⟨u,r,?_⟩
  rcases l with l | ⟨k,c,e,z⟩
  ·exact .inl l
  ·exact .inr ⟨k,c,e,cellK x c e _ z⟩
 ·obtain⟨v,z⟩:=I.cell x c e;exact⟨v,cellK x c e v z⟩
 ·obtain⟨m,⟨o,_,_,ho,_⟩,_⟩:=I.loc;exact free _ o (λ z=>(hch _ z).2.1 rfl) ho I.free
 ·obtain⟨v,o,ho,hd⟩:=I.cell x c e;exact free c o (λ z=>(hch c z).2.2.1 x c e rfl) ho<|I.freeC x c e
 ·obtain⟨e,n,ne,nf,d⟩:=I.pin p hp;have nch:p.1∉ch:=λ z=>(hch p.1 z).2.2.2 p hp rfl;exact⟨keep p.1 p.2 ne nf nch e n,free p.1 p.2 nch e n,ne,nf,d⟩
theorem Inv.un{t':Nat}(I:Inv X pj σ H s)(u:Un X.fs [] H H' s.heap h')(hok:HOk X.prog X.w H' h'):Inv X pj σ H' { s with heap:=h',toks:=t' }:=by
 obtain⟨m,⟨o,es,ep,ho,r⟩,_⟩:=id I.loc;obtain⟨sl,hL⟩:=u.any ho I.free (by simp);exact I.step (g':=s.gens) (d':=s.drawn) (ch:=[]) (λ _ z=>nomatch z) (λ b o _ hb _ e n=>u.keep b o e n hb<|by simp) (λ b o _ hb _ e n=>u.slot b o e n hb<|by simp) (λ b o _ e n=>u.free b o e n<|by simp) (λ b o _ e=>u.there b o e<|by simp) u.tups u.frzs u.tbls (λ m' hm=>by
  obtain⟨o',es',ep',ho',r'⟩:=hm;rw[ho] at ho';cases ho'
  exact⟨_,es',ep',hL,r'⟩) hok I.bare
theorem Inv.call{g':Array GenState}{t':Nat}{d':Drawn}{ch:List Addr}(I:Inv X pj σ H s)(u:Un (frs X.stack) ch H H' s.heap h')(hok:HOk X.prog X.w H' h')(hg:AllBare g')
  (hch:∀ b∈ch,(b∈X.ex\/X.s₀.heap.objs.size<=b)/\b≠X.env.locals/\(∀ x c,X.env.cells.lookup x=some c->c≠b)/\∀ p∈X.pn++pj,p.1≠b) :
  Inv X pj σ H' { s with heap:=h',gens:=g',drawn:=d',toks:=t' }:=by
 obtain⟨m,⟨o,es,ep,ho,r⟩,_⟩:=id I.loc;obtain⟨sl,hL⟩:=u.any ho I.free λ z=>(hch _ z).2.1 rfl;exact I.step (ch:=ch) hch (λ b o hL hb hc e n=>u.keep b o e n (λ z=>(List.mem_cons.1<|I.stkSub b z).elim hL hb) hc) (λ b o _ _ hc e n=>u.any e n hc) (λ b o hc e n=>u.free b o e n hc) (λ b o hc e=>u.there b o e hc) u.tups u.frzs u.tbls (λ m' hm=>by
  obtain⟨o',es',ep',ho',r'⟩:=hm;rw[ho] at ho';cases ho'
  exact⟨_,es',ep',hL,r'⟩) hok hg
theorem Inv.turned{t':Nat}{it:Addr}(I:Inv X pj σ H s)(k:∀ b o,b≠it->s.heap.get? b=some o->h'.get? b=some o)(hn:H it=none)(hL:it≠X.env.locals)
  (h1:it∈X.ex\/X.s₀.heap.objs.size<=it)(h2:∀ x c,X.env.cells.lookup x=some c->c≠it)(h3:∀ p∈X.pn++pj,p.1≠it):Inv X pj σ H { s with heap:=h',toks:=t' }:=by
 have nit:∀ b u,H b=some u->b≠it:=λ b u e z=>by rw[z,hn] at e;cases e
 refine I.step (g':=s.gens) (d':=s.drawn) (ch:=[it]) (λ b hb=>?_) (λ b o _ _ hc e _=>k b o (λ z=>hc<|by simp[z]) e) (λ b o _ _ hc e _=>⟨o.slots,k b o (λ z=>hc<|by simp[z]) e⟩) (λ _ _ _ _ n=>n)
  (λ b o hc e=>⟨o,k b o (λ z=>hc<|by simp[z]) e⟩) (λ _ _ e=>e) (λ _ _ _ e=>e) (λ b ps e=>⟨#[],by rw[e];simp⟩) (λ m hm=>?_) (λ b u e=>?_) I.bare
 ·have e:b=it:=by simpa using hb
  subst e;exact⟨h1,hL,h2,h3⟩
 ·obtain⟨o,es,ep,ho,r⟩:=hm;exact⟨o,es,ep,k _ o (Ne.symm hL) ho,r⟩
 ·refine(I.hok b u e).stay (λ c v hc q=>k c v ?_ q) (λ _ q=>q) λ _ _ q=>q
  rcases hc with z | z
  ·rw[z];exact nit b u e
  ·exact nit c _ z
theorem Inv.tok(I:Inv X pj σ H s)(t:Nat):Inv X pj σ H { s with toks:=t }:=I.un (h':=s.heap) (t':=t) Un.refl I.hok
theorem Inv.kept(I:Inv X pj σ H s)(k:∀ b u,s.heap.get? b=some u->h'.get? b=some u):Inv X pj σ H { s with heap:=h',toks:=t' }:=I.un (Un.kept k)<|I.hok.kept k
theorem Inv.laid(I:Inv X pj σ H s)(k:∀ b u,s.heap.get? b=some u->h'.get? b=some u)(hp:s.heap.objs.size<=a)(new:Zr X.prog X.w (upd H a o) h' a o) :
  Inv X pj σ (upd H a o) { s with heap:=h',toks:=t' }:=I.un (Un.laid k hp<|I.hok.fresh hp)<|I.hok.laid k hp new
theorem Inv.write(I:Inv X pj σ H s)(mu:Mut (H x))(he:e=x\/H e=some (.own x))(k:∀ b u,b≠e->s.heap.get? b=some u->h'.get? b=some u)(heo:∃ u,h'.get? e=some u)
  (new:Zr X.prog X.w (upd H x o) h' x o):Inv X pj σ (upd H x o) { s with heap:=h',toks:=t' }:=I.un (Un.write mu he k heo)<|I.hok.write mu he k heo new
theorem Inv.pins_of(I:Inv X pj σ H s)(h:∀ p∈pins',s.heap.get? p.1=some p.2/\H p.1=none/\p.1≠X.env.locals/\p.1∉X.fs/\∀ v,p.2.data≠.cell v):Inv X pins' σ H s:=
 ⟨I.ok,I.os,I.bare,I.base,I.loc,I.cell,I.free,I.freeC,λ p hp=>(List.mem_append.1 hp).elim (λ z=>I.pin p<|mem_append_left _ z)<|h p,I.hok,I.len⟩
theorem WM{N:List Str}(hN:N.Nodup){i j:Nat}{x:Str}(a:N[i]?=some x)(b:N[j]?=some x):i=j:=by
 obtain⟨h1,e1⟩:=List.getElem?_eq_some_iff.1 a;obtain⟨h2,e2⟩:=List.getElem?_eq_some_iff.1 b;exact(List.getElem_inj hN).mp (e1.trans e2.symm)
theorem ZaC{M:Model}{A:Around}{E:zVP}{i:Nat}{x:Str}{v:V}{u:Value}{Q:Unit->Shared->Prop}(I:Inv X pj σ H s)(hN:X.N.Nodup)(hi:X.N[i]?=some x)(hx:Loc X.env.scope x)(r:RelV v u)
  (h:∀ s',Inv X pj (σ.set i (some v)) H s'->(∃ a,SameBut a s.heap s'.heap/\(a=X.env.locals\/X.env.cells.lookup x=some a))->Q () s')(hf:X.fn x=true\/X.env.scope.names.lookup x=some .local:=by first | exact .inl rfl | exact .inr rfl | assumption):wpAny M A (storeName X.env x u) Q E s:=by
 obtain⟨m,hn,hl⟩:=id I.loc;have hcls:(X.env.scope.kind==.class||(X.env.scope.kind==.module&&X.env.locals != X.env.globals))=false:=by rw[I.ok.kind];rfl
 have hiσ:i < σ.length:=by rw[I.len];exact(List.getElem?_eq_some_iff.1 hi).1
 have cne:=I.cne;have tracked:∀ {a:Addr}{h':Heap},(∃ o,s.heap.get? a=some o/\H a=none)->SameBut a s.heap h'->HOk X.prog X.w H h':=λ {a h'} ha hs b ob e=>by
  obtain⟨_,_,hfree⟩:=ha;refine(I.hok b ob e).stay (λ c w' hc q=>(hs.2 c ?_).trans q) (λ _ q=>q) λ _ _ q=>q;rintro rfl
  rcases hc with rfl | hc
  ·rw[hfree] at e;cases e
  ·rw[hfree] at hc;cases hc
 rcases hx with hk | hk
 ·refine wpAny_storeName_local hk hn (λ h' hn' hs=>?_) hcls;obtain⟨oL,_,_,hoL,_⟩:=id hn;refine h _ ⟨I.ok,I.os,I.bare,⟨λ b o e n hb hx=>?_,λ b o e n hb hx=>?_,I.base.free,λ b o e hx=>?_,I.base.tups,I.base.frzs,I.base.tbls⟩,⟨_,hn',λ j y v' e1 e2 e3=>?_⟩,λ y c e=>?_,I.free,I.freeC,λ p hp=>?_,tracked ⟨oL,hoL,I.free⟩ hs,by simpa using I.len⟩ ⟨_,hs,.inl rfl⟩
  ·exact(hs.2 b<|oAp<|oAo (oAf e) I.ok.above).trans (I.base.keep b o e n hb hx)
  ·obtain⟨sl,e1⟩:=I.base.slot b o e n hb hx;exact⟨sl,(hs.2 b<|oAp<|oAo (oAf e) I.ok.above).trans e1⟩
  ·obtain⟨o',e1⟩:=I.base.there b o e hx;exact⟨o',(hs.2 b<|oAp<|oAo (oAf e) I.ok.above).trans e1⟩
  ·by_cases hj:j=i
   ·subst hj;rw[hi] at e1;cases e1
    rw[getElem?_set_self hiσ] at e2;cases e2
    exact⟨u,r,.inl ⟨hk,by simp⟩⟩
   ·rw[getElem?_set_ne<|Ne.symm hj] at e2;obtain⟨u',r',q⟩:=hl j y v' e1 e2 e3;refine⟨u',r',?_⟩
    rcases q with ⟨k,e⟩ | ⟨k,c,e,z⟩
    ·refine .inl ⟨k,?_⟩;have:y≠x:=λ e=>hj<|WM hN e1 (e ▸ hi);simp[this,e]
    ·exact .inr ⟨k,c,e,z.sameBut hs<|cne y c e⟩
  ·obtain⟨w',z⟩:=I.cell y c e;exact⟨w',z.sameBut hs<|cne y c e⟩
  ·obtain⟨e,n,ne,nf,d⟩:=I.pin p hp;exact⟨(hs.2 p.1 ne).trans e,n,ne,nf,d⟩
 ·have hfn:X.fn x=true:=by
   rcases hf with z | z
   ·exact z
   ·rw[z] at hk;cases hk
  obtain⟨c,hc⟩:=I.ok.has x<|.inl hk;obtain⟨w',z⟩:=I.cell x c hc;refine wpAny_storeName_cell I.ok.kind hk hc z<|λ h' hc' hs=>?_;obtain⟨oc,hoc,hocd⟩:=id z;refine h { s with heap:=h' } ⟨I.ok,I.os,I.bare,⟨λ b o e n hb hx=>?_,λ b o e n hb hx=>?_,I.base.free,λ b o e hx=>?_,I.base.tups,I.base.frzs,I.base.tbls⟩,⟨m,hn.sameBut hs<|Ne.symm<|cne x c hc,λ j y v' e1 e2 e3=>?_⟩,λ y c' e=>?_,I.free,I.freeC,λ p hp=>?_,tracked ⟨oc,hoc,I.freeC x c hc⟩ hs,by simpa using I.len⟩ ⟨c,hs,.inr hc⟩
  ·exact(hs.2 b<|oAp<|oAo (oAf e)<|I.ok.cab x c hfn hc).trans (I.base.keep b o e n hb hx)
  ·obtain⟨sl,e1⟩:=I.base.slot b o e n hb hx;exact⟨sl,(hs.2 b<|oAp<|oAo (oAf e)<|I.ok.cab x c hfn hc).trans e1⟩
  ·obtain⟨o',e1⟩:=I.base.there b o e hx;exact⟨o',(hs.2 b<|oAp<|oAo (oAf e)<|I.ok.cab x c hfn hc).trans e1⟩
  ·by_cases hj:j=i
   ·subst hj;rw[hi] at e1;cases e1
    rw[getElem?_set_self hiσ] at e2;cases e2
    exact⟨u,r,.inr ⟨.inl hk,c,hc,hc'⟩⟩
   ·rw[getElem?_set_ne<|Ne.symm hj] at e2;obtain⟨u',r',q⟩:=hl j y v' e1 e2 e3;refine⟨u',r',?_⟩
    rcases q with q | ⟨k,c',e,z'⟩
    ·exact .inl q
    ·refine .inr ⟨k,c',e,z'.sameBut hs ?_⟩;rintro rfl;exact hj<|WM hN e1 (I.ok.inj _ _ _ e hc ▸ hi)
  ·by_cases hcc:c'=c
   ·subst hcc;exact⟨_,hc'⟩
   ·obtain⟨w2,z2⟩:=I.cell y c' e;exact⟨w2,z2.sameBut hs hcc⟩
  ·obtain⟨e,n,ne,nf,d⟩:=I.pin p hp;refine⟨(hs.2 p.1 ?_).trans e,n,ne,nf,d⟩;intro q;rw[q,hoc] at e;have q':oc=p.2:=oAk e;exact d w' (by rw[<- q'];exact hocd)
theorem UQ{E:zVP}{Q:Unit->Shared->Prop}(I:Inv X pj σ H s)(hN:X.N.Nodup)(hi:X.N[i]?=some x)(hx:Loc X.env.scope x)(r:RelV v u)
  (h:∀ s',Inv X pj (σ.set i (some v)) H s'->Q () s')(hf:X.fn x=true\/X.env.scope.names.lookup x=some .local:=by first | exact .inl rfl | exact .inr rfl | assumption):wpAny M A (storeName X.env x u) Q E s:=
 ZaC I hN hi hx r (λ s' I' _=>h s' I') hf
end
abbrev XK:=Value->Option Addr->Hp->Prop
noncomputable abbrev St:=List (Option V)
abbrev VK:=V->Hp->Prop
abbrev TE:=St->Hp->VK->Prop
abbrev TT:=St->Hp->(Bool->Hp->Prop)->Prop
abbrev TA:=St->Hp->(List V->Hp->Prop)->Prop
structure Ends where
 nx:St->Hp->Prop
 rt:VK
 bk:St->Hp->Prop:=λ _ _=>False
 ct:St->Hp->Prop:=λ _ _=>False
abbrev TS:=Ends->St->Hp->Prop
inductive EP(X:Cx)(pj:zPn)(σ:St)(Q:VK)(u:Value)(s':Shared):Prop
 |mk (v:V) (H':Hp) (i:Inv X pj σ H' s') (r:RelV v u) (q:Q v H')
inductive TP(X:Cx)(pj:zPn)(σ:St)(Q:Bool->Hp->Prop)(b:Bool)(s':Shared):Prop
 |mk (H':Hp) (i:Inv X pj σ H' s') (q:Q b H')
inductive AP(X:Cx)(pj:zPn)(σ:St)(Q:List V->Hp->Prop)(us:List Value)(s':Shared):Prop
 |mk (vs:List V) (H':Hp) (i:Inv X pj σ H' s') (r:Vals vs us) (q:Q vs H')
inductive SPn(X:Cx)(pj:zPn)(Q:St->Hp->Prop)(s':Shared):Prop
 |mk (σ':St) (H':Hp) (i:Inv X pj σ' H' s') (q:Q σ' H')
inductive SPr(X:Cx)(pj:zPn)(Q:VK)(u:Value)(s':Shared):Prop
 |mk (v:V) (σ':St) (H':Hp) (i:Inv X pj σ' H' s') (r:RelV v u) (q:Q v H')
def SP(X:Cx)(pj:zPn)(D:Ends)(f:Flow)(s':Shared):Prop:=
 match f with
 |.next=>SPn X pj D.nx s'
 |.brk=>SPn X pj D.bk s'
 |.cont=>SPn X pj D.ct s'
 |.ret u=>SPr X pj D.rt u s'
def PE(X:Cx)(e:Expr)(t:TE):Prop:=
 ∀ (pj:zPn) (s:Shared) (σ:St) (H:Hp) (Q:VK),Inv X pj σ H s->t σ H Q->wpAny (model X.prog X.w) X.A (eval e X.env) (EP X pj σ Q) X.xe s
def PT(X:Cx)(e:Expr)(t:TT):Prop:=
 ∀ (pj:zPn) (s:Shared) (σ:St) (H:Hp) (Q:Bool->Hp->Prop),Inv X pj σ H s->t σ H Q->wpAny (model X.prog X.w) X.A (isTrue e X.env (eval e X.env)) (TP X pj σ Q) X.xe s
def PW(X:Cx)(e:Expr)(t:TT):Prop:=
 ∀ (whole:Sem Value) (pj:zPn) (s:Shared) (σ:St) (H:Hp) (Q:Bool->Hp->Prop),Inv X pj σ H s->t σ H Q->wpAny (model X.prog X.w) X.A (isTrue e X.env whole) (TP X pj σ Q) X.xe s
theorem PW.pt(h:PW X e t):PT X e t:=h _
def PA(X:Cx)(es:List Expr)(t:TA):Prop:=
 ∀ (pos:Pos) (pj:zPn) (s:Shared) (σ:St) (H:Hp) (Q:List V->Hp->Prop),Inv X pj σ H s->t σ H Q->wpAny (model X.prog X.w) X.A (spliced (backTo pos (starEach es X.env))) (AP X pj σ Q) X.xe s
def PS(X:Cx)(st:Stmt)(t:TS):Prop:=
 ∀ (pj:zPn) (s:Shared) (σ:St) (H:Hp) (D:Ends),Inv X pj σ H s->t D σ H->wpAny (model X.prog X.w) X.A (exec st X.env) (SP X pj D) X.xe s
def PSs(X:Cx)(st:List Stmt)(t:TS):Prop:=
 ∀ (pj:zPn) (s:Shared) (σ:St) (H:Hp) (D:Ends),Inv X pj σ H s->t D σ H->wpAny (model X.prog X.w) X.A (execs st X.env) (SP X pj D) X.xe s
theorem thn{α:Type}{t:Sem α}{Q Q':α->Shared->Prop}{M:Model}{A:Around}{E:zVP}{s:Shared}(h:wpAny M A t Q E s)(hQ:∀ a s,Q a s->Q' a s):wpAny M A t Q' E s:=oAc h hQ λ _ _ x=>x
section
variable {X:Cx}
noncomputable def tVar(i:Nat):TE:=λ σ H Q=>∃ v,σ[i]?=some (some v)/\Q v H
noncomputable def tC(v:V):TE:=λ _ H Q=>Q v H
theorem ZaD(hN:X.N[i]?=some x)(hv:Vis X.env.scope x)(hd:(x==("__debug__":Str))=false:=by decide)(hcd:(x==("__classdict__":Str))=false:=by decide):PE X (.Name x pos) (tVar i):=by
 intro pj s σ H Q I h;obtain⟨v,e,h⟩:=h;obtain⟨m,hn,hl⟩:=I.loc;obtain⟨u,r,l⟩:=hl i x v hN e hv;have fin:EP X pj σ Q u s:=⟨v,H,I,r,h⟩
 rcases l with ⟨hk,hm⟩ | ⟨hk,c,hc,hcell⟩
 ·exact wpAny_Name (wpAny_loadName_local I.ok.kind hk hn hm fin) hd
 ·rcases hk with hk | hk
  ·exact wpAny_Name (wpAny_loadName_cell I.ok.kind hk hc hcell fin) hd
  ·exact wpAny_Name (wpAny_loadName_free I.ok.kind hk hc hcell fin hcd) hd
theorem ZaE{i j pos}:PE X (.Constant (.int i) j pos) (tC (.int i)):=λ _ _ _ H _ I h=>wpAny_Constant_int ⟨.int i,H,I.tok _,⟨_,rfl⟩,h⟩
theorem Zgn{b j pos}:PE X (.Constant (.bool b) j pos) (tC (.bl b)):=λ _ _ _ H _ I h=>Constant_bool ⟨.bl b,H,I,rfl,h⟩
theorem ZeF{j pos}:PE X (.Constant .none j pos) (tC .non):=λ _ _ _ H _ I h=>Constant_none ⟨.non,H,I,rfl,h⟩
theorem WN{x j pos}:PE X (.Constant (.str x) j pos) (tC (.str x)):=λ _ _ _ H _ I h=>Calls.Constant_str ⟨.str x,H,I.tok _,⟨_,rfl⟩,h⟩
def Gl(X:Cx)(x:Str):Prop:=X.env.kindOf x=some .globalImplicit
theorem Jj{E:zVP}{Q:zVP}(I:Inv X pj σ H s)(hg:Gl X x)(hm:X.mg x=some u)(h:Q u s)
  (hd:(x==("__debug__":Str))=false:=by decide):wpAny (model X.prog X.w) X.A (eval (.Name x pos) X.env) Q E s:=
 Calls.Name_function_global I.ok.kind hg (Calls.loadGlobal_global (by rw[I.ok.glob];exact I.mod.glob.keeps I.bk) hm h) hd
theorem YK{E:zVP}{Q:zVP}(I:Inv X pj σ H s)(hg:Gl X x)(hm:X.mg x=none)(hv:bootBuiltins x=some u)(h:Q u s)
  (hn:x≠"__name__":=by decide)(hd:(x==("__debug__":Str))=false:=by decide):wpAny (model X.prog X.w) X.A (eval (.Name x pos) X.env) Q E s:=by
 obtain⟨mb,h1,h2⟩:=I.mod.blt;exact Calls.Name_function_global I.ok.kind hg (Calls.loadGlobal_builtin (by rw[I.ok.glob];exact I.mod.glob.keeps I.bk) hm (by rw[I.ok.blt];exact h1.keeps I.bk) ((h2 x hn).trans hv) h) hd
variable {a b:Expr}{ta tb:TE}{pos:Pos}
def PC(X:Cx)(op:CmpOp)(a b:Expr)(t:TE):Prop:=
 ∀ (pj:zPn) (s:Shared) (σ:St) (H:Hp) (Q:VK),Inv X pj σ H s->t σ H Q ->
  wpAny (model X.prog X.w) X.A (eval a X.env) (λ v s₁=>wpAny (model X.prog X.w) X.A (eval b X.env) (λ u s₂=>wpAny (model X.prog X.w) X.A (compareOp op v u) (EP X pj σ Q) X.xe s₂) X.xe s₁) X.xe s
theorem WO(h:PC X op a b t)(h1:behindInMarks op b=false:=by first | exact nobehind _ (by decide) (by decide) | rfl):PE X (.Compare a [op] [b] pos) t:=λ pj s σ H Q I hw=>wpAny_Compare1 (h pj s σ H Q I hw) h1
variable {tA tB':TT}{rest:List Expr}
theorem Zdi(ha:PT X a tA):PW X (.BoolOp .And [a] pos) tA:=by
 intro wh pj s σ H Q I h;refine isTrue_and<|thn (ha pj s σ H Q I h) λ c s1 e=>?_;cases c with
 |true=>exact isTrue_and_nil e
 |false=>exact e
theorem ZeG(ha:PT X a tA):PW X (.BoolOp .Or [a] pos) tA:=by
 intro wh pj s σ H Q I h;refine isTrue_or<|thn (ha pj s σ H Q I h) λ c s1 e=>?_;cases c with
 |false=>exact isTrue_or_nil e
 |true=>exact e
theorem ZeH{op}(h:PE X a t):PE X (.BoolOp op [a] pos) t:=λ pj s σ H Q I hw=>BoolOp_one<|h pj s σ H Q I hw
end
def SqL(K:Frag)(H:Hp)(a:Addr)(xs:List V):Prop:=
 Rd H a (.lst xs) \/
  ∃ (o:Obj) (its:Array Value) (n:Nat),K.lookup a=some o/\o.cls=.type "list"/\o.dict=none/\o.data=.seq its n/\its.size<=sizeLine/\Vals xs its.toList
def SqT(K:Frag)(H:Hp)(a:Addr)(xs:List V):Prop:=
 Rd H a (.tup xs) \/
  ∃ (o:Obj) (its:Array Value) (n:Nat),K.lookup a=some o/\o.cls=.type "tuple"/\o.data=.seq its n/\its.size<=sizeLine/\Vals xs its.toList
noncomputable def absV:Value->Option V
 |.none=>some .non
 |.bool b=>some (.bl b)
 |.int i _=>some (.int i)
 |.str x _=>some (.str x)
 |.bytes b _=>some (.byt b)
 |.float b _=>some (.flt b)
 |.ref a=>some (.ref a)
 |.type n=>some (.ty n)
 |_=>none
theorem RelV.abs(r:RelV x u):absV u=some x:=by
 cases x with
 |non=>cases r;rfl
 |bl _=>cases r;rfl
 |int _=>obtain⟨t,rfl⟩:=r;rfl
 |str _=>obtain⟨t,rfl⟩:=r;rfl
 |byt _=>obtain⟨t,rfl⟩:=r;rfl
 |flt _=>obtain⟨t,rfl⟩:=r;rfl
 |ref _=>cases r;rfl
 |ty _=>cases r;rfl
theorem RelV.inj{x y:V}{u:Value}(r:RelV x u)(q:RelV y u):x=y:=oAk<|r.abs.symm.trans q.abs
theorem Vals.inj:∀ {xs ys:List V}{us:List Value},Vals xs us->Vals ys us->xs=ys
 |_,_,_,.nil,.nil=>rfl
 |_,_,_,.cons r t,.cons r' t'=>by rw[r.inj r',Vals.inj t t']
section
variable {X:Cx}{pj:zPn}{σ:St}{H:Hp}{s:Shared}{a:Addr}{xs ys:List V}
theorem SqL.of{K:Frag}(h:H a=some (.lst xs)):SqL K H a xs:=.inl<|.inl h
theorem Inv.list(I:Inv X pj σ H s)(h:SqL X.K H a xs):∃ its:List Value,Vals xs its/\PlainL s.heap a its.toArray/\xs.length<=sizeLine:=by
 rcases h with h | ⟨o,its,n,hk,hc,hd,hs,hz,r⟩
 ·obtain⟨z,its,n,r,e⟩:=h.ok I.hok;exact⟨its,r,⟨_,n,e,rfl,rfl,rfl⟩,z⟩
 ·refine⟨its.toList,r,⟨o,n,I.kIn a o hk,hc,hd,by simpa using hs⟩,?_⟩;have e:=r.length;simp only[length_toList] at e;lia
theorem Inv.tuple(I:Inv X pj σ H s)(h:SqT X.K H a xs):∃ its:List Value,Vals xs its/\IsTup s.heap a its.toArray/\xs.length<=sizeLine:=by
 rcases h with h | ⟨o,its,n,hk,hc,hs,hz,r⟩
 ·obtain⟨z,its,r,p⟩:=h.ok I.hok;exact⟨its,r,p,z⟩
 ·refine⟨its.toList,r,⟨o,I.kIn a o hk,hc,n,by simpa using hs⟩,?_⟩;have e:=r.length;simp only[length_toList] at e;lia
theorem Inv.list_inj(I:Inv X pj σ H s)(h:SqL X.K H a xs)(h':SqL X.K H a ys):xs=ys:=by
 obtain⟨its,r,⟨o,n,e,_,_,d⟩,_⟩:=I.list h;obtain⟨its',r',⟨o',n',e',_,_,d'⟩,_⟩:=I.list h';rw[e] at e';cases e'
 rw[d] at d';injection d' with d1 _
 have:its=its':=by simpa using congrArg Array.toList d1
 subst this;exact r.inj r'
theorem Inv.tuple_inj(I:Inv X pj σ H s)(h:SqT X.K H a xs)(h':SqT X.K H a ys):xs=ys:=by
 obtain⟨its,r,⟨o,e,_,n,d⟩,_⟩:=I.tuple h;obtain⟨its',r',⟨o',e',_,n',d'⟩,_⟩:=I.tuple h';rw[e] at e';cases e'
 rw[d] at d';injection d' with d1 _
 have:its=its':=by simpa using congrArg Array.toList d1
 subst this;exact r.inj r'
end
noncomputable abbrev Cx.wish(X:Cx)(E:zVP):Cx:={ X with xe:=E }
noncomputable abbrev Cx.nox(X:Cx):Cx:=X.wish λ _ _=>False
theorem Cx.Ok.wish{X:Cx}(ok:X.Ok)(E:zVP):(X.wish E).Ok:=
 ⟨ok.mod,ok.kind,ok.glob,ok.blt,ok.above,ok.inj,ok.has,ok.cab,ok.hd,ok.frames,ok.stk,ok.exf,ok.bs,ok.bsz,ok.noex,ok.exfs,ok.funs,ok.frf⟩
theorem Cx.Ok.unwish{X:Cx}{E:zVP}(ok:(X.wish E).Ok):X.Ok:=
 ⟨ok.mod,ok.kind,ok.glob,ok.blt,ok.above,ok.inj,ok.has,ok.cab,ok.hd,ok.frames,ok.stk,ok.exf,ok.bs,ok.bsz,ok.noex,ok.exfs,ok.funs,ok.frf⟩
section
variable {X:Cx}{pj:zPn}{σ:St}{H:Hp}{s:Shared}{E:zVP}
theorem Inv.wish(I:Inv X pj σ H s)(E:zVP):Inv (X.wish E) pj σ H s:=⟨I.ok.wish E,I.os,I.bare,I.base,I.loc,I.cell,I.free,I.freeC,I.pin,I.hok,I.len⟩
theorem Inv.unwish(I:Inv (X.wish E) pj σ H s):Inv X pj σ H s:=⟨I.ok.unwish,I.os,I.bare,I.base,I.loc,I.cell,I.free,I.freeC,I.pin,I.hok,I.len⟩
theorem SP.unwish(h:SP (X.wish E) pj D f s'):SP X pj D f s':=by
 cases f with
 |next=>obtain⟨σ',H',I,q⟩:=h;exact⟨σ',H',I.unwish,q⟩
 |brk=>obtain⟨σ',H',I,q⟩:=h;exact⟨σ',H',I.unwish,q⟩
 |cont=>obtain⟨σ',H',I,q⟩:=h;exact⟨σ',H',I.unwish,q⟩
 |ret u=>obtain⟨v,σ',H',I,r,q⟩:=h;exact⟨v,σ',H',I.unwish,r,q⟩
theorem PSs.nox{st:List Stmt}{t:TS}(h:PSs X.nox st t):PSs X st t:=λ pj s σ H D I hw=>
 oAc (h pj s σ H D (I.wish _) hw) (λ _ _ q=>q.unwish) λ _ _ z=>False.elim z
end
section
variable {X:Cx}{st:Stmt}{rest:List Stmt}{t u:TS}{e:Expr}{te:TE}{pos:Pos}
noncomputable def Zgo:TS:=λ D σ H=>D.nx σ H
noncomputable def tSeq(t u:TS):TS:=λ D σ H=>t { D with nx:=u D } σ H
theorem Zdj:PSs X [] Zgo:=λ _ _ σ H _ I h=>wpAny_execs_nil ⟨σ,H,I,h⟩
theorem ZbY(h1:PS X st t)(h2:PSs X rest u):PSs X (st::rest) (tSeq t u):=by
 intro pj s σ H D I h;refine wpAny_execs_cons<|thn (h1 pj s σ H { D with nx:=u D } I h) λ f s1 q=>?_;cases f with
 | next=>
  obtain⟨σ',H',I',q⟩:=q;exact h2 pj s1 σ' H' D I' q
 |ret v=>exact q
 |brk=>exact q
 |cont=>exact q
noncomputable def tRet(te:TE):TS:=λ D σ H=>te σ H D.rt
theorem ZeI(he:PE X e te):PS X (.Return (some e) pos) (tRet te):=by
 intro pj s σ H D I h;exact wpAny_Return_some<|thn (he pj s σ H _ I h) λ v s1 ⟨x,H1,I1,r1,q1⟩=>⟨x,σ,H1,I1,r1,q1⟩
noncomputable def tIfS(c:TT)(t u:TS):TS:=λ D σ H=>c σ H λ b H1=>if b=true then t D σ H1 else u D σ H1
theorem Zgp(hc:PT X c tc)(ha:PSs X a t)(hb:PSs X b u):PS X (.If c a b pos) (tIfS tc t u):=by
 intro pj s σ H D I h;refine wpAny_If<|thn (hc pj s σ H _ I h) λ d s1 ⟨H1,I1,q1⟩=>?_;cases d with
 |true=>exact ha pj s1 σ H1 D I1 q1
 |false=>exact hb pj s1 σ H1 D I1 q1
end
abbrev TG:=V->St->Hp->(St->Hp->Prop)->Prop
abbrev TGs:=List V->St->Hp->(St->Hp->Prop)->Prop
def PG(X:Cx)(target:Expr)(t:TG):Prop:=
 ∀ (pj:zPn) (s:Shared) (σ:St) (H:Hp) (v:V) (u:Value) (Q:St->Hp->Prop),Inv X pj σ H s->RelV v u->t v σ H Q ->
  wpAny (model X.prog X.w) X.A (assign target X.env u) (λ _ s'=>SPn X pj Q s') X.xe s
def PGs(X:Cx)(ts:List Expr)(t:TGs):Prop:=
 ∀ (pj:zPn) (s:Shared) (σ:St) (H:Hp) (vs:List V) (us:List Value) (Q:St->Hp->Prop),Inv X pj σ H s->Vals vs us->t vs σ H Q ->
  wpAny (model X.prog X.w) X.A (assignInOrder ((assignEach ts X.env).map (·.2)) us) (λ _ s'=>SPn X pj Q s') X.xe s
abbrev TSet:=V->V->V->Hp->(Hp->Prop)->Prop
inductive HPo(X:Cx)(pj:zPn)(σ:St)(Q:Hp->Prop)(s':Shared):Prop
 |mk (H':Hp) (i:Inv X pj σ H' s') (q:Q H')
def PSet(X:Cx)(t:TSet):Prop:=
 ∀ (pj:zPn) (s:Shared) (σ:St) (H:Hp) (o i v:V) (ov iv u:Value) (Q:Hp->Prop),Inv X pj σ H s->RelV o ov->RelV i iv->RelV v u->t o i v H Q ->
  wpAny (model X.prog X.w) X.A (setItem ov iv u) (λ _ s'=>HPo X pj σ Q s') X.xe s
section
variable {X:Cx}{pos:Pos}
noncomputable def Zgq(i:Nat):TG:=λ v σ H Q=>Q (σ.set i (some v)) H
theorem Zdk(hN:X.N.Nodup)(hi:X.N[i]?=some x)(hx:Loc X.env.scope x)(hf:X.fn x=true\/X.env.scope.names.lookup x=some .local:=by first | exact .inl rfl | exact .inr rfl | assumption):PG X (.Name x pos) (Zgq i):=by
 intro pj s σ H v u Q I r h;exact wpAny_assign_Name<|UQ I hN hi hx r (λ s' I'=>⟨_,H,I',h⟩) hf
noncomputable def gNil:TGs:=λ vs σ H Q=>vs=[]/\Q σ H
noncomputable def Zgr(t:TG)(u:TGs):TGs:=λ vs σ H Q=>∃ v r,vs=v::r/\t v σ H λ σ' H'=>u r σ' H' Q
theorem Zdl:PGs X [] gNil:=by
 intro pj s σ H vs us Q I r h;obtain⟨e,h⟩:=h;subst e;cases r
 exact assignInOrder_nil ⟨σ,H,I,h⟩
theorem ZbZ(h1:PG X e t)(h2:PGs X es u)
  (hs:(assignEach (e::es) X.env).map (·.2)=assign e X.env::(assignEach es X.env).map (·.2):=by rfl):PGs X (e::es) (Zgr t u):=by
 intro pj s σ H vs us Q I r h;obtain⟨v,vr,e1,h⟩:=h;subst e1;cases r with
 | cons r rr=>
  rw[hs];refine assignInOrder_cons<|thn (h1 pj s σ H _ _ _ I r h) λ _ s1 ⟨σ1,H1,I1,q1⟩=>?_;exact h2 pj s1 σ1 H1 _ _ Q I1 rr q1
noncomputable def gTup(K:Frag)(n:Nat)(t:TGs):TG:=λ v σ H Q=>∃ a xs,v=.ref a/\SqT K H a xs/\xs.length=n/\t xs σ H Q
theorem ZeJ(hc:X.calm=true)(h:PGs X es t)
  (hn:(assignEach es X.env).length=n:=by rfl)(hst:(assignEach es X.env).findIdx? (·.1)=none:=by rfl):PG X (.Tuple es k pos) (gTup X.K n t):=by
 intro pj s σ H v u Q I r hw;obtain⟨a,xs,e1,hq,hl,hw⟩:=hw;subst e1;cases r
 obtain⟨its,rv,ht,hz⟩:=I.tuple hq;refine assign_Tuple_tuple (I.ok.hd hc) ht (by simp[hn,<-hl,rv.length]) hst λ h' hx=>?_;have I1:Inv X pj σ H { s with heap:=h' }:=I.kept (t':=s.toks) λ b o e=>hx b o (oAp<|oAf e) e;exact h pj _ σ H xs _ Q I1 (by simpa using rv) hw
noncomputable def gSub(to ti:TE)(t:TSet):TG:=λ v σ H Q=>to σ H λ o H1=>ti σ H1 λ i H2=>t o i v H2 λ H3=>Q σ H3
theorem ZaF(ho:PE X o to)(hi:PE X i ti)(hs:PSet X t)
  (ha:∀ v,assign (.Subscript o i pos) X.env v=(do
   let ov<-holding [v] (eval o X.env)
   let iv<-holding [v,ov] (eval i X.env)
   standAt pos
   holding [v,ov,iv] (setItem ov iv v)
   release [v,ov,iv] []):=by intro _;rfl):PG X (.Subscript o i pos) (gSub to ti t):=by
 intro pj s σ H v u Q I r h;rw[ha];refine oAa<|wpAny_holding<|thn (ho pj s σ H _ I h) λ ov s1 ⟨x,H1,I1,r1,q1⟩=>?_;refine oAa<|wpAny_holding<|thn (hi pj s1 σ H1 _ I1 q1) λ iv s2 ⟨y,H2,I2,r2,q2⟩=>?_;refine oAa<|wpAny_standAt<|oAa<|wpAny_holding<|thn (hs pj s2 σ H2 x y v ov iv u _ I2 r1 r2 r q2) λ _ s3 ⟨H3,I3,q3⟩=>?_;exact wpAny_release ⟨σ,H3,I3,q3⟩
noncomputable def tAsg(te:TE)(g:TG):TS:=λ D σ H=>te σ H λ x H1=>g x σ H1 D.nx
theorem ZeK(he:PE X e te)(hg:PG X tg g)(hs:swapsWithSole [tg] e pos.line X.env=pure false:=by rfl)(hw:swappedStores [tg] e X.env=pure none:=by rfl)
  (h1:(assignEach [tg] X.env).map (·.2)=[assign tg X.env]:=by rfl):PS X (.Assign [tg] e pos) (tAsg te g):=by
 intro pj s σ H D I h;refine wpAny_Assign_stores (thn (he pj s σ H _ I h) λ v s1 ⟨x,H1,I1,r1,q1⟩=>?_) hs hw;rw[h1];exact thn (hg pj s1 σ H1 x v _ I1 r1 q1) λ _ s2 q=>q
noncomputable def tPar(i j:Nat)(ta:TA):TS:=λ D σ H=>ta σ H λ vs H1=>∃ v w,vs=[v,w]/\D.nx ((σ.set i (some v)).set j (some w)) H1
theorem ZeL{kt k2 pt2}(hc:X.calm=true)(hN:X.N.Nodup)(hi:X.N[i]?=some x)(hj:X.N[j]?=some y)(hij:i≠j)
  (hx:X.env.scope.names.lookup x=some .local)(hy:X.env.scope.names.lookup y=some .local)(ha:PA X [a,b] ta)
  (hw:swappedStores [.Tuple [.Name x px,.Name y py] kt pt] (.Tuple [a,b] k2 pt2) X.env=pure (some [x,y]))
  (hs:swapsWithSole [.Tuple [.Name x px,.Name y py] kt pt] (.Tuple [a,b] k2 pt2) pos.line X.env=pure false:=by rfl) :
  PS X (.Assign [.Tuple [.Name x px,.Name y py] kt pt] (.Tuple [a,b] k2 pt2) pos) (tPar i j ta):=by
 intro pj s σ H D I h;rw[exec_Assign_arm];refine oAa<|wpAny_standAt ?_;rw[hs];refine oAa<|oAb ?_;rw[if_neg (by decide)];refine oAa<|Tuple_<|thn (ha _ pj s σ H _ I h) λ us s1 ⟨vs,H1,I1,r1,q1⟩=>?_;obtain⟨v,w,e1,q1⟩:=q1;subst e1;obtain⟨u1,u2,rfl,rv,rw'⟩:∃ u1 u2,us=[u1,u2]/\RelV v u1/\RelV w u2:=by
  cases r1 with
  | cons p q=>
   cases q with
   | cons p' q'=>
    cases q'
    exact⟨_,_,rfl,p,p'⟩
 refine wpAny_newObj_type ?_ (by show 2<=sizeLine;decide)
 have I2:Inv X pj σ H1 { s1 with heap:=s1.heap.push { cls:=.type "tuple",data:=.seq [u1,u2].toArray } }:=I1.kept (t':=s1.toks) λ b o e=>oAd _ e;rw[hw];refine oAa<|oAb ?_;show wpAny (model X.prog X.w) X.A (do rule "assign.swapped-stores";let items<-unpackItems (.ref s1.heap.objs.size) 2 none;assignInOrder [λ v=>bindName X.env y v,λ v=>bindName X.env x v] items.reverse;pure Flow.next) _ _ _
 refine oAa<|wpAny_rule<|oAa<|unpackItems_tuple (items:=#[u1,u2]) (I.ok.hd hc) (IsTup.new s1.heap _) λ h' hx'=>?_;have I3:=I2.kept (h':=h') (t':=s1.toks) λ b o e=>hx' b o (oAp<|oAf e) e;show wpAny _ _ (assignInOrder [λ v=>bindName X.env y v,λ v=>bindName X.env x v] [u2,u1]>>=λ _=>pure Flow.next) _ _ _;refine oAa<|assignInOrder_cons<|wpAny_bindName<|UQ I3 hN hj (.inl hy) rw' (λ s2 I4=>?_)<|.inr hy;refine assignInOrder_cons<|wpAny_bindName<|UQ I4 hN hi (.inl hx) rv (λ s3 I5=>assignInOrder_nil<|oAb ?_)<|.inr hx;rw[List.set_comm _ _<|Ne.symm hij] at I5;exact⟨_,H1,I5,q1⟩
end
structure It where
 go:Nat->Hp->Prop
 yld:Nat->Hp->V->Hp->Prop
 stop:Nat->Hp->Prop
def FpOk(X:Cx)(pj:zPn)(H:Hp)(b:Addr):Prop:=
 H b=none/\b≠X.env.locals/\b∉X.fs/\(b∈X.ex\/X.s₀.heap.objs.size<=b)/\(∀ x c,X.env.cells.lookup x=some c->c≠b)/\∀ p∈X.pn++pj,p.1≠b
theorem Inv.fpOk(I:Inv X pj σ H s)(hb:s.heap.objs.size<=b)(hn:H' b=none):FpOk X pj H' b:=by
 refine⟨hn,ne_of_gt<|oAo I.lt hb,I.nofs hb,.inr<|oAq I.sz hb,λ x c e z=>?_,λ p hp z=>?_⟩
 ·obtain⟨v,q⟩:=I.cell x c e;exact absurd (oAo q.lt<|by rw[z];exact hb)<|oAr _
 ·exact absurd (oAo (oAf (I.pin p hp).1)<|by rw[z];exact hb)<|oAr _
inductive YP(X:Cx)(pj:zPn)(σ:St)(J:It)(i:Nat)(H:Hp)(tn:Nat->Heap->Prop)(fp:List Addr)(u:Value)(s2:Shared):Prop
 |mk (x:V) (H':Hp) (I:Inv X pj σ H' s2) (r:RelV x u) (y:J.yld i H x H') (t:tn (i+1) s2.heap) (f:∀ b∈fp,H' b=none)
structure Turn(P:Program)(w:World)(K:Frag)(tg:Expr)(J:It)(fp:List Addr)(it:Addr)(tn:Nat->Heap->Prop):Prop where
 mem:it∈fp
 obj:∀ i h,tn i h->∀ b∈fp,∃ o,h.get? b=some o/\∀ v,o.data≠.cell v
 keep:∀ i h h',tn i h->(∀ b∈fp,∀ o,h.get? b=some o->h'.get? b=some o)->tn i h'
 item:∀ (X:Cx),X.prog=P->X.w=w->X.K=K->X.calm=true->∀ (i:Nat) (pj:zPn) (s:Shared) (σ:St) (H:Hp) (E:zVP),Inv X pj σ H s->(∀ b∈fp,FpOk X pj H b)->tn i s.heap->J.go i H ->
  wpAny (model P w) X.A (pyNext (.ref it)) (λ r s1=>∃ u,r=some u /\
   wpAny (model P w) X.A (letOwnedTupleGo tg (.ref it) u) (λ _ s2=>YP X pj σ J i H tn fp u s2) E s1) E s
 done:∀ (X:Cx),X.prog=P->X.w=w->X.K=K->X.calm=true->∀ (i:Nat) (pj:zPn) (s:Shared) (σ:St) (H:Hp) (E:zVP),Inv X pj σ H s->(∀ b∈fp,FpOk X pj H b)->tn i s.heap->J.stop i H ->
  wpAny (model P w) X.A (pyNext (.ref it)) (λ r s1=>r=none/\Inv X pj σ H s1) E s
 self:∀ (A:Around) (i:Nat) (s:Shared) (Q:zVP) (E:zVP),tn i s.heap->Q (.ref it) s->wpAny (model P w) A (pyIter (.ref it)) Q E s
abbrev TI:=St->Hp->(It->Hp->Prop)->Prop
inductive PIE(X:Cx)(pj:zPn)(σ:St)(tg:Expr)(R:It->Hp->Prop)(itv:Value)(s2:Shared):Prop
 |mk (it:Addr) (fp:List Addr) (tn:Nat->Heap->Prop) (J:It) (H':Hp) (e:itv=.ref it) (i:Inv X pj σ H' s2) (t:Turn X.prog X.w X.K tg J fp it tn) (z:tn 0 s2.heap) (f:∀ b∈fp,FpOk X pj H' b) (r:R J H')
def PI(X:Cx)(tg iter:Expr)(wi:TI):Prop:=
 ∀ (pj:zPn) (s:Shared) (σ:St) (H:Hp) (R:It->Hp->Prop),Inv X pj σ H s->wi σ H R ->
  wpAny (model X.prog X.w) X.A (eval iter X.env) (λ v s1=>wpAny (model X.prog X.w) X.A (pyIter v) (PIE X pj σ tg R) X.xe s1) X.xe s
theorem U9{E:zVP}{Q:Unit->Shared->Prop}(ho:s.heap.get? it=some o)(hc:o.cls=.type n)(hd:o.data=.fields vs)
    (hn:["enumerate","zip","dict_itemiterator","dict_reverseitemiterator","odict_iterator","itertools.zip_longest","itertools.pairwise"].contains n=false)(hQ:Q () s):wpAny M A (letOwnedTupleGo tg (.ref it) u) Q E s:=by
  unfold letOwnedTupleGo;cases tg<;>first
    |exact oAb hQ
    | (cases u<;>first
        |exact oAb hQ
        | (refine oAa (wpAny_load ho ?_)
           rw[hc,hd];show wpAny M A (if (["enumerate","zip","dict_itemiterator","dict_reverseitemiterator","odict_iterator","itertools.zip_longest","itertools.pairwise"].contains n&&vs[0]?==some (rawInt _))=true then _ else _) Q E s;rw[if_neg (by intro h;rw[hn,Bool.false_and] at h;cases h)]
           exact oAb hQ))
noncomputable def Itl(K:Frag)(a:Addr):It:=
 ⟨λ i H=>∃ xs x,SqL K H a xs/\xs[i]?=some x,λ i H x H'=>H'=H/\∀ xs,SqL K H a xs->xs[i]?=some x,λ i H=>∃ xs,SqL K H a xs/\xs.length<=i⟩
noncomputable def Itt(K:Frag)(a:Addr):It:=
 ⟨λ i H=>∃ xs x,SqT K H a xs/\xs[i]?=some x,λ i H x H'=>H'=H/\∀ xs,SqT K H a xs->xs[i]?=some x,λ i H=>∃ xs,SqT K H a xs/\xs.length<=i⟩
noncomputable def Itr(lo:Int)(n:Nat):It:=⟨λ i _=>i<n,λ i H x H'=>H'=H/\x=.int (lo+i),λ i _=>n<=i⟩
theorem ZaG{P:Program}{w:World}{K:Frag}{tg:Expr}(a it:Addr):Turn P w K tg (Itl K a) [it] it (λ i h=>h.IsListIter it a i) where
 mem:=by simp
 obj:=λ i h st b hb=>by
  have e:b=it:=by simpa using hb
  subst e;obtain⟨o,e,c,d⟩:=st;exact⟨o,e,λ v z=>by rw[d] at z;cases z⟩
 keep:=λ i h h' st k=>st.at λ o e=>k it (by simp) o e
 item:=by
  intro X hP hw hK hc i pj s σ H E I hf st hg;subst hP hw hK;obtain⟨xs,x,hq,hx⟩:=hg;obtain⟨its,rv,p,hz⟩:=I.list hq;obtain⟨u,hu,ru⟩:=rv.get hx;obtain⟨f0,f1,f2,f3,f4,f5⟩:=hf it (by simp);refine wpAny_pyNext_list_item st p.isList (x:=u) (by simpa using hu) λ h' st' sb=>?_;have I1:Inv X pj σ H { s with heap:=h' }:=I.turned (t':=s.toks) (λ b o hb e=>(sb.2 b hb).trans e) f0 f1 f3 f4 f5;obtain⟨o,e,c,d⟩:=id st';exact⟨u,rfl,U9 (s:={ s with heap:=h' }) e c d (by decide) ⟨x,H,I1,ru,⟨rfl,λ ys hy=>by rw[I.list_inj hy hq];exact hx⟩,st',λ b hb=>(hf b hb).1⟩⟩
 done:=by
  intro X hP hw hK hc i pj s σ H E I hf st hg;subst hP hw hK;obtain⟨xs,hq,hx⟩:=hg;obtain⟨its,rv,p,hz⟩:=I.list hq;obtain⟨f0,f1,f2,f3,f4,f5⟩:=hf it (by simp);have hl:=rv.length;exact wpAny_pyNext_list_end (I.ok.hd hc) st p.isList (by simp;lia) λ h' eb=>⟨rfl,I.turned (t':=s.toks) (λ b o hb e=>eb b o hb e) f0 f1 f3 f4 f5⟩
 self:=λ _ _ _ _ _ st h=>wpAny_pyIter_listiter st h
theorem zX{P:Program}{w:World}{K:Frag}{tg:Expr}(a it:Addr):Turn P w K tg (Itt K a) [it] it (λ i h=>h.IsTupleIter it a i) where
 mem:=by simp
 obj:=λ i h st b hb=>by
  have e:b=it:=by simpa using hb
  subst e;obtain⟨o,e,c,d⟩:=st;exact⟨o,e,λ v z=>by rw[d] at z;cases z⟩
 keep:=λ i h h' st k=>st.at λ o e=>k it (by simp) o e
 item:=by
  intro X hP hw hK hc i pj s σ H E I hf st hg;subst hP hw hK;obtain⟨xs,x,hq,hx⟩:=hg;obtain⟨its,rv,p,hz⟩:=I.tuple hq;obtain⟨u,hu,ru⟩:=rv.get hx;obtain⟨f0,f1,f2,f3,f4,f5⟩:=hf it (by simp);refine wpAny_pyNext_tuple_item st (show s.heap.IsTuple a its.toArray from p) (x:=u) (by simpa using hu) λ h' st' sb=>?_;have I1:Inv X pj σ H { s with heap:=h' }:=I.turned (t':=s.toks) (λ b o hb e=>(sb.2 b hb).trans e) f0 f1 f3 f4 f5;obtain⟨o,e,c,d⟩:=id st';exact⟨u,rfl,U9 (s:={ s with heap:=h' }) e c d (by decide) ⟨x,H,I1,ru,⟨rfl,λ ys hy=>by rw[I.tuple_inj hy hq];exact hx⟩,st',λ b hb=>(hf b hb).1⟩⟩
 done:=by
  intro X hP hw hK hc i pj s σ H E I hf st hg;subst hP hw hK;obtain⟨xs,hq,hx⟩:=hg;obtain⟨its,rv,p,hz⟩:=I.tuple hq;obtain⟨f0,f1,f2,f3,f4,f5⟩:=hf it (by simp);have hl:=rv.length;exact wpAny_pyNext_tuple_end (I.ok.hd hc) st (show s.heap.IsTuple a its.toArray from p) (by simp;lia) λ h' eb=>⟨rfl,I.turned (t':=s.toks) (λ b o hb e=>eb b o hb e) f0 f1 f3 f4 f5⟩
 self:=λ _ _ _ _ _ st h=>wpAny_pyIter_tupleiter st h
theorem zY{P:Program}{w:World}{K:Frag}{tg:Expr}(it:Addr)(lo:Int)(n:Nat):Turn P w K tg (Itr lo n) [it] it (λ i h=>IsRangeIter h it (lo+(i:Nat) * 1) ((n:Int) - (i:Nat)) 1) where
 mem:=by simp
 obj:=λ i h st b hb=>by
  have e:b=it:=by simpa using hb
  subst e;exact⟨_,st,λ v z=>by
   have z':Data.fields _=Data.cell v:=z;cases z'⟩
 keep:=λ i h h' st k=>k it (by simp) _ st
 item:=by
  intro X hP hw hK hc i pj s σ H E I hf st hg;subst hP hw hK;obtain⟨f0,f1,f2,f3,f4,f5⟩:=hf it (by simp);have W:=Walks.range (prog:=X.prog) (w:=X.w) (I.ok.hd hc) it lo 1 n;refine W.item i s _ _ hg st λ v h' tk hv st' kk=>?_;obtain⟨t,rfl⟩:=hv;have I1:Inv X pj σ H { s with heap:=h',toks:=tk }:=I.turned (λ b o hb e=>kk b o (by simpa using hb) e) f0 f1 f3 f4 f5;refine⟨_,rfl,U9 (s:={ s with heap:=h',toks:=tk }) (n:="range_iterator") st' rfl rfl (by decide) ⟨.int<|lo+i,H,I1,⟨t,?_⟩,⟨rfl,rfl⟩,st',λ b hb=>(hf b hb).1⟩⟩;rw[Int.mul_one]
 done:=by
  intro X hP hw hK hc i pj s σ H E I hf st hg;subst hP hw hK;obtain⟨f0,f1,f2,f3,f4,f5⟩:=hf it (by simp);exact wpAny_pyNext_range_end (I.ok.hd hc) st (by have:n<=i:=hg;lia) λ h' eb=>⟨rfl,I.turned (t':=s.toks) (λ b o hb e=>eb b o hb e) f0 f1 f3 f4 f5⟩
 self:=λ _ _ _ _ _ st h=>wpAny_pyIter_rangeiter st h
section
variable {X:Cx}{tg:Expr}
noncomputable def Zgs(K:Frag)(tl:TE):TI:=λ σ H R=>tl σ H λ x H1=>∃ a,x=.ref a/\(∃ xs,SqL K H1 a xs)/\R (Itl K a) H1
noncomputable def iTup(K:Frag)(tl:TE):TI:=λ σ H R=>tl σ H λ x H1=>∃ a,x=.ref a/\(∃ xs,SqT K H1 a xs)/\R (Itt K a) H1
theorem zk{l:Expr}{tl:TE}(hl:PE X l tl):PI X tg l (Zgs X.K tl):=by
 intro pj s σ H R I h;refine thn (hl pj s σ H _ I h) λ v s1 ⟨x,H1,I1,r1,q1⟩=>?_;obtain⟨a,e,⟨xs,hq⟩,q⟩:=q1;subst e;cases r1
 obtain⟨its,rv,p,hz⟩:=I1.list hq;refine wpAny_pyIter_list p.isList ?_;refine⟨s1.heap.objs.size,[s1.heap.objs.size],_,_,H1,rfl,I1.kept (t':=s1.toks) λ b o e=>oAd _ e,ZaG a _,⟨_,oAe _ rfl,rfl,rfl⟩,λ b hb=>?_,q⟩;have e:b=s1.heap.objs.size:=by simpa using hb
 subst e;exact I1.fpOk (oAl _)<|I1.hok.fresh<|oAl _
theorem ZeM{l:Expr}{tl:TE}(hl:PE X l tl):PI X tg l (iTup X.K tl):=by
 intro pj s σ H R I h;refine thn (hl pj s σ H _ I h) λ v s1 ⟨x,H1,I1,r1,q1⟩=>?_;obtain⟨a,e,⟨xs,hq⟩,q⟩:=q1;subst e;cases r1
 obtain⟨its,rv,p,hz⟩:=I1.tuple hq;refine wpAny_pyIter_tuple (show s1.heap.IsTuple a its.toArray from p) ?_;refine⟨s1.heap.objs.size,[s1.heap.objs.size],_,_,H1,rfl,I1.kept (t':=s1.toks) λ b o e=>oAd _ e,zX a _,⟨_,oAe _ rfl,rfl,rfl⟩,λ b hb=>?_,q⟩;have e:b=s1.heap.objs.size:=by simpa using hb
 subst e;exact I1.fpOk (oAl _)<|I1.hok.fresh<|oAl _
theorem Zb0{pj:zPn}{σ:St}{H:Hp}{s:Shared}{R:It->Hp->Prop}{E:zVP}{lo hi:Int}{t u v:Tok}{tk:Nat}(I:Inv X pj σ H s)(h1:-(2 ^ 62)<=lo)(h2:lo<2 ^ 62)(h3:-(2 ^ 62)<=hi)(h4:hi<2 ^ 62)
  (q:R (Itr lo (hi - lo).toNat) H):wpAny (model X.prog X.w) X.A (pyIter (.ref s.heap.objs.size)) (PIE X pj σ tg R) E { s with heap:=s.heap.push { cls:=.type "range",data:=.fields #[.int lo t,.int hi u,.int 1 v] },toks:=tk }:=by
 refine wpAny_pyIter_range (IsRange.new ..) (small_one h1 h2 h3 h4) ?_;have I1:Inv X pj σ H { s with heap:=s.heap.push { cls:=.type "range",data:=.fields #[.int lo t,.int hi u,.int 1 v] },toks:=tk }:=I.kept λ b o e=>oAd _ e;refine⟨(s.heap.push { cls:=.type "range",data:=.fields #[.int lo t,.int hi u,.int 1 v] }).objs.size,[(s.heap.push { cls:=.type "range",data:=.fields #[.int lo t,.int hi u,.int 1 v] }).objs.size],_,_,H,rfl,
  I1.kept (t':=tk) λ b o e=>oAd _ e,zY _ lo (hi - lo).toNat,?_,λ b hb=>?_,q⟩
 ·have e1:lo+((0:Nat):Int) * 1=lo:=by simp
  have e2:(((hi - lo).toNat:Nat):Int) - ((0:Nat):Int)=Builtin.Range.rangeSize lo hi 1:=by rw[rangeSize_one];split<;>lia
  show IsRangeIter _ _ (lo+((0:Nat):Int) * 1) ((((hi - lo).toNat:Nat):Int) - ((0:Nat):Int)) 1;rw[e1,e2];exact oAe _ rfl
 ·have e:b=(s.heap.push { cls:=.type "range",data:=.fields #[.int lo t,.int hi u,.int 1 v] }).objs.size:=by simpa using hb
  subst e;exact I1.fpOk (oAl _)<|I1.hok.fresh<|oAl _
noncomputable def Zgt(ta:TA):TI:=λ σ H R=>ta σ H λ vs H1=>∃ j:Int,vs=[.int j]/\-(2 ^ 62)<=j/\j<2 ^ 62/\R (Itr 0 j.toNat) H1
theorem ZaH{a:Expr}{ta:TA}{p pos:Pos}(hg:Gl X "range")(hm:X.mg "range"=none)(ha:PA X [a] ta)(hs:starEach [a] X.env=[(false,eval a X.env)]:=by rfl):PI X tg (.Call (.Name "range" p) [a] [] pos) (Zgt ta):=by
 intro pj s σ H R I h;refine Call_<|YK I hg hm boot_range<|PyProof.Rows.callWith_type1 (thn (ha pos pj s σ H _ I h) λ us s1 ⟨vs,H1,I1,r1,q1⟩=>?_) hs rfl;obtain⟨j,e,q1,q2,q⟩:=q1;subst e;cases r1 with
 | cons r rr=>
  cases rr
  obtain⟨t,rfl⟩:=r;exact call_range_1<|Zb0 I1 (by lia) (by lia) q1 q2 (by simpa using q)
noncomputable def tFor(wi:TI)(g:TG)(tb:TS):TS:=λ D σ H=>wi σ H λ J H1=>∃ W:Nat->Nat->St->Hp->Prop,(∃ m,W 0 m σ H1)/\∀ i m σ H,W i m σ H ->
 (J.stop i H/\D.nx σ H)\/(J.go i H/\∃ N:St->Hp->Prop,(∀ σ' H',N σ' H'->∃ m',m'<m/\W (i+1) m' σ' H')/\∀ x H',J.yld i H x H'->g x σ H' λ σ2 H2=>tb { D with nx:=N,ct:=N,bk:=D.nx } σ2 H2)
noncomputable def ZR(fp:List Addr)(h:Heap):zPn:=fp.filterMap λ b=>(h.get? b).map λ o=>(b,o)
theorem YL(hb:b∈fp)(e:h.get? b=some o):(b,o)∈ZR fp h:=List.mem_filterMap.2 ⟨b,hb,by rw[e];rfl⟩
theorem VT(hp:p∈ZR fp h):p.1∈fp/\h.get? p.1=some p.2:=by
 obtain⟨b,hb,e⟩:=List.mem_filterMap.1 hp;cases q:h.get? b with
 |none=>rw[q] at e;cases e
 | some o=>
  rw[q] at e;have e':(b,o)=p:=oAk e;subst e';exact⟨hb,q⟩
theorem Inv.pinned(I:Inv X pj σ H s)(hf:∀ b∈fp,FpOk X pj H b)(ho:∀ b∈fp,∃ o,s.heap.get? b=some o/\∀ v,o.data≠.cell v):Inv X (pj++ZR fp s.heap) σ H s:=
 I.pins_of λ p hp=>(List.mem_append.1 hp).elim (λ z=>I.pin p<|oAu _ z) λ z=>by
  obtain⟨hb,e⟩:=VT z;obtain⟨f0,f1,f2,_⟩:=hf p.1 hb;obtain⟨o,e',d⟩:=ho p.1 hb;rw[e] at e';cases e'
  exact⟨e,f0,f1,f2,d⟩
theorem Inv.unpinned(I:Inv X (pj++pl) σ H s):Inv X pj σ H s:=I.pins_of λ p hp=>I.pin p<|oAu _<|mem_append_left _ hp
theorem ZeN(hp:PassesOwn (model X.prog X.w) X.A X.env X.xe)(hc:X.calm=true)(hi:PI X tg iter wi)(hg:PG X tg g)(hb:PSs X body tb)
  (hs:∀ x,foldedSetIterable iter X.env x=pure x:=by intro _;rfl):PS X (.For tg iter body [] pos) (tFor wi g tb):=by
 intro pj s σ H D I h;refine wpAny_For (thn (hi pj s σ H _ I h) λ v s1 h1=>thn h1 λ itv s2 h2=>?_) hs;obtain⟨it,fp,tn,J,H2,e,I2,T,st2,f2,W,⟨m0,w0⟩,turn⟩:=h2;subst e;have stat:∀ {H':Hp},(∀ b∈fp,H' b=none)->∀ b∈fp,FpOk X pj H' b:=λ hn b hb=>⟨hn b hb,(f2 b hb).2⟩;refine codeAny_forLoop_any (λ n s'=>∃ i σ' H',Inv X pj σ' H' s'/\tn i s'.heap/\(∀ b∈fp,H' b=none)/\W i n σ' H') ?_ m0 ⟨0,σ,H2,I2,st2,λ b hb=>(f2 b hb).1,w0⟩;rintro n s3 ⟨i,σ3,H3,I3,st3,fr3,w3⟩
 rcases turn i n σ3 H3 w3 with ⟨stop,qn⟩ | ⟨go,N,hN,step⟩
 ·refine wpAny_passesOwn hp<|thn (T.done X rfl rfl rfl hc i pj s3 σ3 H3 X.xe I3 (stat fr3) st3 stop) λ r s4 ⟨hr,I4⟩=>?_;subst hr;exact wpAny_execs_nil ⟨σ3,H3,I4,qn⟩
 ·refine wpAny_passesOwn hp<|thn (T.item X rfl rfl rfl hc i pj s3 σ3 H3 X.xe I3 (stat fr3) st3 go) λ r s4 ⟨u,hr,h4⟩=>?_;subst hr;refine wpAny_passesOwn hp<|thn h4 λ _ s5 ⟨x,H5,I5,r5,y5,st5,fr5⟩=>?_;have I5':=I5.pinned (stat fr5)<|T.obj _ _ st5;refine wpAny_passesOwn hp<|thn (hg _ s5 σ3 H5 x u _ I5' r5<|step x H5 y5) λ _ s6 ⟨σ6,H6,I6,q6⟩=>?_;refine wpAny_passesOwn hp<|thn (hb _ s6 σ6 H6 _ I6 q6) λ f s7 q7=>?_;have again:∀ {σ7:St}{H7:Hp},Inv X (pj++ZR fp s5.heap) σ7 H7 s7->N σ7 H7->∃ m,m<n/\∃ i σ' H',Inv X pj σ' H' s7/\tn i s7.heap/\(∀ b∈fp,H' b=none)/\W i m σ' H':=λ {σ7 H7} I7 n7=>by
   obtain⟨m',hm,w7⟩:=hN σ7 H7 n7;refine⟨m',hm,i+1,σ7,H7,I7.unpinned,T.keep _ _ _ st5 λ b hb o e=>(I7.pin (b,o)<|oAu _<|oAu _<|YL hb e).1,λ b hb=>?_,w7⟩;obtain⟨o,e,d⟩:=T.obj _ _ st5 b hb;exact(I7.pin (b,o)<|oAu _<|oAu _<|YL hb e).2.1
  cases f with
  |next=>obtain⟨σ7,H7,I7,n7⟩:=q7;exact again I7 n7
  |cont=>obtain⟨σ7,H7,I7,n7⟩:=q7;exact again I7 n7
  |brk=>obtain⟨σ7,H7,I7,q7⟩:=q7;exact⟨σ7,H7,I7.unpinned,q7⟩
  |ret v=>obtain⟨x7,σ7,H7,I7,r7,q7⟩:=q7;exact⟨x7,σ7,H7,I7.unpinned,r7,q7⟩
end
abbrev R2:=V->V->Hp->VK->Prop
def OpR(X:Cx)(f:Value->Value->Sem Value)(r:R2):Prop:=
 ∀ (pj:zPn) (s:Shared) (σ:St) (H:Hp) (x y:V) (v u:Value) (Q:VK),Inv X pj σ H s->RelV x v->RelV y u->r x y H Q ->
  wpAny (model X.prog X.w) X.A (f v u) (EP X pj σ Q) X.xe s
def UnR(X:Cx)(f:Value->Sem Value)(r:V->Hp->VK->Prop):Prop:=
 ∀ (pj:zPn) (s:Shared) (σ:St) (H:Hp) (x:V) (v:Value) (Q:VK),Inv X pj σ H s->RelV x v->r x H Q ->
  wpAny (model X.prog X.w) X.A (f v) (EP X pj σ Q) X.xe s
def Z5(X:Cx)(f:Value)(r:List V->Hp->VK->Prop):Prop:=
 ∀ (pj:zPn) (s:Shared) (σ:St) (H:Hp) (xs:List V) (us:List Value) (Q:VK),Inv X pj σ H s->Vals xs us->r xs H Q ->
  wpAny (model X.prog X.w) X.A (call f us) (EP X pj σ Q) X.xe s
def TruR(X:Cx)(r:V->Hp->(Bool->Hp->Prop)->Prop):Prop:=
 ∀ (pj:zPn) (s:Shared) (σ:St) (H:Hp) (x:V) (v:Value) (Q:Bool->Hp->Prop),Inv X pj σ H s->RelV x v->r x H Q ->
  wpAny (model X.prog X.w) X.A (truthy v) (TP X pj σ Q) X.xe s
noncomputable def tUn(r:V->Hp->VK->Prop)(ta:TE):TE:=λ σ H Q=>ta σ H λ x H1=>r x H1 Q
noncomputable def rI(C:Int->Int->Prop)(g:Int->Int->V):R2:=λ x y H Q=>∃ i j,x=.int i/\y=.int j/\C i j/\Q (g i j) H
noncomputable def rI0(g:Int->Int->V):R2:=λ x y H Q=>∃ i j,x=.int i/\y=.int j/\Q (g i j) H
noncomputable def rU(g:Int->V):V->Hp->VK->Prop:=λ x H Q=>∃ i,x=.int i/\Q (g i) H
section
variable {X:Cx}{a b c:Expr}{ta tb tc:TE}{pos:Pos}
theorem binT(ha:PE X a ta)(hb:PE X b tb){pj:zPn}{s:Shared}{σ:St}{H:Hp}{R:V->V->Hp->Prop}(I:Inv X pj σ H s)
  (h:ta σ H λ x H1=>tb σ H1 λ y H2=>R x y H2){Q:zVP}{f:Value->Value->Sem Value}
  (hf:∀ v u s2 x y H2,Inv X pj σ H2 s2->RelV x v->RelV y u->R x y H2->wpAny (model X.prog X.w) X.A (f v u) Q X.xe s2) :
  wpAny (model X.prog X.w) X.A (eval a X.env) (λ v s₁=>wpAny (model X.prog X.w) X.A (eval b X.env) (λ u s₂=>wpAny (model X.prog X.w) X.A (f v u) Q X.xe s₂) X.xe s₁) X.xe s:=by
 refine thn (ha pj s σ H _ I h) λ v s1 ⟨x,H1,I1,r1,q1⟩=>?_;refine thn (hb pj s1 σ H1 _ I1 q1) λ u s2 ⟨y,H2,I2,r2,q2⟩=>?_;exact hf v u s2 x y H2 I2 r1 r2 q2
theorem ZcT{r:V->Hp->VK->Prop}(ho:UnR X (unaryOp op) r)(ha:PE X a ta):PE X (.UnaryOp op a pos) (tUn r ta):=by
 intro pj s σ H Q I h;exact UnaryOp_<|thn (ha pj s σ H _ I h) λ v s1 ⟨x,H1,I1,r1,q1⟩=>ho pj s1 σ H1 x v Q I1 r1 q1
theorem opI{f:Value->Value->Sem Value}{C:Int->Int->Prop}{g:Int->Int->Int}
  (rule:∀ (i j:Int) (t u:Tok) (s:Shared) (Q:zVP) (E:zVP),C i j->Q (.int (g i j) s.toks) { s with toks:=s.toks+1 }->wpAny (model X.prog X.w) X.A (f (.int i t) (.int j u)) Q E s) :
  OpR X f (rI C λ i j=>.int (g i j)):=by
 intro pj s σ H x y v u Q I rx ry h;obtain⟨i,j,rfl,rfl,hc,q⟩:=h;obtain⟨t,rfl⟩:=rx;obtain⟨t',rfl⟩:=ry;exact rule i j t t' s _ _ hc ⟨.int<|g i j,H,I.tok _,⟨_,rfl⟩,q⟩
theorem opI0{f:Value->Value->Sem Value}{g:Int->Int->Int}
  (rule:∀ (i j:Int) (t u:Tok) (s:Shared) (Q:zVP) (E:zVP),Q (.int (g i j) s.toks) { s with toks:=s.toks+1 }->wpAny (model X.prog X.w) X.A (f (.int i t) (.int j u)) Q E s) :
  OpR X f (rI0 λ i j=>.int (g i j)):=by
 intro pj s σ H x y v u Q I rx ry h;obtain⟨i,j,rfl,rfl,q⟩:=h;obtain⟨t,rfl⟩:=rx;obtain⟨t',rfl⟩:=ry;exact rule i j t t' s _ _ ⟨.int<|g i j,H,I.tok _,⟨_,rfl⟩,q⟩
def CDiv(i j:Int):Prop:=0<j/\j<1073741824
def CPow(i j:Int):Prop:=0<=j/\j<=1000000/\i.natAbs<2 ^ 64
theorem two_pow_nn(k:Nat):(0:Int)<=2 ^ k:=by
 rw[two_pow_cast];exact Int.natCast_nonneg _
theorem ZeO:OpR X (binaryOp .Add) (rI0 λ i j=>.int (i+j)):=opI0 λ _ _ _ _ _ _ _ q=>add_int q
theorem ZeP:OpR X (binaryOp .Sub) (rI0 λ i j=>.int (i - j)):=opI0 λ _ _ _ _ _ _ _ q=>sub_int q
theorem ZeQ:OpR X (binaryOp .Mod) (rI (λ _ j=>0<j) λ i j=>.int (i % j)):=opI λ i j _ _ _ _ _ hc q=>by
 have h1:(0:Int)<j:=hc;exact mod_int' (by lia) (by rw[Int.fmod_eq_emod_of_nonneg i (by lia)];exact q)
theorem ZeR:OpR X (binaryOp .LShift) (rI CPow λ i j=>.int (i * 2 ^ j.toNat)):=opI λ _ _ _ _ _ _ _ hc q=>lshift_int_small hc.1 hc.2.1 hc.2.2 q
theorem ZeS:OpR X (binaryOp .RShift) (rI (λ _ j=>0<=j) λ i j=>.int (i / 2 ^ j.toNat)):=opI λ i j _ _ _ _ _ hc q=>
 rshift_int hc (by rw[Int.fdiv_eq_ediv_of_nonneg i<|two_pow_nn _];exact q)
theorem ZeT:OpR X (binaryOp .BitAnd) (rI0 λ i j=>.int (Builtin.bitAnd i j)):=opI0 λ _ _ _ _ _ _ _ q=>and_int q
theorem unI{f:Value->Sem Value}{g:Int->Int}
  (rule:∀ (i:Int) (t:Tok) (s:Shared) (Q:zVP) (E:zVP),Q (.int (g i) s.toks) { s with toks:=s.toks+1 }->wpAny (model X.prog X.w) X.A (f (.int i t)) Q E s) :
  UnR X f (rU λ i=>.int (g i)):=by
 intro pj s σ H x v Q I rx h;obtain⟨i,rfl,q⟩:=h;obtain⟨t,rfl⟩:=rx;exact rule i t s _ _ ⟨.int<|g i,H,I.tok _,⟨_,rfl⟩,q⟩
theorem ZaI:UnR X (unaryOp .USub) (rU λ i=>.int (-i)):=unI λ _ _ _ _ _ q=>neg_int q
end
noncomputable def scal:V->V->Bool
 |.non,.non=>true | .non,.int _=>true | .int _,.non=>true | .non,.bl _=>true | .bl _,.non=>true | .non,.str _=>true | .str _,.non=>true
 |.int _,.int _=>true | .bl _,.bl _=>true | .str _,.str _=>true | .byt _,.byt _=>true
 |.int _,.str _=>true | .str _,.int _=>true | .bl _,.str _=>true | .str _,.bl _=>true
 |_,_=>false
noncomputable def rEq:R2:=λ x y H Q=>scal x y=true/\Q (.bl (decide (x=y))) H
noncomputable def rNe:R2:=λ x y H Q=>scal x y=true/\Q (.bl (!decide (x=y))) H
theorem zm:decide (V.int i=V.int j)=(i==j):=by
 rw[Bool.eq_iff_iff];simp
theorem ZaJ:decide (V.bl i=V.bl j)=(i==j):=by
 rw[Bool.eq_iff_iff];simp
theorem zn:decide (V.str i=V.str j)=(i==j):=by
 rw[Bool.eq_iff_iff];simp
theorem zo:decide (V.byt i=V.byt j)=(i.toList==j.toList):=by
 rw[Bool.eq_iff_iff];cases i
 cases j
 simp
section
variable {X:Cx}{a b c:Expr}{ta tb tc:TE}{pos:Pos}
theorem Zn(I:Inv X pj σ H s)(q:Q (.bl k) H)(e:k=k'):EP X pj σ Q (.bool k') s:=by
 subst e;exact⟨.bl k,H,I,rfl,q⟩
theorem Zgu:OpR X (compareOp .Eq) rEq:=by
 intro pj s σ H x y v u Q I rx ry h;obtain⟨hs,q⟩:=h;cases x with
 | non=>
  cases rx
  cases y with
  |non=>cases ry;exact PySem.EqNone.eq_none_none<|Zn I q (by simp)
  |bl j=>cases ry;exact PySem.EqNone.eq_none_bool<|Zn I q (by simp)
  |int j=>obtain⟨t',rfl⟩:=ry;exact PySem.EqNone.eq_none_int<|Zn I q (by simp)
  |str j=>obtain⟨t',rfl⟩:=ry;exact PySem.EqNone.eq_none_str<|Zn I q (by simp)
  |_=>exact absurd (show false=true from hs) oAg
 | bl i=>
  cases rx
  cases y with
  |non=>cases ry;exact PySem.EqNone.eq_bool_none<|Zn I q (by simp)
  |bl j=>cases ry;exact eq_bool<|Zn I q ZaJ
  |str j=>obtain⟨t',rfl⟩:=ry;exact PySem.EqMixed.eq_bool_str<|Zn I q (by simp)
  |_=>exact absurd (show false=true from hs) oAg
 | int i=>
  obtain⟨t,rfl⟩:=rx;cases y with
  |non=>cases ry;exact PySem.EqNone.eq_int_none<|Zn I q (by simp)
  |int j=>obtain⟨t',rfl⟩:=ry;exact eq_int<|Zn I q zm
  |str j=>obtain⟨t',rfl⟩:=ry;exact PySem.EqMixed.eq_int_str<|Zn I q (by simp)
  |_=>exact absurd (show false=true from hs) oAg
 | str i=>
  obtain⟨t,rfl⟩:=rx;cases y with
  |non=>cases ry;exact PySem.EqNone.eq_str_none<|Zn I q (by simp)
  |bl j=>cases ry;exact PySem.EqMixed.eq_str_bool<|Zn I q (by simp)
  |int j=>obtain⟨t',rfl⟩:=ry;exact PySem.EqMixed.eq_str_int<|Zn I q (by simp)
  |str j=>obtain⟨t',rfl⟩:=ry;exact eq_str<|Zn I q zn
  |_=>exact absurd (show false=true from hs) oAg
 | byt i=>
  obtain⟨t,rfl⟩:=rx;cases y with
  |byt j=>obtain⟨t',rfl⟩:=ry;exact PySem.W.eq_bytes<|Zn I q zo
  |_=>exact absurd (show false=true from hs) oAg
 |_=>cases y<;>exact absurd (show false=true from hs) oAg
theorem Zgv:OpR X (compareOp .NotEq) rNe:=by
 intro pj s σ H x y v u Q I rx ry h;obtain⟨hs,q⟩:=h;cases x with
 | non=>
  cases rx
  cases y with
  |non=>cases ry;exact PySem.EqNone.ne_none_none<|Zn I q (by simp)
  |bl j=>cases ry;exact PySem.EqNone.ne_none_bool<|Zn I q (by simp)
  |int j=>obtain⟨t',rfl⟩:=ry;exact PySem.EqNone.ne_none_int<|Zn I q (by simp)
  |str j=>obtain⟨t',rfl⟩:=ry;exact PySem.EqNone.ne_none_str<|Zn I q (by simp)
  |_=>exact absurd (show false=true from hs) oAg
 | bl i=>
  cases rx
  cases y with
  |non=>cases ry;exact PySem.EqNone.ne_bool_none<|Zn I q (by simp)
  |bl j=>cases ry;exact ne_bool<|Zn I q<|congrArg not ZaJ
  |str j=>obtain⟨t',rfl⟩:=ry;exact PySem.EqMixed.ne_bool_str<|Zn I q (by simp)
  |_=>exact absurd (show false=true from hs) oAg
 | int i=>
  obtain⟨t,rfl⟩:=rx;cases y with
  |non=>cases ry;exact PySem.EqNone.ne_int_none<|Zn I q (by simp)
  |int j=>obtain⟨t',rfl⟩:=ry;exact ne_int<|Zn I q<|congrArg not zm
  |str j=>obtain⟨t',rfl⟩:=ry;exact PySem.EqMixed.ne_int_str<|Zn I q (by simp)
  |_=>exact absurd (show false=true from hs) oAg
 | str i=>
  obtain⟨t,rfl⟩:=rx;cases y with
  |non=>cases ry;exact PySem.EqNone.ne_str_none<|Zn I q (by simp)
  |bl j=>cases ry;exact PySem.EqMixed.ne_str_bool<|Zn I q (by simp)
  |int j=>obtain⟨t',rfl⟩:=ry;exact PySem.EqMixed.ne_str_int<|Zn I q (by simp)
  |str j=>obtain⟨t',rfl⟩:=ry;exact ne_str<|Zn I q<|congrArg not zn
  |_=>exact absurd (show false=true from hs) oAg
 | byt i=>
  obtain⟨t,rfl⟩:=rx;cases y with
  |byt j=>obtain⟨t',rfl⟩:=ry;exact PySem.W.ne_bytes<|Zn I q<|congrArg not zo
  |_=>exact absurd (show false=true from hs) oAg
 |_=>cases y<;>exact absurd (show false=true from hs) oAg
def TruV(K:Frag)(x:V)(H:Hp)(k:Bool):Prop:=
 match x with
 |.non=>k=false
 |.bl b=>k=b
 |.int i=>k=(i != 0)
 |.str y=>y.length<=sizeLine/\k=((y.length:Int) != 0)
 |.byt y=>y.size<=sizeLine/\k=((y.size:Int) != 0)
 |.ref p=>(∃ xs,SqL K H p xs/\k=!xs.isEmpty)\/(∃ xs,SqT K H p xs/\k=!xs.isEmpty)\/∃ kvs,H p=some (.dK kvs)/\k=!kvs.isEmpty
 |_=>False
theorem zZ{κ:Type}{kvs:List (κ×V)}{vs:List (κ×Value)}(r:KV kvs vs):(!vs.isEmpty)=!kvs.isEmpty:=by
 cases r<;>rfl
theorem Va{xs:List V}{its:List Value}(r:Vals xs its):(!its.toArray.isEmpty)=!xs.isEmpty:=by
 cases r<;>simp
theorem line63:(sizeLine:Nat)<2 ^ 63:=by rw[sizeLine_eq];decide
theorem ZeU:TruR X (λ x H Q=>∃ k,TruV X.K x H k/\Q k H):=by
 intro pj s σ H x v Q I rx h;obtain⟨k,e,q⟩:=h;have hl:=line63;have hs:sizeLine=16777216:=sizeLine_eq;cases x with
 | non=>
  cases rx
  have e':k=false:=e;subst e';exact truthy_none ⟨H,I,q⟩
 | bl b=>
  cases rx
  have e':k=b:=e;subst e';exact wpAny_truthy_bool ⟨H,I,q⟩
 | int i=>
  obtain⟨t,rfl⟩:=rx;have e':k=(i != 0):=e;subst e';exact PySem.P.truthy_int ⟨H,I,q⟩
 | str y=>
  obtain⟨t,rfl⟩:=rx;obtain⟨hy,e'⟩:y.length<=sizeLine/\k=((y.length:Int) != 0):=e;subst e';exact PySem.P.truthy_str (by lia) ⟨H,I.tok _,q⟩
 | byt y=>
  obtain⟨t,rfl⟩:=rx;obtain⟨hy,e'⟩:y.size<=sizeLine/\k=((y.size:Int) != 0):=e;subst e';exact PySem.W.truthy_bytes (by lia) ⟨H,I.tok _,q⟩
 | ref p=>
  cases rx
  have e':(∃ xs,SqL X.K H p xs/\k=!xs.isEmpty)\/(∃ xs,SqT X.K H p xs/\k=!xs.isEmpty)\/∃ kvs,H p=some (.dK kvs)/\k=!kvs.isEmpty:=e
  rcases e' with ⟨xs,hx,e'⟩ | ⟨xs,hx,e'⟩ | ⟨kvs,hx,e'⟩
  ·subst e';obtain⟨its,r,pl,hz⟩:=I.list hx;have hlen:=r.length;exact wpAny_truthy_list pl.isList (by simp only[size_toArray];lia) ⟨H,I.tok _,by rw[Va r];exact q⟩
  ·subst e';obtain⟨its,r,pl,hz⟩:=I.tuple hx;have hlen:=r.length;exact truthy_tuple pl (by simp only[size_toArray];lia) ⟨H,I.tok _,by rw[Va r];exact q⟩
  ·subst e';obtain⟨hz,hS,vs,r,m⟩:kvs.length<=sizeLine/\(p==sysModules)=false/\∃ vs,KV kvs vs/\s.heap.DictOf (ZA X.prog X.w) p vs:=I.hok p _ hx;have hlen:kvs.length=vs.length:=Paired.length r;exact wpAny_truthy_dict hS m (by lia) ⟨H,I.tok _,by rw[zZ r];exact q⟩
 |_=>exact(show False from e).elim
theorem z3:OpR X (binaryOp .Add) (λ x y H Q=>∃ i j,x=.str i/\y=.str j/\i.length+j.length<=sizeLine/\Q (.str (i++j)) H):=by
 intro pj s σ H x y v u Q I rx ry h;obtain⟨i,j,rfl,rfl,hz,q⟩:=h;obtain⟨t,rfl⟩:=rx;obtain⟨t',rfl⟩:=ry;exact add_str (λ t' tk=>⟨.str<|i++j,H,I.tok _,⟨_,rfl⟩,q⟩) hz
theorem vals1(r:Vals [x] us):∃ u,us=[u]/\RelV x u:=by
 cases r with
 |cons r1 r2=>cases r2;exact⟨_,rfl,r1⟩
theorem vals2(r:Vals [x,y] us):∃ u w',us=[u,w']/\RelV x u/\RelV y w':=by
 cases r with
 | cons r1 r2=>
  cases r2 with
  |cons r3 r4=>cases r4;exact⟨_,_,rfl,r1,r3⟩
theorem Zb1:Z5 X (.builtin "abs") (λ xs H Q=>∃ i,xs=[.int i]/\Q (.int (if i<0 then -i else i)) H):=by
 intro pj s σ H xs us Q I r h;obtain⟨i,rfl,q⟩:=h;obtain⟨u,rfl,t,rfl⟩:=vals1 r;exact call_abs_int λ u tk=>⟨.int (if i<0 then -i else i),H,I.tok _,⟨_,rfl⟩,q⟩
theorem ZaK(hc:X.calm=true):Z5 X (.builtin "max") (λ xs H Q=>∃ i j,xs=[.int i,.int j]/\Q (.int (if j > i then j else i)) H):=by
 intro pj s σ H xs us Q I r h;obtain⟨i,j,rfl,q⟩:=h;obtain⟨u,w',rfl,⟨t,rfl⟩,⟨t',rfl⟩⟩:=vals2 r;refine max_two_ints (I.ok.hd hc) λ h' tk k=>⟨_,H,I.kept k,?_,q⟩;by_cases hj:j > i
 ·rw[if_pos hj,if_pos hj];exact⟨_,rfl⟩
 ·rw[if_neg hj,if_neg hj];exact⟨_,rfl⟩
theorem ZaL(hc:X.calm=true):Z5 X (.builtin "min") (λ xs H Q=>∃ i j,xs=[.int i,.int j]/\Q (.int (if j<i then j else i)) H):=by
 intro pj s σ H xs us Q I r h;obtain⟨i,j,rfl,q⟩:=h;obtain⟨u,w',rfl,⟨t,rfl⟩,⟨t',rfl⟩⟩:=vals2 r;refine min_two_ints (I.ok.hd hc) λ h' tk k=>⟨_,H,I.kept k,?_,q⟩;by_cases hj:j<i
 ·rw[if_pos hj,if_pos hj];exact⟨_,rfl⟩
 ·rw[if_neg hj,if_neg hj];exact⟨_,rfl⟩
theorem VU:Z5 X (.type "int") (λ xs H Q=>(∃ i,xs=[.int i]/\Q (.int i) H)\/∃ k,xs=[.bl k]/\Q (.int (if k then 1 else 0)) H):=by
 intro pj s σ H xs us Q I r h
 rcases h with ⟨i,rfl,q⟩ | ⟨k,rfl,q⟩
 ·obtain⟨u,rfl,t,rfl⟩:=vals1 r;exact call_int_int ⟨.int i,H,I,⟨_,rfl⟩,q⟩
 ·obtain⟨u,rfl,r1⟩:=vals1 r;cases r1
  exact call_int_bool ⟨.int (if k then 1 else 0),H,I.tok _,⟨_,rfl⟩,q⟩
theorem Vb:Z5 X (.type "bool") (λ xs H Q=>(∃ i,xs=[.int i]/\Q (.bl (i != 0)) H)\/∃ k,xs=[.bl k]/\Q (.bl k) H):=by
 intro pj s σ H xs us Q I r h
 rcases h with ⟨i,rfl,q⟩ | ⟨k,rfl,q⟩
 ·obtain⟨u,rfl,t,rfl⟩:=vals1 r;exact call_bool_int ⟨.bl<|i != 0,H,I,rfl,q⟩
 ·obtain⟨u,rfl,r1⟩:=vals1 r;cases r1
  exact call_bool_bool ⟨.bl k,H,I,rfl,q⟩
theorem WP:Z5 X (.type "str") (λ xs H Q=>∃ i,xs=[.int i]/\i.natAbs.log2<1920/\Q (.str (toString i)) H):=by
 intro pj s σ H xs us Q I r h;obtain⟨i,rfl,hz,q⟩:=h;obtain⟨u,rfl,t,rfl⟩:=vals1 r;exact PySem.P.str_of_int hz ⟨.str _,H,I.tok _,⟨_,rfl⟩,q⟩
theorem qU:Z5 X (.builtin "divmod") (λ xs H Q=>∃ i j,xs=[.int i,.int j]/\CDiv i j/\∀ p,H p=none->Q (.ref p) (upd H p (.tup [.int (i / j),.int (i % j)]))):=by
 intro pj s σ H xs us Q I r h;obtain⟨i,j,rfl,⟨h1,h2⟩,q⟩:=h;obtain⟨u,w',rfl,⟨t,rfl⟩,⟨t',rfl⟩⟩:=vals2 r;refine divmod_int (by lia) ?_<|.inl<|PyProof.noPylong_small (by lia);rw[Int.fdiv_eq_ediv_of_nonneg i (by lia),Int.fmod_eq_emod_of_nonneg i (by lia)];have hn:H s.heap.objs.size=none:=I.hok.fresh<|oAl _;refine⟨.ref s.heap.objs.size,_,?_,rfl,q _ hn⟩;refine I.laid (λ b o e=>oAd _ e) (oAl _) ⟨by simp only[length_cons,length_nil];rw[sizeLine_eq];decide,[.int (i / j) s.toks,.int (i % j)<|s.toks+1],.cons ⟨_,rfl⟩<|.cons ⟨_,rfl⟩ .nil,?_⟩
 exact⟨_,oAe s.heap rfl,rfl,0,rfl⟩
end
structure ObjM(h:Heap)(x dx C:Addr)(mA:Str->Option Value):Prop where
 obj:h.get? x=some (PySem.W.instObj C dx)
 ns:h.Ns1 dx mA
 ne:dx≠x
theorem ZaM{h:Heap}{dx:Addr}{mA:Str->Option Value}(n:h.Ns1 dx mA):∃ od,h.get? dx=some od/\∀ name,PySem.W.lookIn name od=some (mA name):=by
 obtain⟨o,es,ep,ho,hd,hk,_,hm⟩:=n;refine⟨o,ho,λ name=>?_⟩;have e:=hm name;unfold nsFind findBy at e;rw[<- Array.find?_toList] at e;unfold PySem.W.lookIn;rw[hd];dsimp only;split
 ·rename_i y q;rw[q] at e;exact congrArg some e
 ·rename_i q;rw[q] at e;have a:es.toList.any (·.refKey)=false:=by
   rw[List.any_eq_false];intro y hy;obtain⟨z,t,hkey⟩:=hk y<|Array.mem_toList_iff.1 hy;simp[DictEntry.refKey,hkey]
  have a':¬ es.toList.any (·.refKey)=true:=by rw[a];exact oAg
  rw[if_neg a'];exact congrArg some e
theorem ObjM.look(I:ObjM h x dx C mA):∃ od,PySem.W.InstAt h x (PySem.W.instObj C dx) C (some od)/\∀ name,PySem.W.lookIn name od=some (mA name):=
 let ⟨od,ho,hl⟩:=ZaM I.ns
 ⟨od,⟨I.obj,rfl,rfl,ho⟩,hl⟩
theorem RelO.some_of(r:RelO (some v) o):∃ u,o=some u/\RelV v u:=by
 cases o with
 |none=>exact(show False from r).elim
 |some u=>exact⟨u,rfl,r⟩
section
variable {P:Program}{w:World}{H H':Hp}{h h':Heap}{a C dx:Addr}{fs fs':List (Str×V)}
theorem Zdm(hok:HOk P w H h)(e:H a=some (.ins C dx fs)):∃ mA,ObjM h a dx C mA/\(∀ f,RelO (fs.lookup f) (mA f))/\PySem.Within mA (fs.map (·.1))/\fs.length<=1000/\H dx=some (.own a):=by
 obtain⟨d,z,ne,ob,mA,n,r,q⟩:=(show Zr P w H h a (.ins C dx fs) from hok a _ e);exact⟨mA,⟨ob,n,ne⟩,r,q,z,d⟩
end
structure Cls(K:Frag)(C:Addr):Prop where
 pg:PySem.W.plainGet K C Str.empty=true
 hd:PySem.W.hasDictIn K C=true
 po:PySem.W.plainOver K C=true
 sa:PySem.W.findIn K (.ref C) "__setattr__"=some (some (.builtin "object.__setattr__"))
theorem Cls.get{K:Frag}{C:Addr}(c:Cls K C)(f:Str):PySem.W.plainGet K C f=true:=c.pg
def ZaN(K:Frag)(C:Addr)(f:Str):Prop:=PySem.W.findIn K (.ref C) f=some none
structure Meth(K:Frag)(C:Addr)(m:Str)(f:Addr):Prop where
 at_:PySem.W.findIn K (.ref C) m=some (some (.ref f))
 fn:PySem.W.isFn K (.ref f)=true
 kp:PySem.W.keepIn K (.ref f)=true
section
variable {X:Cx}{pj:zPn}{σ:St}{H:Hp}{s:Shared}{A:Around}{E:zVP}{Q:zVP}{c:Value}{b:Bool}
inductive TyOf(K:Frag)(H:Hp):V->Value->Prop where
 |non:TyOf K H .non (.type "NoneType")
 |bl (x:Bool):TyOf K H (.bl x) (.type "bool")
 |int (i:Int):TyOf K H (.int i) (.type "int")
 |str (x:Str):TyOf K H (.str x) (.type "str")
 |flt (x:UInt64):TyOf K H (.flt x) (.type "float")
 |lst {a:Addr}{xs:List V} (e:H a=some (.lst xs)):TyOf K H (.ref a) (.type "list")
 |frz {a:Addr}{o:Obj}{xs:List V} (e:H a=some (.frz o (.lst xs))):TyOf K H (.ref a) (.type "list")
 |tup {a:Addr}{xs:List V} (e:H a=some (.tup xs)):TyOf K H (.ref a) (.type "tuple")
 |dK {a:Addr}{kvs:List (Key×V)} (e:H a=some (.dK kvs)):TyOf K H (.ref a) (.type "dict")
 |dT {a:Addr}{kvs:List (List Key×V)} (e:H a=some (.dT kvs)):TyOf K H (.ref a) (.type "dict")
 | ins {a C dx:Addr}{fs:List (Str×V)} (e:H a=some (.ins C dx fs)) (cl:Cls K C) (ha:PySem.W.findIn K (.ref C) "__class__"=some (some (.builtin "object.__class__")))
   (hn:PySem.W.specialIn K (.builtin "object.__class__") "__get__"=some (some (.builtin "getset_descriptor.__get__"))) (htk:PySem.W.takesIn K (.builtin "object.__class__")=some true)
   (hm:PySem.W.mroIn K C (.type "object")=some true):TyOf K H (.ref a) (.ref C)
theorem YI(I:Inv X pj σ H s)(rx:RelV x u)(ty:TyOf X.K H x t)(e:PySem.W.kitOne X.K t c=some b)(h:∀ tk,Q (.bool b) { s with toks:=tk }) :
  wpAny (model X.prog X.w) A (call (.builtin "isinstance") [u,c]) Q E s:=by
 cases ty with
 |non=>cases (show u=Value.none from rx);exact PySem.W.kia_one PySem.W.kitx_none I.kIn True.intro e (λ z=>nomatch z) h
 |bl y=>cases (show u=Value.bool y from rx);exact PySem.W.kia_one PySem.W.kitx_bool I.kIn True.intro e (λ z=>nomatch z) h
 |int i=>obtain⟨t,q⟩:=(show ∃ t,u=Value.int i t from rx);cases q;exact PySem.W.kia_one PySem.W.kitx_int I.kIn True.intro e (λ z=>nomatch z) h
 |str y=>obtain⟨t,q⟩:=(show ∃ t,u=Value.str y t from rx);cases q;exact PySem.W.kia_one PySem.W.kitx_str I.kIn True.intro e (λ z=>nomatch z) h
 |flt y=>obtain⟨t,q⟩:=(show ∃ t,u=Value.float y t from rx);cases q;exact PySem.W.kia_one PySem.W.kitx_float I.kIn True.intro e (λ z=>nomatch z) h
 | @lst a xs ea=>
  cases (show u=Value.ref a from rx)
  obtain⟨_,_,n,_,h1⟩:=(show Zr X.prog X.w H s.heap a (.lst xs) from I.hok a _ ea);exact PySem.W.kia_one PySem.W.kitx_list I.kIn ⟨_,h1,rfl⟩ e (λ z=>nomatch z) h
 | @frz a ob xs ea=>
  cases (show u=Value.ref a from rx)
  obtain⟨_,_,_,n,_,h1⟩:=(show Zr X.prog X.w H s.heap a (.frz ob<|.lst xs) from I.hok a _ ea);exact PySem.W.kia_one PySem.W.kitx_list I.kIn ⟨_,h1,rfl⟩ e (λ z=>nomatch z) h
 | @tup a xs ea=>
  cases (show u=Value.ref a from rx)
  obtain⟨_,_,_,p⟩:=(show Zr X.prog X.w H s.heap a (.tup xs) from I.hok a _ ea);obtain⟨o,h1,h2,_⟩:=p;exact PySem.W.kia_one PySem.W.kitx_tuple I.kIn ⟨o,h1,h2⟩ e (λ z=>nomatch z) h
 | @dK a kvs ea=>
  cases (show u=Value.ref a from rx)
  obtain⟨_,_,vs,_,p⟩:=(show Zr X.prog X.w H s.heap a (.dK kvs) from I.hok a _ ea);obtain⟨o,es,ep,h1,h2,_⟩:=p;exact PySem.W.kia_one PySem.W.kitx_dict I.kIn ⟨o,h1,h2.1⟩ e (λ z=>nomatch z) h
 | @dT a kvs ea=>
  cases (show u=Value.ref a from rx)
  obtain⟨_,_,xs,_,o,es,ep,h1,h2,_⟩:=(show Zr X.prog X.w H s.heap a (.dT kvs) from I.hok a _ ea);exact PySem.W.kia_one PySem.W.kitx_dict I.kIn ⟨o,h1,h2.1⟩ e (λ z=>nomatch z) h
 | @ins a C dx fs ea cl ha hn htk hm=>
  cases (show u=Value.ref a from rx)
  obtain⟨mA,O,_⟩:=Zdm I.hok ea;obtain⟨od,J,_⟩:=O.look;exact PySem.W.kia_one (PySem.W.kitx_own (cl.get _) cl.hd ha hn htk hm) I.kIn J e (λ z=>nomatch z) h
end
structure Room(k:Nat)(A:Around):Prop where
 hd:A.handled=none
 dp:A.depth+3 * k+5<recursionLimit
 un:A.units+16 * k+200<cLine
theorem Room.deeper(r:Room (k+1) A)(env:Env):Room k (A.deeper env):=
 ⟨r.hd,by have:=r.dp;show A.depth+1+3 * k+5 < _;lia,by have:=r.un;show A.units+3+16 * k+200 < _;lia⟩
theorem Room.depth(r:Room k A):A.depth<recursionLimit:=by have:=r.dp;omega
noncomputable def tNil:TA:=λ _ H Q=>Q [] H
noncomputable def z5(ta:TE)(tr:TA):TA:=λ σ H Q=>ta σ H λ x H1=>tr σ H1 λ xs H2=>Q (x::xs) H2
section
variable {X:Cx}{e:Expr}{es:List Expr}{te:TE}{t:TA}{pos:Pos}
theorem JH:PA X [] tNil:=λ _ _ _ _ H Q I h=>Calls.spliced_nil ⟨[],H,I,.nil,h⟩
theorem Ys(ha:PE X e te)(hr:PA X es t)(hs:starEach (e::es) X.env=(false,eval e X.env)::starEach es X.env:=by rfl):PA X (e::es) (z5 te t):=by
 intro pos pj s σ H Q I h;rw[hs];show wpAny _ _ (spliced ((false,eval e X.env)::backTo pos (starEach es X.env))) _ _ s;refine Calls.spliced_cons<|thn (ha pj s σ H _ I h) λ u s1 ⟨x,H1,I1,r1,q1⟩=>?_;exact thn (hr pos pj s1 σ H1 _ I1 q1) λ us s2 ⟨xs,H2,I2,r2,q2⟩=>⟨x::xs,H2,I2,.cons r1 r2,q2⟩
noncomputable def tTup(t:TA):TE:=λ σ H Q=>t σ H λ xs H1=>xs.length<=sizeLine/\∀ p,H1 p=none->Q (.ref p) (upd H1 p (.tup xs))
noncomputable def tLst(t:TA):TE:=λ σ H Q=>t σ H λ xs H1=>xs.length<=sizeLine/\∀ p,H1 p=none->Q (.ref p) (upd H1 p (.lst xs))
theorem ZeV{x1}(h:PA X es t):PE X (.Tuple es x1 pos) (tTup t):=by
 intro pj s σ H Q I hq;refine wpAny_Tuple_spliced<|thn (h pos pj s σ H _ I hq) λ us s1 ⟨xs,H1,I1,r,z,q⟩=>⟨by rw[<- r.length];exact z,?_⟩
 have hf:H1 s1.heap.objs.size=none:=I1.hok.fresh<|oAl _;refine⟨.ref s1.heap.objs.size,upd H1 s1.heap.objs.size<|.tup xs,I1.laid (t':=s1.toks) (λ b u e=>oAd _ e) (oAl _) ?_,rfl,q _ hf⟩;exact⟨z,us,r,⟨_,oAe _ rfl,rfl,_,rfl⟩⟩
theorem ZeW(h:PA X es t):PE X (.List es pos) (tLst t):=by
 intro pj s σ H Q I hq;refine wpAny_List_spliced<|thn (h pos pj s σ H _ I hq) λ us s1 ⟨xs,H1,I1,r,z,q⟩=>⟨by rw[<- r.length];exact z,?_⟩
 have hf:H1 s1.heap.objs.size=none:=I1.hok.fresh<|oAl _;refine⟨.ref s1.heap.objs.size,upd H1 s1.heap.objs.size<|.lst xs,I1.laid (t':=s1.toks) (λ b u e=>oAd _ e) (oAl _) ?_,rfl,q _ hf⟩;exact⟨z,us,0,r,oAe _ rfl⟩
end
abbrev Sp:=List V->Hp->VK->XK->Prop
abbrev CXT:=List Env->Hp->Shared->XK->Value->Shared->Prop
structure Env0(P:Program)(w:World)(K:Frag)(mg:Str->Option Value)(base:Heap)(A:Around)(outer:List Env)(s:Shared)(H:Hp):Prop where
 frames:A.frames=some outer
 mod:Mod K mg base
 bs:∀ b o,base.get? b=some o->s.heap.get? b=some o/\H b=none
 bsz:base.objs.size<=s.heap.objs.size
 funs:s.heap.FunFrames base outer
 frf:∀ b∈frs outer,H b=none
 hok:HOk P w H s.heap
 bare:AllBare s.gens
inductive CE(outer:List Env)(P:Program)(w:World)(H:Hp)(s:Shared)(Q:VK)(u:Value)(s':Shared):Prop
 |mk (v:V) (H':Hp) (os:s'.os=s.os) (ba:AllBare s'.gens) (un:Un (frs outer) [] H H' s.heap s'.heap) (hk:HOk P w H' s'.heap) (r:RelV v u) (q:Q v H')
def CR(CX:CXT)(outer:List Env)(P:Program)(w:World)(H:Hp)(s:Shared)(Q:VK)(E:XK)(r:Result)(s':Shared):Prop:=
 match r with
 |.ok (.ret u)=>CE outer P w H s Q u s'
 |.ok _=>False
 |.error e=>CX outer H s E e s'
structure FnOk(P:Program)(w:World)(K:Frag)(mg:Str->Option Value)(base:Heap)(CX:CXT)(k:Nat)(f:Addr)(fd:FuncData)(ps:List Str)(sp:Sp):Prop where
 len:∀ vs H Q E,sp vs H Q E->vs.length=ps.length
 run:∀ (A:Around) (outer:List Env) (s:Shared) (H:Hp) (args:Args) (us:List Value) (vs:List V) (Q:VK) (E:XK),Room k A->Env0 P w K mg base A outer s H->BindsTo s fd args (ps.zip us)->Vals vs us->sp vs H Q E ->
  codeAny (model P w) A (.call (.ref f) args) (CR CX outer P w H s Q E) s
section
variable {X:Cx}{pj:zPn}{σ:St}{H:Hp}{s s':Shared}
theorem Inv.env0(I:Inv X pj σ H s):Env0 X.prog X.w X.K X.mg X.base X.A X.stack s H:=
 ⟨I.ok.frames,I.ok.mod,I.bs,oAq I.ok.bsz I.sz,I.stack,I.stkFree,I.hok,I.bare⟩
theorem Inv.after(I:Inv X pj σ H s)(h:CE X.stack X.prog X.w H s Q u s'):EP X pj σ Q u s':=by
 obtain⟨v,H',os,bare,un,hok,r,q⟩:=h;obtain⟨hh,g,d,t,os'⟩:=s';obtain rfl:os'=s.os:=os;exact⟨v,H',I.call (h':=hh) (g':=g) (d':=d) (t':=t) (ch:=[]) un hok bare<|λ b z=>absurd z (by simp),r,q⟩
end
noncomputable def ZcU(sp:Sp)(dvs:List V)(E:XK)(t:TA):TE:=λ σ H Q=>t σ H λ vs H1=>sp (vs++dvs) H1 Q E
def Binds(K:Frag)(fd:FuncData)(ps:List Str)(ds:List Value):Prop:=
 ∀ (s:Shared) (us:List Value),K.In s.heap->(us++ds).length=ps.length->BindsTo s fd ⟨us,[]⟩ (ps.zip (us++ds))
theorem Binds.all{K:Frag}{fd:FuncData}{ps:List Str}(h:∀ us:List Value,us.length=ps.length->bindArgs fd ⟨us,[]⟩=pure (ps.zip us)):Binds K fd ps []:=λ s us _ hl=>by
 rw[append_nil] at hl ⊢;exact .of_eq<|h us hl
def Passes(CX:CXT)(X:Cx)(E:XK):Prop:=∀ (pj:zPn) (σ:St) (H:Hp) (s:Shared) (e:Value) (s':Shared),Inv X pj σ H s->CX X.stack H s E e s'->X.xe e s'
section
variable {X:Cx}{CX:CXT}{k:Nat}{f C:Addr}{fd:FuncData}{ps:List Str}{sp:Sp}{dvs:List V}{ds:List Value}{E:XK}{x m:Str}{p pos apos:Pos}{e o:Expr}{es:List Expr}{ta:TE}{t:TA}
theorem ZaO(F:FnOk X.prog X.w X.K X.mg X.base CX k f fd ps sp)(hr:Room k X.A)(hb:Binds X.K fd ps ds)(hd:Vals dvs ds)(hx:Passes CX X E)
  (I:Inv X pj σ H s)(r:Vals vs us)(h:sp (vs++dvs) H Q E):wpAny (model X.prog X.w) X.A (call (.ref f) us) (EP X pj σ Q) X.xe s:=by
 have r2:Vals (vs++dvs) (us++ds):=r.append hd;have hl:(us++ds).length=ps.length:=by rw[<- r2.length];exact F.len _ _ _ _ h
 refine wpAny_call<|codeAny_mono (F.run X.A X.stack s H ⟨us,[]⟩ (us++ds) (vs++dvs) Q E hr I.env0 (hb s us I.kIn hl) r2 h) λ r s' hq=>?_;cases r with
 |error e=>exact hx pj σ H s e s' I hq
 | ok fl=>
  cases fl with
  |ret u=>exact I.after hq
  |next=>exact False.elim hq
  |brk=>exact False.elim hq
  |cont=>exact False.elim hq
theorem Zdn(F:FnOk X.prog X.w X.K X.mg X.base CX k f fd ps sp)(hr:Room k X.A)(hg:Gl X x)(hm:X.mg x=some (.ref f))(hk:PySem.W.keepIn X.K (.ref f)=true)(hb:Binds X.K fd ps ds)(hd:Vals dvs ds)(hx:Passes CX X E)
  (ha:PA X (e::es) t)(hdb:(x==("__debug__":Str))=false:=by decide)(he:starEach (e::es) X.env=(false,eval e X.env)::starEach es X.env:=by rfl)(hpl:(backTo pos (starEach es X.env)).any (·.1)=false:=by rfl) :
  PE X (.Call (.Name x p) (e::es) [] pos) (ZcU sp dvs E t):=by
 intro pj s σ H Q I h;refine wpAny_Call_Name_kw<|Jj I hg hm ?_ hdb;refine PySem.W.callWith_K (h₀:=X.base) I.ok.mod.kin hk (thn (ha pos pj s σ H _ I h) λ us s1 ⟨vs,H1,I1,r,q⟩=>⟨I1.kIn,?_⟩) he hpl;exact ZaO F hr hb hd hx I1 r q
theorem Zb2(F:FnOk X.prog X.w X.K X.mg X.base CX k f fd ps sp)(hr:Room k X.A)(hg:Gl X x)(hm:X.mg x=some (.ref f))(hk:PySem.W.keepIn X.K (.ref f)=true)(hb:Binds X.K fd ps ds)(hd:Vals dvs ds)(hx:Passes CX X E)
  (hdb:(x==("__debug__":Str))=false:=by decide):PE X (.Call (.Name x p) [] [] pos) (ZcU sp dvs E tNil):=by
 intro pj s σ H Q I h;refine wpAny_Call_Name_kw<|Jj I hg hm ?_ hdb;exact PySem.W.callWith_K0 I.kIn hk<|ZaO (us:=[]) F hr hb hd hx I .nil h
structure Mk(K:Frag)(C f:Addr):Prop where
 makes:PySem.W.makesIn K C=true
 init:PySem.W.findIn K (.ref C) "__init__"=some (some (.ref f))
 fn:PySem.W.isFn K (.ref f)=true
 kp:PySem.W.keepIn K (.ref C)=true
end
structure Z7(N P:List Str)(sc:Scope):Prop where
 kind:sc.kind=.function
 co:sc.isCoroutine=false
 gen:sc.isGenerator=false
 nd:N.Nodup
 pre:N.take P.length=P
 par:∀ x∈P,sc.names.lookup x=some .local\/sc.names.lookup x=some .cell
 nofree:∀ y∈sc.names,y.2≠.free
theorem VW{kindOf:Str->Option NameKind}{x:Str}:∀ {binds:List (Str×Value)}{m:Str->Option Value},(∀ v,(x,v)∉binds)->bindL kindOf binds m x=m x
 |[],_,_=>rfl
 | (n,v)::r,m,h=>by
  unfold bindL;rw[VW λ w hw=>h w<|oAm _ hw];split
  ·have:x≠n:=by rintro rfl;exact h v oAn
   simp[this]
  ·rfl
theorem VX{kindOf:Str->Option NameKind}{x:Str}:∀ {binds:List (Str×Value)}{m:Str->Option Value},(∀ v,(x,v)∉binds)->bindC kindOf binds m x=m x
 |[],_,_=>rfl
 | (n,v)::r,m,h=>by
  unfold bindC;rw[VX λ w hw=>h w<|oAm _ hw];split
  ·rfl
  ·have:x≠n:=by rintro rfl;exact h v oAn
   simp[this]
theorem VY{kindOf:Str->Option NameKind}{x:Str}{v:Value}:∀ {P:List Str}{vs:List Value}{i:Nat}{m:Str->Option Value},P.Nodup->P[i]?=some x->vs[i]?=some v->kindOf x=some .local ->
  bindL kindOf (P.zip vs) m x=some v
 |[],_,_,_,_,h,_,_=>by simp at h
 |_::_,[],_,_,_,_,h,_=>by simp at h
 | p::P,w::vs,0,m,nd,h1,h2,hk=>by
  simp at h1 h2;subst h1;subst h2
  show bindL kindOf ((p,w)::P.zip vs) m p=_;unfold bindL;rw[VW λ v hv=>(List.nodup_cons.1 nd).1 (of_mem_zip hv).1,if_pos hk];simp
 | p::P,w::vs,i+1,m,nd,h1,h2,hk=>by
  show bindL kindOf ((p,w)::P.zip vs) m x=_;unfold bindL;exact VY (i:=i) (List.nodup_cons.1 nd).2 (by simpa using h1) (by simpa using h2) hk
theorem VZ{kindOf:Str->Option NameKind}{x:Str}{v:Value}:∀ {P:List Str}{vs:List Value}{i:Nat}{m:Str->Option Value},P.Nodup->P[i]?=some x->vs[i]?=some v->kindOf x≠some .local ->
  bindC kindOf (P.zip vs) m x=some v
 |[],_,_,_,_,h,_,_=>by simp at h
 |_::_,[],_,_,_,_,h,_=>by simp at h
 | p::P,w::vs,0,m,nd,h1,h2,hk=>by
  simp at h1 h2;subst h1;subst h2
  show bindC kindOf ((p,w)::P.zip vs) m p=_;unfold bindC;rw[VX λ v hv=>(List.nodup_cons.1 nd).1 (of_mem_zip hv).1,if_neg hk];simp
 | p::P,w::vs,i+1,m,nd,h1,h2,hk=>by
  show bindC kindOf ((p,w)::P.zip vs) m x=_;unfold bindC;exact VZ (i:=i) (List.nodup_cons.1 nd).2 (by simpa using h1) (by simpa using h2) hk
noncomputable def start(N:List Str)(vs:List V):St:=vs.map some++List.replicate (N.length - vs.length) none
noncomputable def cxOf(CX:CXT)(P:Program)(w:World)(K:Frag)(mg:Str->Option Value)(base:Heap)(N:List Str)(qual:Str)(scope:Scope)(f:Addr)(cd:Value)(A:Around)(outer:List Env)(s:Shared)(H:Hp)(E:XK):Cx where
 prog:=P
 w:=w
 K:=K
 mg:=mg
 base:=base
 A:=A.deeper (envOfC qual scope s.heap.objs.size f cd)
 N:=N
 s₀:=s
 H₀:=H
 env:=envOfC qual scope s.heap.objs.size f cd
 outer:=outer
 stack:=envOfC qual scope s.heap.objs.size f cd::outer
 ex:=[]
 calm:=true
 fn:=λ _=>true
 pn:=[]
 xe:=λ e s'=>wpAny (model P w) (A.deeper (envOfC qual scope s.heap.objs.size f cd)) (leaving (envOfC qual scope s.heap.objs.size f cd) e) (λ _ s''=>CX outer H s E e s'') (λ e' s''=>CX outer H s E e' s'') s'
theorem WQ{sc:Scope}{n:Nat}{x:Str}(h:sc.names.lookup x=some .cell):∃ c,(cellsFrom n sc.names []).lookup x=some c:=by
 have q:=PySem.W.cellsFrom_some sc.names n [] (.inl h);exact Option.isSome_iff_exists.1 q
theorem ZaP{CX:CXT}{P:Program}{w:World}{K:Frag}{mg:Str->Option Value}{base:Heap}{N ps:List Str}{qual:Str}{scope:Scope}{f:Addr}{cd:Value}{A:Around}{outer:List Env}{s s1:Shared}{H:Hp}{E:XK}{us:List Value}{vs:List V}
  (S:Z7 N ps scope)(hd:A.handled=none)(e0:Env0 P w K mg base A outer s H)(hl:vs.length=ps.length)(r:Vals vs us)
  (x:InCallC s s.heap.objs.size (bindL (envOfC qual scope s.heap.objs.size f cd).kindOf (ps.zip us) λ _=>none) (cellsFrom (s.heap.objs.size+1) scope.names []) (bindC (envOfC qual scope s.heap.objs.size f cd).kindOf (ps.zip us) λ _=>none) s1) :
  Inv (cxOf CX P w K mg base N qual scope f cd A outer s H E) [] (start N vs) H s1:=by
 have hpl:ps.length<=N.length:=by have:=congrArg List.length S.pre;rw[length_take] at this;lia
 obtain⟨h1,tk,rfl,hk⟩:=x.done;have noA:∀ b:Addr,b∉(cxOf CX P w K mg base N qual scope f cd A outer s H E).ex:=λ b z=>absurd (show b∈([]:List Addr) from z) (by simp);refine⟨⟨e0.mod,S.kind,rfl,rfl,oAl _,λ y z c h1 h2=>?_,λ y hy=>?_,λ y c _ h=>?_,λ _=>hd,Around.frames_deeper e0.frames,.inr ⟨rfl,rfl⟩,λ b z=>absurd z<|noA b,e0.bs,e0.bsz,λ b _ _=>noA b,λ b z=>absurd z<|noA b,e0.funs,e0.frf⟩,
  rfl,e0.bare,Un.kept hk,⟨_,x.toInCall.ns,λ i y v h1 h2 h3=>?_⟩,λ y c h=>⟨_,x.cell y c h⟩,e0.hok.fresh<|oAl _,λ y c h=>?_,λ p hp=>absurd (show p∈([]:zPn) from hp) (by simp),e0.hok.kept hk,?_⟩
 ·exact name_of_addr x.apart (PySem.mem_of_lookup h1)<|PySem.mem_of_lookup h2
 ·have hy:scope.names.lookup y=some .cell\/scope.names.lookup y=some .free:=hy
  rcases hy with hy | hy
  ·exact WQ hy
  ·exact absurd rfl<|S.nofree _<|PySem.mem_of_lookup hy
 ·exact Nat.le_of_lt<|x.above y c<|PySem.mem_of_lookup h
 ·have hi:i<vs.length:=by
   unfold start at h2;by_cases hi:i<vs.length
   ·exact hi
   ·rw[getElem?_append_right (by simpa using hi)] at h2;rw[List.getElem?_replicate] at h2;split at h2<;>cases h2
  have ha:vs[i]?=some v:=by
   unfold start at h2;rw[getElem?_append_left (by simpa using hi),getElem?_map] at h2;cases e:vs[i]? with
   |none=>rw[e] at h2;cases h2
   |some a=>rw[e] at h2;cases h2;rfl
  obtain⟨u,hu,rv⟩:=r.get ha;have hp:ps[i]?=some y:=by
   rw[<- S.pre,List.getElem?_take_of_lt (by lia)];exact h1
  have ndP:ps.Nodup:=by rw[<- S.pre];exact S.nd.sublist<|List.take_sublist _ _
  refine⟨u,rv,?_⟩
  rcases S.par y (mem_of_getElem? hp) with k | k
  ·exact .inl ⟨k,VY ndP hp hu k⟩
  ·obtain⟨c,e⟩:=WQ (n:=s.heap.objs.size+1) k;refine .inr ⟨.inl k,c,e,?_⟩;have q:=x.cell y c e;rw[VZ ndP hp hu (by show scope.names.lookup y≠_;rw[k];decide)] at q
   exact q
 ·exact e0.hok.fresh<|Nat.le_of_lt<|x.above y c<|PySem.mem_of_lookup h
 ·unfold start;show _=N.length;rw[length_append,length_map,List.length_replicate];lia
theorem Zgw{CX:CXT}{P:Program}{w:World}{K:Frag}{mg:Str->Option Value}{base:Heap}{k:Nat}{f:Addr}{name qual:Str}{params:Arguments}{body:List Stmt}{scope:Scope}{dV kV doc pm cdv ct oc:Value}{an od:Option Addr}
  {osl:Array (Option Value)}{N ps:List Str}{sp:Sp}(lk:K.lookup f=some ⟨oc,od,.func (PySem.W.fnOf name qual params body scope dV kV doc pm an cdv ct),osl⟩)(hcd:PySem.W.codeIn K cdv qual=true)(S:Z7 N ps scope)
  (len:∀ vs H Q E,sp vs H Q E->vs.length=ps.length)
  (hbody:∀ (A:Around) (outer:List Env) (s:Shared) (H:Hp) (vs:List V) (Q:VK) (E:XK),Room k (A.deeper (envOfC qual scope s.heap.objs.size f cdv))->sp vs H Q E ->
   ∃ t,PSs (cxOf CX P w K mg base N qual scope f cdv A outer s H E) body t/\t { nx:=λ _ H'=>Q .non H',rt:=Q } (start N vs) H) :
  FnOk P w K mg base CX (k+1) f (PySem.W.fnOf name qual params body scope dV kV doc pm an cdv ct) ps sp:=by
 refine⟨len,λ A outer s H args us vs Q E hr e0 hb r hsp=>?_⟩;have hl:=len _ _ _ _ hsp;have KX:K.In s.heap:=e0.mod.kin.keeps λ b o e=>(e0.bs b o e).1;have lim:s.heap.NoLimit:=e0.mod.nolimit.keeps λ b o e=>(e0.bs b o e).1;have hkind:∀ y∈ps.zip us,scope.names.lookup y.1=some .local\/(scope.names.lookup y.1=some .cell/\((cellsFrom (s.heap.objs.size+1) scope.names []).lookup y.1).isSome=true):=λ ⟨n,v⟩ hy=>by
  rcases S.par n (of_mem_zip hy).1 with q | q
  ·exact .inl q
  ·exact .inr ⟨q,PySem.W.cellsFrom_some _ _ _<|.inl q⟩
 refine codeAny_call_function hr.depth (KX _ _ lk) rfl S.co S.gen rfl (PySem.W.codeRec_of KX hcd)<|hb _ _ _ _ ?_;refine wpAny_newFunctionEnv_cells S.kind hkind λ env he s1 x=>?_;subst he;refine⟨lim.keeps x.toInCall.keep,codeAny_func ?_⟩;obtain⟨t,ht,hq⟩:=hbody A outer s H vs Q E (hr.deeper _) hsp;have I:Inv (cxOf CX P w K mg base N qual scope f cdv A outer s H E) [] (start N vs) H s1:=ZaP S hr.hd e0 hl r x;refine oAc (ht [] s1 (start N vs) H _ I hq) (λ fl s' hs=>?_) λ e s' hs=>hs;have fin:∀ {σ':St}{H':Hp}{v:V}{u:Value},Inv (cxOf CX P w K mg base N qual scope f cdv A outer s H E) [] σ' H' s'->RelV v u->Q v H'->CE outer P w H s Q u s':=
  λ {σ' H' v u} J rv q=>⟨v,H',J.os,J.bare,J.base,J.hok,rv,q⟩
 cases fl with
 | ret u=>
  obtain⟨v,σ',H',J,rv,q⟩:=hs;exact fin J rv q
 | next=>
  obtain⟨σ',H',J,q⟩:=hs;exact fin (v:=V.non) (u:=Value.none) J rfl q
 | brk=>
  obtain⟨_,_,_,q⟩:=hs;exact False.elim q
 | cont=>
  obtain⟨_,_,_,q⟩:=hs;exact False.elim q
section
variable {X:Cx}{x:Str}{p pos:Pos}{e:Expr}{es:List Expr}{t:TA}{id T:String}{r:List V->Hp->VK->Prop}
noncomputable def tCB(r:List V->Hp->VK->Prop)(t:TA):TE:=λ σ H Q=>t σ H λ vs H1=>r vs H1 Q
theorem UR(hc:Z5 X (.builtin id) r)(hg:Gl X x)(hm:X.mg x=none)(hv:bootBuiltins x=some (.builtin id))(ha:PA X (e::es) t)(hn:x≠"__name__":=by decide)(hdb:(x==("__debug__":Str))=false:=by decide)
  (he:starEach (e::es) X.env=(false,eval e X.env)::starEach es X.env:=by rfl)(hpl:(backTo pos (starEach es X.env)).any (·.1)=false:=by rfl):PE X (.Call (.Name x p) (e::es) [] pos) (tCB r t):=by
 intro pj s σ H Q I h;refine wpAny_Call_Name_kw<|YK I hg hm hv ?_ hn hdb;exact PyProof.Rows.callWith_builtin1 (thn (ha pos pj s σ H _ I h) λ us s1 ⟨vs,H1,I1,r1,q1⟩=>hc pj s1 σ H1 vs us Q I1 r1 q1) he hpl
theorem V0(hc:Z5 X (.type T) r)(hg:Gl X x)(hm:X.mg x=none)(hv:bootBuiltins x=some (.type T))(ha:PA X (e::es) t)(hn:x≠"__name__":=by decide)(hdb:(x==("__debug__":Str))=false:=by decide)
  (he:starEach (e::es) X.env=(false,eval e X.env)::starEach es X.env:=by rfl)(hpl:(backTo pos (starEach es X.env)).any (·.1)=false:=by rfl):PE X (.Call (.Name x p) (e::es) [] pos) (tCB r t):=by
 intro pj s σ H Q I h;refine wpAny_Call_Name_kw<|YK I hg hm hv ?_ hn hdb;exact PyProof.Rows.callWith_type1 (thn (ha pos pj s σ H _ I h) λ us s1 ⟨vs,H1,I1,r1,q1⟩=>hc pj s1 σ H1 vs us Q I1 r1 q1) he hpl
end
end L2
namespace HT
open PySem PyProof.Rows
section
variable {prog:Program}{w:World}{A:Around}{E:zVP}{s:Shared}
theorem Zdo{Q:zVP}(ht:IsTup s.heap t vs.toArray)(hb:IsTup s.heap b ws.toArray)(hv:vs≠[])
  (h1:ws=[]->Q (.ref t) s)(h2:ws≠[]->Q (.ref s.heap.objs.size) { s with heap:=s.heap.push { cls:=.type "tuple",data:=.seq (vs++ws).toArray } })
  (hsz:vs.length+ws.length<=sizeLine):wpAny (model prog w) A (binaryOp .Add (.ref t) (.ref b)) Q E s:=by
 obtain⟨⟨cls,dd,data,sl⟩,ho,hc,n,hd⟩:=id ht;obtain⟨⟨cls2,dd2,data2,sl2⟩,ho2,hc2,n2,hd2⟩:=id hb;simp only at hc hd hc2 hd2;subst hc hd hc2 hd2;have e:vs.toArray++ws.toArray=(vs++ws).toArray:=by simp
 by_cases hw:ws=[]
 ·exact concat_meets ⟨_,ho,rfl⟩ ⟨_,ho2,rfl⟩ noFill_tuple_add seq_tuple_add PySem.F.slot_tuple_add PySem.F.entry_tuple_add (PySem.F.args_tuple_add_2 _ _)
   (tuple_addW1 t b vs.toArray ws.toArray n n2 dd dd2 sl sl2 (by simpa using hv)<|by simp[hw]) ⟨ho,ho2,h1 hw⟩
 ·refine concat_meets ⟨_,ho,rfl⟩ ⟨_,ho2,rfl⟩ noFill_tuple_add seq_tuple_add PySem.F.slot_tuple_add PySem.F.entry_tuple_add (PySem.F.args_tuple_add_2 _ _)
   (tuple_addW2 t b vs.toArray ws.toArray n n2 dd dd2 sl sl2 (by simpa using hv) (by simpa using hw)<|by rw[size_toArray,size_toArray];exact hsz) ⟨ho,ho2,?_⟩
  rw[e];exact h2 hw
noncomputable def sIx(n d:Nat):Option Int->Nat
 |none=>d
 |some v=>if v<0 then (v+(n:Int)).toNat else min v.toNat n
theorem Zdp(n d k:Nat):sIx n d (some (k:Int))=min k n:=by
 show (if (k:Int)<0 then ((k:Int)+(n:Int)).toNat else min (k:Int).toNat n)=min k n;rw[if_neg (by omega),Int.toNat_natCast]
theorem ZeX(n d:Nat)(hd:d<=n)(o:Option Int):sIx n d o<=n:=by
 cases o with
 |none=>exact hd
 | some v=>
  show (if v<0 then (v+(n:Int)).toNat else min v.toNat n)<=n;by_cases hv:v<0
  ·rw[if_pos hv];lia
  ·rw[if_neg hv];exact Nat.min_le_right _ _
theorem zp(v:Int)(n d:Nat):(if v<0 then max (v+(n:Int)) 0 else min v (n:Int))=((sIx n d (some v):Nat):Int):=by
 show (if v<0 then max (v+(n:Int)) 0 else min v (n:Int))=(((if v<0 then (v+(n:Int)).toNat else min v.toNat n):Nat):Int);by_cases hv:v<0
 ·simp only[if_pos hv];lia
 ·simp only[if_neg hv];lia
theorem z7(lo hi:Option Int)(n:Nat):Builtin.Slice.sliceAdjust lo hi 1 (n:Int)=(((sIx n 0 lo:Nat):Int),((sIx n n hi:Nat):Int)):=by
 have h1:¬ ((1:Int)<0):=by lia
 unfold Builtin.Slice.sliceAdjust;simp only[h1,if_false];refine Prod.ext ?_ ?_
 ·cases lo with
  |none=>rfl
  |some v=>exact zp v n 0
 ·cases hi with
  |none=>rfl
  |some v=>exact zp v n n
theorem z8(i j:Nat):Builtin.Slice.slicePlaces (i:Int) (j:Int) 1=j - i:=by
 unfold Builtin.Slice.slicePlaces;have h1:(1:Int) > 0:=by lia
 simp only[h1,if_true,Int.ediv_one];split<;>lia
theorem Vc{Q:Option Int->Shared->Prop}(p:IsPart v o)(h:Q o s):wpAny (model prog w) A (Builtin.Slice.slicePartIndex v) Q E s:=by
 cases p with
 |none=>exact slicePart_none h
 |int i t=>exact slicePart_int h
theorem Jn{sl:Addr}{vl vu:Value}{lo hi:Option Int}{n:Nat}{Q:Int×Int×Nat->Shared->Prop}(hs:s.heap.IsSliceOf sl vl vu .none)(pl:IsPart vl lo)(pu:IsPart vu hi)
  (h:Q (((sIx n 0 lo:Nat):Int),1,sIx n n hi - sIx n 0 lo) s):wpAny (model prog w) A (Builtin.Slice.sliceApplied (.ref sl) (pure (n:Int))) Q E s:=by
 obtain⟨os,hos,hcs,hds⟩:=id hs;unfold Builtin.Slice.sliceApplied Builtin.Slice.sliceFields;refine oAa<|oAa<|wpAny_field hos hds (x:=vl) rfl<|oAa<|wpAny_field hos hds (x:=vu) rfl<|oAa<|wpAny_field hos hds (x:=.none) rfl<|oAb ?_;refine oAa<|slicePart_none ?_;show wpAny _ _ (if ((1:Int)==0)=true then _ else _) _ _ s;rw[if_neg (by decide)];refine oAa<|Vc pl<|oAa<|Vc pu<|oAa<|oAb ?_;show wpAny _ _ (match Builtin.Slice.sliceAdjust lo hi 1 (n:Int) with | (lo,hi)=>pure (lo,(1:Int),Builtin.Slice.slicePlaces lo hi 1)) _ _ s;rw[z7 lo hi n];show wpAny _ _ (pure (((sIx n 0 lo:Nat):Int),(1:Int),Builtin.Slice.slicePlaces ((sIx n 0 lo:Nat):Int) ((sIx n n hi:Nat):Int) 1)) _ _ s;rw[z8];exact oAb h
theorem Zb3(xs:Array Value)(i k:Nat):((List.range k).filterMap λ (m:Nat)=>xs[((i:Int)+(m:Int) * 1).toNat]?).toArray=((xs.toList.drop i).take k).toArray:=by
 have e:(λ (m:Nat)=>xs[((i:Int)+(m:Int) * 1).toNat]?)=λ m=>xs[i+m]?:=by
  funext m
  have:((i:Int)+(m:Int) * 1).toNat=i+m:=by lia
  rw[this]
 rw[e];have:=pick_run xs i k;rw[List.filterMap_map] at this;have e2:((λ x=>xs[x]?) ∘ λ x=>i+x)=λ m=>xs[i+m]?:=rfl;rw[e2] at this;rw[this]
theorem UH{t sl:Addr}{items:Array Value}{vl vu:Value}{lo hi:Option Int}{Q:zVP}(ht:IsTup s.heap t items)(hs:s.heap.IsSliceOf sl vl vu .none)(pl:IsPart vl lo)(pu:IsPart vu hi)
  (hw:¬ (sIx items.size 0 lo=0/\sIx items.size items.size hi=items.size))
  (h:Q (.ref s.heap.objs.size) { s with heap:=s.heap.push { cls:=.type "tuple",data:=.seq ((items.toList.drop (sIx items.size 0 lo)).take (sIx items.size items.size hi - sIx items.size 0 lo)).toArray } })
  (hsz:items.size<=sizeLine):wpAny (model prog w) A (getItem (.ref t) (.ref sl)) Q E s:=by
 have htake:sizeOk (.seq ((items.toList.drop<|sIx items.size 0 lo).take<|sIx items.size items.size hi - sIx items.size 0 lo).toArray):=by
  show ((items.toList.drop<|sIx items.size 0 lo).take<|sIx items.size items.size hi - sIx items.size 0 lo).toArray.size<=sizeLine;rw[size_toArray,length_take,length_drop,length_toList];omega
 have hj:sIx items.size items.size hi<=items.size:=ZeX _ _ (oAl _) hi;obtain⟨os,hos,hcs,hds⟩:=id hs;have hTs:s.TypeIs (.ref sl) "slice":=⟨os,hos,hcs⟩;unfold getItem
 try with_reducible refine wpAny_holding ?_
 first | refine oAa (oAb ?_) | skip
 refine oAa<|wpAny_sequenceKey ht.typeIs (by decide) ?_;refine oAa (wpAny_callSpecial?_slot (name:=Str.ofString "__getitem__") ht.typeIs PyProof.Rows.slot_tuple_getitem
  (wpAny_call_entry PyProof.Rows.slot_tuple_getitem ht.typeIs entry_tuple_getitem ?_<|args_tuple_getitem _ _))
 show wpAny _ _ (Builtin.Tuple.tupleItemsOf (.ref t)>>=_) _ _ s;refine oAa<|tupleItemsOf_ ht ?_;refine oAa<|wpAny_typeOf hTs ?_;rw[if_pos (by decide)];refine oAa<|Jn hs pl pu ?_;have hno:¬ ((((sIx items.size 0 lo:Nat):Int)==0&&(1:Int)==1&&(sIx items.size items.size hi - sIx items.size 0 lo)==items.size)=true):=by
  intro q;rw[and_eq_true,and_eq_true] at q;have q1:((sIx items.size 0 lo:Nat):Int)=0:=eq_of_beq q.1.1;have q2:sIx items.size items.size hi - sIx items.size 0 lo=items.size:=eq_of_beq q.2;exact hw ⟨by omega,by omega⟩
 show wpAny _ _ (if (((sIx items.size 0 lo:Nat):Int)==0&&(1:Int)==1&&(sIx items.size items.size hi - sIx items.size 0 lo)==items.size)=true then _ else _) _ _ s;rw[if_neg hno,Zb3]
 first
  |exact oAa (m:=Builtin.Tuple.tupleExact _)<|wpAny_newObj_type (oAb ⟨_,rfl,oAb h⟩) htake
  |exact oAa (m:=Builtin.Tuple.tupleExact _)<|wpAny_newObj_type (oAa<|oAb<|oAb ⟨_,rfl,oAb h⟩) htake
  |exact oAa<|oAa (m:=Builtin.Tuple.tupleExact _)<|wpAny_newObj_type (oAb<|oAb ⟨_,rfl,oAb h⟩) htake
  |exact oAa<|oAa (m:=Builtin.Tuple.tupleExact _)<|wpAny_newObj_type (oAb ⟨_,rfl,oAb h⟩) htake
end
end HT
namespace L2
open PySem PySem.Spec PyProof.Rows
abbrev TO:=St->Hp->(Option Int->Hp->Prop)->Prop
def PO(X:Cx)(e:Option Expr)(t:TO):Prop:=
 ∀ (pj:zPn) (s:Shared) (σ:St) (H:Hp) (Q:Option Int->Hp->Prop),Inv X pj σ H s->t σ H Q ->
  wpAny (model X.prog X.w) X.A (evalPart e X.env) (λ u s'=>∃ o H',Inv X pj σ H' s'/\IsPart u o/\Q o H') X.xe s
noncomputable def Zdq:TO:=λ _ H Q=>Q none H
noncomputable def Zgx(t:TE):TO:=λ σ H Q=>t σ H λ x H1=>∃ i,x=.int i/\Q (some i) H1
theorem intsAre_of{ns:List Int}:∀ {us:List Value},Vals (ns.map V.int) us->IntsAre us ns:=by
 induction ns with
 |nil=>intro us r;rw[map_nil] at r;cases r;exact .nil
 | cons n ns ih=>
  intro us r;rw[map_cons] at r;cases r with
  | cons r1 r2=>
   obtain⟨t,e⟩:=r1;subst e;exact .cons n t<|ih r2
section
variable {X:Cx}{e:Expr}{te:TE}{lo hi:Option Expr}{tl th:TO}{pos p2:Pos}
theorem Zdr:PO X none Zdq:=by
 intro pj s σ H Q I h;rw[evalPart_none];exact oAb ⟨none,H,I,.none,h⟩
theorem Zds(h:PE X e te):PO X (some e) (Zgx te):=by
 intro pj s σ H Q I hw;rw[evalPart_some];refine thn (h pj s σ H _ I hw) λ u s1 ⟨x,H1,I1,r1,q1⟩=>?_;obtain⟨i,rfl,q⟩:=q1;obtain⟨t,rfl⟩:=r1;exact⟨some i,H1,I1,.int i t,q⟩
def SlR(X:Cx)(r:V->Option Int->Option Int->Hp->VK->Prop):Prop:=
 ∀ (pj:zPn) (s:Shared) (σ:St) (H:Hp) (x:V) (v vl vu:Value) (lo hi:Option Int) (sl:Addr) (Q:VK),Inv X pj σ H s->RelV x v->s.heap.IsSliceOf sl vl vu .none->IsPart vl lo->IsPart vu hi->r x lo hi H Q ->
  ∃ T id,typeLookup (.type T) "__getitem__"=pure (some (.builtin id))/\s.TypeIs v T/\wpAny (model X.prog X.w) X.A (getItem v (.ref sl)) (EP X pj σ Q) X.xe s
noncomputable def tSl(r:V->Option Int->Option Int->Hp->VK->Prop)(te:TE)(tl th:TO):TE:=λ σ H Q=>te σ H λ x H1=>tl σ H1 λ l H2=>th σ H2 λ u H3=>r x l u H3 Q
theorem Zb4{r:V->Option Int->Option Int->Hp->VK->Prop}(hr:SlR X r)(he:PE X e te)(hl:PO X lo tl)(hu:PO X hi th):PE X (.Subscript e (.Slice lo hi none p2) pos) (tSl r te tl th):=by
 intro pj s σ H Q I h;refine Subscript_<|thn (he pj s σ H _ I h) λ v s1 ⟨x,H1,I1,r1,q1⟩=>?_;refine wpAny_Slice<|thn (hl pj s1 σ H1 _ I1 q1) λ vl s2 ⟨l,H2,I2,pl,q2⟩=>thn (hu pj s2 σ H2 _ I2 q2) λ vu s3 ⟨u,H3,I3,pu,q3⟩=>?_;rw[evalPart_none];refine oAb ?_;have I4:Inv X pj σ H3 { s3 with heap:=s3.heap.push { cls:=.type "slice",data:=.fields #[vl,vu,.none] } }:=I3.kept (t':=s3.toks) λ b ob q=>oAd _ q;obtain⟨T,id,hT,ht,hg⟩:=hr pj { s3 with heap:=s3.heap.push { cls:=.type "slice",data:=.fields #[vl,vu,.none] } } σ H3 x v vl vu l u s3.heap.objs.size Q I4 r1 (Heap.IsSliceOf.new ..) pl pu q3;show wpAny (model X.prog X.w) X.A (subscriptTail e (.Slice lo hi none p2) v<|.ref s3.heap.objs.size) (EP X pj σ Q) X.xe { s3 with heap:=s3.heap.push { cls:=.type "slice",data:=.fields #[vl,vu,.none] } };exact tail_any (ops:=[.ref s3.heap.objs.size,v]) ht hT hg (by with_unfolding_all rfl)
noncomputable def cutV(xs:List V)(lo hi:Option Int):List V:=(xs.drop (HT.sIx xs.length 0 lo)).take (HT.sIx xs.length xs.length hi - HT.sIx xs.length 0 lo)
theorem UK(xs:List V)(lo hi:Option Int):(cutV xs lo hi).length<=xs.length:=by
 unfold cutV;rw[length_take,length_drop];lia
noncomputable def rSlT(K:Frag):V->Option Int->Option Int->Hp->VK->Prop:=λ x lo hi H Q=>∃ a xs,x=.ref a/\SqT K H a xs /\
 ¬ (HT.sIx xs.length 0 lo=0/\HT.sIx xs.length xs.length hi=xs.length)/\∀ p,H p=none->Q (.ref p) (upd H p (.tup (cutV xs lo hi)))
theorem ZeY:SlR X (rSlT X.K):=by
 intro pj s σ H x v vl vu lo hi sl Q I rx hs pl pu h;obtain⟨a,xs,rfl,hx,hw,q⟩:=h;cases rx
 obtain⟨its,r,ht,hz⟩:=I.tuple hx;have hlen:its.toArray.size=xs.length:=by rw[size_toArray];exact r.length.symm
 refine⟨"tuple",_,PyProof.Rows.slot_tuple_getitem.lookup,ht.typeIs,?_⟩;refine HT.UH ht hs pl pu (by rw[hlen];exact hw) ?_ (by rw[hlen];exact hz)
 rw[hlen];refine⟨.ref s.heap.objs.size,_,I.laid (t':=s.toks) (o:=.tup<|cutV xs lo hi) (λ b ob q=>oAd _ q) (oAl _) ?_,rfl,q _<|I.hok.fresh<|oAl _⟩;exact⟨oAq (UK xs lo hi) hz,_,(r.drop<|HT.sIx xs.length 0 lo).take<|HT.sIx xs.length xs.length hi - HT.sIx xs.length 0 lo,IsTup.new _ _⟩
noncomputable def Zgy(K:Frag):R2:=λ x y H Q=>∃ a b xs ys,x=.ref a/\y=.ref b/\SqT K H a xs/\SqT K H b ys/\xs≠[]/\xs.length+ys.length<=sizeLine /\
 (ys=[]->Q (.ref a) H)/\(ys≠[]->∀ p,H p=none->Q (.ref p) (upd H p (.tup (xs++ys))))
theorem Vals.nil_iff(r:Vals xs us):us=[]↔xs=[]:=by
 cases r with
 |nil=>simp
 |cons _ _=>simp
theorem Zdt:OpR X (binaryOp .Add) (Zgy X.K):=by
 intro pj s σ H x y v u Q I rx ry h;obtain⟨a,b,xs,ys,rfl,rfl,ha,hb,hx,hz,q1,q2⟩:=h;cases rx
 cases ry
 obtain⟨its,r1,p1,_⟩:=I.tuple ha;obtain⟨its2,r2,p2,_⟩:=I.tuple hb;refine HT.Zdo p1 p2 (λ z=>hx<|r1.nil_iff.1 z) (λ z=>⟨.ref a,H,I,rfl,q1<|r2.nil_iff.1 z⟩) (λ z=>?_) (by rw[<- r1.length,<-r2.length];exact hz)
 refine⟨.ref s.heap.objs.size,_,I.laid (t':=s.toks) (o:=.tup<|xs++ys) (λ b ob q=>oAd _ q) (oAl _) ?_,rfl,q2 (λ w=>z<|r2.nil_iff.2 w) _<|I.hok.fresh<|oAl _⟩;exact⟨by rw[length_append];exact hz,_,r1.append r2,IsTup.new _ _⟩
end
noncomputable def ixN(n:Nat)(i:Int):Option Nat:=if 0<=i then (if i<n then some i.toNat else none) else if -(n:Int)<=i then some (i+n).toNat else none
noncomputable def atI{α:Type}(xs:List α)(i:Int):Option α:=(ixN xs.length i).bind λ j=>xs[j]?
theorem zq(h:ixN n i=some j):seqIndex? i n=some j/\j<n/\-(n:Int)<=i/\i<n:=by
 unfold ixN at h;by_cases h0:0<=i
 ·rw[if_pos h0] at h;by_cases h1:i<n
  ·rw[if_pos h1] at h;have e:i.toNat=j:=oAk h;exact⟨by rw[seqIndex_of h0 h1,e],by lia,by lia,h1⟩
  ·rw[if_neg h1] at h;cases h
 ·rw[if_neg h0] at h;by_cases h1:-(n:Int)<=i
  ·rw[if_pos h1] at h;have e:(i+n).toNat=j:=oAk h;exact⟨by rw[seqIndex_neg (by lia) h1,e],by lia,h1,by lia⟩
  ·rw[if_neg h1] at h;cases h
theorem VI{α:Type}{xs:List α}{i:Int}{v:α}(h:atI xs i=some v):∃ j,seqIndex? i xs.length=some j/\xs[j]?=some v/\j<xs.length/\-(xs.length:Int)<=i/\i<xs.length:=by
 unfold atI at h;cases e:ixN xs.length i with
 |none=>rw[e] at h;cases h
 | some j=>
  rw[e] at h;obtain⟨h1,h2,h3,h4⟩:=zq e;exact⟨j,h1,h,h2,h3,h4⟩
theorem YJ{α:Type}{xs:List α}{j:Nat}{v:α}(h:xs[j]?=some v):atI xs (j:Int)=some v:=by
 have hj:j<xs.length:=(List.getElem?_eq_some_iff.1 h).1;have e:ixN xs.length (j:Int)=some j:=by
  unfold ixN;rw[if_pos (by lia),if_pos (by lia)];simp
 unfold atI;rw[e];exact h
def Zdu(b:Expr):Prop:=∀ o i,subscripted b false o i=operate [o,i] (getItem o i)
def IxR(X:Cx)(r:R2):Prop:=
 ∀ (value slice:Expr) (pj:zPn) (s:Shared) (σ:St) (H:Hp) (x y:V) (v u:Value) (Q:VK),Inv X pj σ H s->RelV x v->RelV y u->r x y H Q ->
  subscripted slice false v u=operate [v,u] (getItem v u)->wpAny (model X.prog X.w) X.A (subscriptTail value slice v u) (EP X pj σ Q) X.xe s
def MtR(X:Cx)(id:String)(r:V->List V->Hp->VK->Prop):Prop:=
 ∀ (pj:zPn) (s:Shared) (σ:St) (H:Hp) (x:V) (xs:List V) (v:Value) (us:List Value) (Q:VK),Inv X pj σ H s->RelV x v->Vals xs us->r x xs H Q ->
  wpAny (model X.prog X.w) X.A (call (.builtin id) (v::us)) (EP X pj σ Q) X.xe s
section
variable {X:Cx}{a b:Expr}{ta tb:TE}{pos:Pos}
noncomputable def rIxL(K:Frag):R2:=λ x y H Q=>∃ p xs i v,x=.ref p/\y=.int i/\SqL K H p xs/\atI xs i=some v/\Q v H
noncomputable def rIxT(K:Frag):R2:=λ x y H Q=>∃ p xs i v,x=.ref p/\y=.int i/\SqT K H p xs/\atI xs i=some v/\Q v H
noncomputable def rIxS:R2:=λ x y H Q=>∃ z i c,x=.str z/\y=.int i/\z.length<=sizeLine/\atI z.cps.toList i=some c/\Q (.str ⟨#[c]⟩) H
theorem Zdv:IxR X (rIxL X.K):=by
 intro value slice pj s σ H x y v u Q I rx ry h hs;obtain⟨p,xs,i,z,rfl,rfl,hq,he,q⟩:=h;cases rx
 obtain⟨t,rfl⟩:=ry;obtain⟨its,r,pl,hz⟩:=I.list hq;obtain⟨j,h1,h2,h3,h4,h5⟩:=VI he;obtain⟨w,ew,rw'⟩:=r.get h2;have hl:=r.length;have hn:=line63;have fin:EP X pj σ Q w s:=⟨z,H,I,rw',q⟩;by_cases h0:0<=i
 ·have hj:i.toNat=j:=by
   rw[seqIndex_of h0 h5] at h1;exact oAk h1
  exact item_listR pl.isList h0 (by lia) (by rw[hj];simpa using ew) fin hs
 ·have hj:(i+(its.toArray.size:Int)).toNat=j:=by
   rw[seqIndex_neg (by lia) h4] at h1;rw[size_toArray,<-hl];exact oAk h1
  exact subscriptTail_builtinR (x:=w) pl.isList.typeIs slot_list_getitem.lookup
   (wpAny_getItem_list_neg (Q:=λ r s'=>r=w/\EP X pj σ Q r s') pl.isList (by lia) (by rw[size_toArray]<;>lia) (by lia) (by rw[hj];simpa using ew) ⟨rfl,fin⟩) hs
theorem ZeZ:IxR X (rIxT X.K):=by
 intro value slice pj s σ H x y v u Q I rx ry h hs;obtain⟨p,xs,i,z,rfl,rfl,hq,he,q⟩:=h;cases rx
 obtain⟨t,rfl⟩:=ry;obtain⟨its,r,pl,hz⟩:=I.tuple hq;obtain⟨j,h1,h2,h3,h4,h5⟩:=VI he;obtain⟨w,ew,rw'⟩:=r.get h2;have hl:=r.length;have hn:=line63;have fin:EP X pj σ Q w s:=⟨z,H,I,rw',q⟩;exact subscriptTail_builtinR (x:=w) pl.typeIs slot_tuple_getitem.lookup
  (getItem_tuple (j:=j) (Q:=λ r s'=>r=w/\EP X pj σ Q r s') pl (by lia) (by lia) (by rw[size_toArray,<-hl];exact h1) (by simpa using ew) ⟨rfl,fin⟩) hs
theorem Ze0:IxR X rIxS:=by
 intro value slice pj s σ H x y v u Q I rx ry h hs;obtain⟨z,i,c,rfl,rfl,hz,he,q⟩:=h;obtain⟨t,rfl⟩:=rx;obtain⟨t',rfl⟩:=ry;obtain⟨j,h1,h2,h3,h4,h5⟩:=VI he;have hl:z.cps.toList.length=z.length:=by simp[Str.length]
 rw[hl] at h1 h4 h5;have hn:=line63;exact tail_any (typeIs_str s z t) slot_str_getitem.lookup (getItem_str (c:=c) (by
  have e1:decide (i < -(2 ^ 63:Int))=false:=oAh (by lia);have e2:decide (i ≥ 2 ^ 63)=false:=oAh (by lia);rw[e1,e2,Bool.or_false]) (by rw[h1];simpa using h2) ⟨.str ⟨#[c]⟩,H,I.tok _,⟨_,rfl⟩,q⟩) hs
theorem z9(its:List Value)(n j:Nat)(u:Value):Obj.mapSeq (·.setIfInBounds j u) { cls:=.type "list",data:=.seq its.toArray n }={ cls:=.type "list",data:=.seq (its.set j u).toArray n }:=by
 simp[Obj.mapSeq]
theorem Inv.lst{pj:zPn}{σ:St}{H:Hp}{s:Shared}{p:Addr}{xs:List V}(I:Inv X pj σ H s)(h:H p=some (.lst xs)) :
  ∃ (its:List Value) (n:Nat),Vals xs its/\s.heap.get? p=some { cls:=.type "list",data:=.seq its.toArray n }/\xs.length<=sizeLine:=by
 obtain⟨z,its,n,r,e⟩:=I.hok p _ h;exact⟨its,n,r,e,z⟩
theorem Inv.lstUpd{pj:zPn}{σ:St}{H:Hp}{s:Shared}{p:Addr}{xs ys:List V}{its its':List Value}{n n':Nat}{f:Obj->Obj}(I:Inv X pj σ H s)(h:H p=some (.lst xs))
  (ho:s.heap.get? p=some { cls:=.type "list",data:=.seq its.toArray n })(hf:f { cls:=.type "list",data:=.seq its.toArray n }={ cls:=.type "list",data:=.seq its'.toArray n' })(r:Vals ys its')(hz:ys.length<=sizeLine)(t:Nat) :
  Inv X pj σ (upd H p (.lst ys)) { s with heap:=s.heap.update p f,toks:=t }:=by
 have e:(s.heap.update p f).get? p=some { cls:=.type "list",data:=.seq its'.toArray n' }:=by
  rw[get?_update_self f ho (by rw[hf]<;>rfl),hf]
 refine I.write (x:=p) (e:=p) (by rw[h];trivial) (.inl rfl) (λ b u hb q=>(Heap.get?_update_other _ _<|Ne.symm hb).trans q) ⟨_,e⟩ ?_
 exact⟨hz,its',n',r,e⟩
noncomputable def ZcV:V->V->V->Hp->(Hp->Prop)->Prop:=λ o i v H Q=>∃ p xs k j,o=.ref p/\i=.int k/\H p=some (.lst xs)/\ixN xs.length k=some j/\Q (upd H p (.lst (xs.set j v)))
theorem set_list:PSet X ZcV:=by
 intro pj s σ H o i v ov iv u Q I ro ri rv h;obtain⟨p,xs,k,j,rfl,rfl,hp,hj,q⟩:=h;cases ro
 obtain⟨t,rfl⟩:=ri;obtain⟨its,n,r,ho,hz⟩:=I.lst hp;obtain⟨h1,h2,h3,h4⟩:=zq hj;have hl:=r.length;have hn:=line63;have I':Inv X pj σ (upd H p<|.lst<|xs.set j v) { s with heap:=s.heap.update p (Obj.mapSeq (·.setIfInBounds j u)) }:=
  I.lstUpd hp ho (z9 its n j u) (r.set rv j) (by rw[List.length_set];exact hz) s.toks
 by_cases h0:0<=k
 ·have hk:k.toNat=j:=by
   rw[seqIndex_of h0 h4] at h1;exact oAk h1
  exact PySem.W.ki_setAt ho h0 (by lia) (by rw[size_toArray,<-hl];exact h4) (by rw[hk];exact⟨_,I',q⟩)
 ·have hk:(k+(its.toArray.size:Int)).toNat=j:=by
   rw[seqIndex_neg (by lia) h3] at h1;rw[size_toArray,<-hl];exact oAk h1
  exact PySem.W.ki_setBack ho (by lia) (by rw[size_toArray,<-hl];exact h3) (by lia) (by rw[hk];exact⟨_,I',q⟩)
theorem WS(lo hi:Option Int)(n:Nat):(sliceBounds lo hi none n).1=((HT.sIx n 0 lo:Nat):Int)/\(sliceBounds lo hi none n).2.1=((HT.sIx n n hi:Nat):Int)/\(sliceBounds lo hi none n).2.2=1:=by
 refine⟨?_,?_,rfl⟩
 ·cases lo with
  |none=>simp[sliceBounds,HT.sIx]
  | some i=>
   simp only[sliceBounds,HT.sIx,Option.getD_none,show (1:Int) > 0 by decide,if_true];by_cases h:i<0
   ·simp only[h,if_true]<;>lia
   ·simp only[h,if_false]<;>lia
 ·cases hi with
  |none=>simp[sliceBounds,HT.sIx]
  | some i=>
   simp only[sliceBounds,HT.sIx,Option.getD_none,show (1:Int) > 0 by decide,if_true];by_cases h:i<0
   ·simp only[h,if_true]<;>lia
   ·simp only[h,if_false]<;>lia
theorem Wk(its:List Value)(lo hi:Option Int):slicePick its.toArray lo hi none=((its.drop (HT.sIx its.length 0 lo)).take (HT.sIx its.length its.length hi - HT.sIx its.length 0 lo)).toArray:=by
 obtain⟨h1,h2,h3⟩:=WS lo hi its.toArray.size;unfold slicePick;rw[h1,h2,h3];simp only[sliceRange_one,pick_run,size_toArray]<;>rfl
noncomputable def rSlL(K:Frag):V->Option Int->Option Int->Hp->VK->Prop:=λ x lo hi H Q=>∃ a xs,x=.ref a/\SqL K H a xs/\∀ p,H p=none->Q (.ref p) (upd H p (.lst (cutV xs lo hi)))
theorem Zdw:SlR X (rSlL X.K):=by
 intro pj s σ H x v vl vu lo hi sl Q I rx hs pl pu h;obtain⟨a,xs,rfl,hx,q⟩:=h;cases rx
 obtain⟨its,r,ht,hz⟩:=I.list hx;have hlen:=r.length;refine⟨"list",_,slot_list_getitem.lookup,ht.isList.typeIs,?_⟩;refine wpAny_getItem_list_slice ht.isList hs pl pu .none (by simp) ?_ (by rw[size_toArray]<;>lia)
 rw[Wk,<-hlen];refine⟨.ref s.heap.objs.size,_,I.laid (t':=s.toks) (o:=.lst<|cutV xs lo hi) (λ b ob q=>oAd _ q) (oAl _) ?_,rfl,q _<|I.hok.fresh<|oAl _⟩;exact⟨oAq (UK xs lo hi) hz,_,0,(r.drop<|HT.sIx xs.length 0 lo).take<|HT.sIx xs.length xs.length hi - HT.sIx xs.length 0 lo,oAe _ rfl⟩
noncomputable def YM:V->Bool
 |.non=>true
 |.bl _=>true
 |.int _=>true
 |.str _=>true
 |_=>false
noncomputable def eqV:V->V->Bool
 |.non,.non=>true
 |.bl a,.bl b=>a==b
 |.bl a,.int b=>(if a then 1 else 0)==b
 |.int a,.bl b=>a==(if b then 1 else 0)
 |.int a,.int b=>a==b
 |.str a,.str b=>a==b
 |_,_=>false
theorem Ze1(ry:RelV y u)(rx:RelV x v)(fy:YM y=true)(fx:YM x=true):SeqAt.EqAt A s u v (eqV y x):=by
 cases y with
 | non=>
  cases ry
  cases x with
  |non=>cases rx;exact SeqAt.EqAt.same _
  |bl b=>cases rx;exact SeqAt.EqAt.none_bool b
  |int b=>obtain⟨t,rfl⟩:=rx;exact SeqAt.EqAt.none_int b t
  |str b=>obtain⟨t,rfl⟩:=rx;exact SeqAt.EqAt.none_str b t
  |_=>exact absurd (show false=true from fx) oAg
 | bl a=>
  cases ry
  cases x with
  |non=>cases rx;exact SeqAt.EqAt.bool_none a
  |bl b=>cases rx;exact SeqAt.EqAt.bool_bool a b
  |int b=>obtain⟨t,rfl⟩:=rx;exact SeqAt.EqAt.bool_int a b t
  |str b=>obtain⟨t,rfl⟩:=rx;exact SeqAt.EqAt.bool_str a b t
  |_=>exact absurd (show false=true from fx) oAg
 | int a=>
  obtain⟨t',rfl⟩:=ry;cases x with
  |non=>cases rx;exact SeqAt.EqAt.int_none a t'
  |bl b=>cases rx;exact SeqAt.EqAt.int_bool a t' b
  |int b=>obtain⟨t,rfl⟩:=rx;exact SeqAt.EqAt.int_int a t' b t
  |str b=>obtain⟨t,rfl⟩:=rx;exact SeqAt.EqAt.int_str a t' b t
  |_=>exact absurd (show false=true from fx) oAg
 | str a=>
  obtain⟨t',rfl⟩:=ry;cases x with
  |non=>cases rx;exact SeqAt.EqAt.str_none a t'
  |bl b=>cases rx;exact SeqAt.EqAt.str_bool a t' b
  |int b=>obtain⟨t,rfl⟩:=rx;exact SeqAt.EqAt.str_int a t' b t
  |str b=>obtain⟨t,rfl⟩:=rx;exact SeqAt.EqAt.str_str a t' b t
  |_=>exact absurd (show false=true from fx) oAg
 |_=>exact absurd (show false=true from fy) oAg
noncomputable def eqU(x:V)(u:Value):Bool:=match u with
 |.none=>eqV .non x
 |.bool b=>eqV (.bl b) x
 |.int i _=>eqV (.int i) x
 |.str z _=>eqV (.str z) x
 |_=>false
theorem ZaQ(r:RelV y u)(f:YM y=true):eqU x u=eqV y x:=by
 cases y with
 |non=>cases r;rfl
 |bl b=>cases r;rfl
 |int i=>obtain⟨t,rfl⟩:=r;rfl
 |str z=>obtain⟨t,rfl⟩:=r;rfl
 |_=>exact absurd (show false=true from f) oAg
theorem JI{x:V}:∀ {xs:List V}{us:List Value},Vals xs us->xs.all YM=true->us.any (eqU x)=xs.any λ y=>eqV y x
 |_,_,.nil,_=>rfl
 | y::xs,u::us,.cons r t,f=>by
  rw[all_cons,and_eq_true] at f;rw[any_cons,any_cons,ZaQ r f.1,JI t f.2]
theorem Jo{A:Around}{s:Shared}{x:V}{v:Value}(rx:RelV x v)(fx:YM x=true):∀ {xs:List V}{us:List Value},Vals xs us->xs.all YM=true->∀ u∈us,SeqAt.EqAt A s u v (eqU x u)
 |_,_,.nil,_=>λ u hu=>by cases hu
 | y::xs,u::us,.cons r t,f=>λ u' hu=>by
  rw[all_cons,and_eq_true] at f
  rcases List.mem_cons.1 hu with rfl | hu
  ·rw[ZaQ r f.1];exact Ze1 r rx f.1 fx
  ·exact Jo rx fx t f.2 u' hu
noncomputable def inV(x:V)(xs:List V):Bool:=xs.any λ y=>eqV y x
noncomputable def rIn(K:Frag)(neg:Bool):R2:=λ x y H Q=>∃ p xs,y=.ref p/\(SqL K H p xs\/SqT K H p xs)/\YM x=true/\xs.all YM=true/\Q (.bl (if neg then !inV x xs else inV x xs)) H
theorem ZaR:OpR X (compareOp .In) (rIn X.K false):=by
 intro pj s σ H x y v u Q I rx ry h;obtain⟨p,xs,rfl,hq,fx,fs,q⟩:=h;cases ry
 rcases hq with hq | hq
 ·obtain⟨its,r,pl,hz⟩:=I.list hq;refine SeqAt.in_listAt (eqU x) pl.isList (λ w hw=>Jo rx fx r fs w<|by simpa using hw) ⟨.bl _,H,I,rfl,?_⟩;rw[show its.toArray.any (eqU x)=its.any (eqU x) by simp,JI r fs];exact q
 ·obtain⟨its,r,pl,hz⟩:=I.tuple hq;refine SeqAt.in_tupleAt (eqU x) pl (λ w hw=>Jo rx fx r fs w<|by simpa using hw) ⟨.bl _,H,I,rfl,?_⟩;rw[show its.toArray.any (eqU x)=its.any (eqU x) by simp,JI r fs];exact q
theorem WT:OpR X (compareOp .NotIn) (rIn X.K true):=by
 intro pj s σ H x y v u Q I rx ry h;obtain⟨p,xs,rfl,hq,fx,fs,q⟩:=h;cases ry
 rcases hq with hq | hq
 ·obtain⟨its,r,pl,hz⟩:=I.list hq;refine SeqAt.notIn_listAt (eqU x) pl.isList (λ w hw=>Jo rx fx r fs w<|by simpa using hw) ⟨.bl _,H,I,rfl,?_⟩;rw[show its.toArray.any (eqU x)=its.any (eqU x) by simp,JI r fs];exact q
 ·obtain⟨its,r,pl,hz⟩:=I.tuple hq;refine SeqAt.notIn_tupleAt (eqU x) pl (λ w hw=>Jo rx fx r fs w<|by simpa using hw) ⟨.bl _,H,I,rfl,?_⟩;rw[show its.toArray.any (eqU x)=its.any (eqU x) by simp,JI r fs];exact q
theorem WU:Z5 X (.builtin "len") (λ xs H Q=>∃ p ys,xs=[.ref p]/\(SqL X.K H p ys\/SqT X.K H p ys)/\Q (.int ys.length) H):=by
 intro pj s σ H xs us Q I r h;obtain⟨p,ys,rfl,hq,q⟩:=h;obtain⟨u,rfl,rx⟩:=vals1 r;cases rx
 have hn:=line63
 rcases hq with hq | hq
 ·obtain⟨its,r',pl,hz⟩:=I.list hq;have hlen:=r'.length;exact Calls.call_len_list pl.isList (by simp only[size_toArray]<;>lia) ⟨.int ys.length,H,I.tok _,⟨s.toks+1,by rw[size_toArray,hlen]⟩,q⟩
 ·obtain⟨its,r',pl,hz⟩:=I.tuple hq;have hlen:=r'.length;exact len_tuple pl (by simp only[size_toArray]<;>lia) ⟨.int ys.length,H,I.tok _,⟨s.toks+1,by rw[size_toArray,hlen]⟩,q⟩
theorem WV:Z5 X (.builtin "len") (λ xs H Q=>∃ z,xs=[.str z]/\z.length<=sizeLine/\Q (.int z.length) H):=by
 intro pj s σ H xs us Q I r h;obtain⟨z,rfl,hz,q⟩:=h;obtain⟨u,rfl,t,rfl⟩:=vals1 r;have hn:=line63;exact len_str (by lia) ⟨.int z.length,H,I.tok _,⟨_,rfl⟩,q⟩
theorem WW:Z5 X (.type "list") (λ xs H Q=>∃ p ys,xs=[.ref p]/\(SqL X.K H p ys\/SqT X.K H p ys)/\∀ l,H l=none->Q (.ref l) (upd H l (.lst ys))):=by
 intro pj s σ H xs us Q I r h;obtain⟨p,ys,rfl,hq,q⟩:=h;obtain⟨u,rfl,rx⟩:=vals1 r;cases rx
 have fin:∀ (its:List Value),Vals ys its->ys.length<=sizeLine->∀ (h':Heap) (c':Nat),(∀ b o',s.heap.get? b=some o'->h'.get? b=some o') ->
   h'.get? s.heap.objs.size=some { cls:=.type "list",dict:=none,data:=.seq its.toArray c',slots:=#[] }->EP X pj σ Q (.ref s.heap.objs.size) { s with heap:=h' }:=λ its r' hz h' c' kp e=>
  ⟨.ref s.heap.objs.size,_,I.laid (t':=s.toks) kp (oAl _) (show Zr X.prog X.w _ h' _ (.lst ys) from ⟨hz,its,c',r',e⟩),rfl,q _<|I.hok.fresh<|oAl _⟩
 rcases hq with hq | hq
 ·obtain⟨its,r',pl,hz⟩:=I.list hq;have hlen:=r'.length;obtain⟨o,ho,hc,n,hd⟩:=pl.isList;exact call_list_seq p (.inl rfl) ho hc hd (λ h' c' kp e=>fin its r' hz h' c' kp e) (by simp only[size_toArray]<;>lia)
 ·obtain⟨its,r',pl,hz⟩:=I.tuple hq;have hlen:=r'.length;obtain⟨o,ho,hc,n,hd⟩:=pl;exact call_list_seq p (.inr rfl) ho hc hd (λ h' c' kp e=>fin its r' hz h' c' kp e) (by simp only[size_toArray]<;>lia)
theorem J8:Z5 X (.type "tuple") (λ xs H Q=>∃ p ys,xs=[.ref p]/\((SqL X.K H p ys/\∀ l,H l=none->Q (.ref l) (upd H l (.tup ys)))\/(SqT X.K H p ys/\Q (.ref p) H))):=by
 intro pj s σ H xs us Q I r h;obtain⟨p,ys,rfl,h⟩:=h;obtain⟨u,rfl,rx⟩:=vals1 r;cases rx
 rcases h with ⟨hq,q⟩ | ⟨hq,q⟩
 ·obtain⟨its,r',pl,hz⟩:=I.list hq;have hlen:=r'.length;refine call_tuple_list pl.isList (λ h' kp=>?_) (by simp only[size_toArray]<;>lia)
  have I1:Inv X pj σ H { s with heap:=h' }:=I.kept (t':=s.toks) kp;have I2:Inv X pj σ (upd H h'.objs.size<|.tup ys) { s with heap:=h'.push { cls:=.type "tuple",data:=.seq its.toArray } }:=
   I1.laid (t':=s.toks) (λ b o e=>oAd _ e) (oAl _) (show Zr X.prog X.w _ _ _ (.tup ys) from ⟨hz,its,r',IsTup.new _ _⟩)
  exact⟨.ref h'.objs.size,_,I2,rfl,q _<|I1.hok.fresh<|oAl _⟩
 ·obtain⟨its,r',pl,hz⟩:=I.tuple hq;exact call_tuple_same pl ⟨.ref p,H,I,rfl,q⟩
def tyV(K:Frag)(T:String)(x:V)(H:Hp):Prop:=match x with
 |.str _=>T="str"
 |.int _=>T="int"
 | .ref p=>(T="list"/\∃ xs,SqL K H p xs)\/(T="tuple"/\∃ o,K.lookup p=some o/\o.cls=.type "tuple"/\o.dict=none) \/
   (T="dict"/\((∃ kvs,H p=some (.dK kvs))\/∃ kvs,H p=some (.dT kvs)))\/(T="set"/\∃ S n,H p=some (.set S n))
 |_=>False
theorem Ze2(I:Inv X pj σ H s)(r:RelV x v)(ty:tyV X.K T x H) :
  s.TypeIs v T/\∀ a,v=.ref a->∃ ob,s.heap.get? a=some ob/\ob.dict=none:=by
 cases x with
 | str z=>
  obtain⟨t,rfl⟩:=r;cases (show T="str" from ty)
  exact⟨typeIs_str s z t,λ _ e=>nomatch e⟩
 | int i=>
  obtain⟨t,rfl⟩:=r;cases (show T="int" from ty)
  exact⟨typeIs_int s i t,λ _ e=>nomatch e⟩
 | ref p=>
  cases r
  rcases ty with ⟨rfl,xs,hq⟩ | ⟨rfl,o,hk,hc,hd⟩ | ⟨rfl,hk⟩ | ⟨rfl,S,n,hk⟩
  ·obtain⟨its,_,pl,_⟩:=I.list hq;refine⟨pl.isList.typeIs,λ a e=>?_⟩;cases e
   obtain⟨o,n,e,c,hd,_⟩:=pl;exact⟨o,e,hd⟩
  ·refine⟨⟨o,I.kIn p o hk,hc⟩,λ a e=>?_⟩;cases e
   exact⟨o,I.kIn _ o hk,hd⟩
  ·have z:∃ o,s.heap.get? p=some o/\o.ExactDict:=by
    rcases hk with ⟨kvs,hk⟩ | ⟨kvs,hk⟩
    ·obtain⟨_,_,_,_,o,_,_,e,ex,_⟩:=I.hok p _ hk;exact⟨o,e,ex⟩
    ·obtain⟨_,_,_,_,o,_,_,e,ex,_⟩:=I.hok p _ hk;exact⟨o,e,ex⟩
   obtain⟨o,e,ex⟩:=z;refine⟨⟨o,e,ex.1⟩,λ a e2=>?_⟩;cases e2
   exact⟨o,e,ex.2.1⟩
  ·obtain⟨o,_,_,_,e,ex,_⟩:=I.hok p _ hk;refine⟨⟨o,e,ex.1⟩,λ a e2=>?_⟩;cases e2
   exact⟨o,e,ex.2.1⟩
 |_=>exact False.elim ty
noncomputable def tBM(K:Frag)(T:String)(r:V->List V->Hp->VK->Prop)(to:TE)(t:TA):TE:=λ σ H Q=>to σ H λ x H1=>tyV K T x H1/\t σ H1 λ xs H2=>r x xs H2 Q
variable {o e:Expr}{es:List Expr}{to:TE}{t:TA}{name:Str}{apos cpos:Pos}{T id:String}{r:V->List V->Hp->VK->Prop}
theorem Zgz(pa:PlainAttrs T)(slot:Slot T name id)(hty:typeOf (.builtin id)=pure (.type "method_descriptor"))(hm:MtR X id r)(ho:PE X o to)(ha:PA X (e::es) t)
    (hbase:attributeBase o name X.env (eval o X.env)=eval o X.env:=by rfl)
    (hfew:((backTo cpos (starEach (e::es) X.env)).all (λ x=>!x.1)&&(backToKw cpos (keywordEach [] X.env)).all (λ x=>x.1.isSome)
     &&decide ((e::es).length+([]:List Keyword).length+(if ([]:List Keyword).isEmpty then 0 else 1)<30))=true:=by rfl)
    (hline:(apos.endLine==cpos.line)=true:=by rfl)(hs:starEach (e::es) X.env=(false,eval e X.env)::starEach es X.env:=by rfl)(hplain:(backTo cpos (starEach es X.env)).any (·.1)=false:=by rfl) :
    PE X (.Call (.Attribute o name apos) (e::es) [] cpos) (tBM X.K T r to t):=by
  intro pj s σ H Q I h;refine wpAny_Call_method_late hbase hfew hline rfl<|thn (ho pj s σ H _ I h) λ v s1 ⟨x,H1,I1,r1,ty,q1⟩=>?_;obtain⟨h1,h2⟩:=Ze2 I1 r1 ty;refine⟨T,id,pa,slot,hty,h1,h2,?_⟩;have hA:=ha cpos pj s1 σ H1 _ I1 q1;rw[hs] at hA ⊢;refine Calls.callWith_builtin (by show (false||(backTo cpos<|starEach es X.env).any (·.1))=false;rw[hplain]<;>rfl)<|Calls.evalArgs_plain ?_
  exact thn hA λ us s2 ⟨vs,H2,I2,r2,q2⟩=>hm pj s2 σ H2 x vs v us Q I2 r1 r2 q2
end
theorem Vals.rep(h:Vals xs us):∀ k:Nat,Vals (List.replicate k xs).flatten (List.replicate k us).flatten
 |0=>.nil
 | k+1=>by
  rw[replicate_succ,replicate_succ,flatten_cons,flatten_cons];exact Vals.append h<|Vals.rep h k
section
variable {X:Cx}{pj:zPn}{σ:St}{H:Hp}{s:Shared}{l b:Addr}{xs ys zs:List V}
theorem Inv.lnew(I:Inv X pj σ H s)(hv:Vals ys its)(hz:ys.length<=sizeLine) :
  Inv X pj σ (upd H s.heap.objs.size (.lst ys)) { s with heap:=s.heap.push { cls:=.type "list",data:=.seq its.toArray },toks:=t' }:=
 I.laid (λ _ _ q=>oAd _ q) (oAl _) ⟨hz,its,0,hv,oAe _ rfl⟩
theorem Inv.fresh(I:Inv X pj σ H s):H s.heap.objs.size=none:=I.hok.fresh<|oAl _
end
section
variable {X:Cx}
theorem len_rep{α:Type}(xs:List α)(k:Nat):(List.replicate k xs).flatten.length=k * xs.length:=by
 induction k with
 |zero=>simp
 |succ k ih=>rw[replicate_succ,flatten_cons,length_append,ih,Nat.succ_mul,Nat.add_comm]
end
end L2
namespace Att
open PySem PySem.W PySem.Calls PyProof.Rows
theorem Vd:∀ (ns:List Int) (vs:List Value),WellAll P h vs (ns.map WData.int)->IntsAre vs ns:=by
 intro ns
 induction ns with
 | nil=>
  intro vs w;rw[map_nil] at w;cases w
  exact .nil
 | cons n ns ih=>
  intro vs w;rw[map_cons] at w;cases w with
  | cons a b=>
   cases a
   exact .cons _ _<|ih _ b
theorem ZaS{l:OpenLaw}{n:Nat}(hn:l.most=some n){P:Params}{h:Heap}{args:List WData}{vals:List Value}
  (hpre:l.row.toRowW.claim.pre args=true)(hwl:WellAll P h vals args) :
  ∃ a vs ns,vals=[Value.ref a]/\args=[WData.list (ns.map WData.int)]/\h.get? a=some { cls:=.type "list",data:=.seq vs.toArray }/\IntsAre vs ns/\ns.length<=n:=by
 have hsh:WShape.hasAll [] args [.list .int]=true:=(pre_splitW hpre).1;have hc:l.pre.holds [] { args:=args }=true:=(pre_splitW hpre).2;obtain⟨d,r,rfl,h1,h2⟩:=hasAllW_cons hsh;obtain rfl:=hasAllW_nil h2;obtain⟨xs,rfl,h3⟩:=hasW_list h1;obtain⟨ns,rfl⟩:=items_int h3;have hlen:ns.length<=n:=by
  unfold OpenLaw.pre at hc;have h4:(WTm.not<|.lt (.lit<|.int (n:Int))<|.len<|.arg 0).holds [] { args:=[.list<|ns.map .int] }=true:=by
   have h4:=(holds_andW hc).1;rw[hn] at h4;exact h4
  have h5:=condW_of h4<|w_not<|w_lt w_lit<|w_len_list<|w_arg rfl;rw[length_map] at h5;refine Nat.le_of_not_lt λ q=>?_;have q':(n:Int)<((ns.length:Nat):Int):=by omega
  first
   |(rw[oAi q'] at h5;exact absurd h5<|by decide)
   |(simp at h5;omega)
 cases hwl with
 | cons w1 w2=>
  cases w2
  cases w1 with
  |list ho hall=>exact⟨_,_,ns,rfl,rfl,ho,Vd ns _ hall,hlen⟩
theorem ZaT(l:OpenLaw)(args:List WData):l.row.toRowW.claim.post args (.bool true) args=true:=
 postW_of (r:=l.row.toRowW) (X:=(true==true))
  (show WShape.has [] (.bool true) .bool=true by first | rfl | decide | simp[WShape.has,WShape.arms,WShape.armsAll])
  (show (WTm.eq .res<|.lit<|.bool true).value [] { args:=args,res:=some<|.bool true,after:=args }=some (.bool<|true==true) from w_eq_bool (w_res rfl) w_lit) rfl
theorem qV{l:OpenLaw}{n:Nat}{q:Program}{loose:List Str}{XP:(Str->Option Value)->Heap->Prop}{YP:World->Heap->Prop}{d:DefRec}
  (hn:l.most=some n)(hdf:d.params.defaults=[])
  (call:∀ (w:World) (s₀ s₁:Shared) (mg mb:Str->Option Value) (fa:Addr) (o:Obj) (pm cd doc:Value) (a:Addr) (vs:List Value) (ns:List Int),
   Ground q loose [] XP w s₀ mg mb s₁.heap->YP w s₁.heap ->
   s₁.heap.get? fa=some o->o.data=.func (docDef d.name d.params d.body d.scope pm cd doc)->s₁.heap.CodeRec cd d.name->mg d.name=some (.ref fa) ->
   s₁.heap.get? a=some { cls:=.type "list",data:=.seq vs.toArray }->IntsAre vs ns->ns.length<=n->s₁.gens=#[] ->
   codeAny (model l.prog w) callerA (.call (.ref fa) ⟨[.ref a],[]⟩) (λ r s'=>r=.ok (.ret (.bool true))/\OldK s₁.heap s'.heap/\s'.os=s₁.os/\AllBare s'.gens) s₁) :
  WalkO q loose XP YP l.row.toRowW d [] (λ f vs=>PySem.call f vs):=by
 intro w s₀ s₁ mg mb G Y fa o pm cd doc dV kV ho hd hcd hD hmg hg args vals as hpre hlay hrd hwl hlo;obtain rfl:dV=.none:=Dflts.none hD hdf;obtain rfl:kV=.none:=Dflts.noKw hD;obtain⟨a,vs,ns,rfl,rfl,hobj,hints,hlen⟩:=ZaS hn hpre hwl;refine enter_call<|codeAny_mono (call w s₀ s₁ mg mb fa o pm cd doc a vs ns G Y ho (fd_plain hd) hcd hmg hobj hints hlen hg) λ r s' hq=>?_;obtain⟨rfl,h2,h3,h4⟩:=hq;exact⟨.inl ⟨.bool true,.bool true,[],rfl,λ _=>rfl,.bool true,ZaT l _,λ _=>⟨List.Pairwise.nil,λ _ hm=>(nomatch hm)⟩⟩,h2,h3,h4⟩
end Att
namespace L2
open PySem PySem.Spec PyProof.Rows
theorem Ud:∀ {vs:List Value}{ns:List Int},IntsAre vs ns->Vals (ns.map V.int) vs
 |_,_,.nil=>.nil
 |_,_,.cons n t h=>.cons ⟨t,rfl⟩<|Ud h
def Only(H:Hp):Prop:=∀ b,H b=none\/∃ o xs,H b=some (.frz o (.lst xs))
theorem Zb5{P:Program}{w:World}{K:Frag}{mg mb:Str->Option Value}{CX:CXT}{k:Nat}{fa a:Addr}{fd:FuncData}{x:Str}{sp:Sp}{s₁:Shared}{vs:List Value}{ns:List Int}
  (KX:K.In s₁.heap)(hns:s₁.heap.Ns mainGlobals mg)(hb:s₁.heap.Ns builtinsNs mb)(hbb:∀ x:Str,x≠"__name__"->mb x=bootBuiltins x)(hlim:s₁.heap.NoLimit)(hg:s₁.gens=#[])
  (ha:s₁.heap.get? a=some { cls:=.type "list",data:=.seq vs.toArray })(hi:IntsAre vs ns)(hl:ns.length<=sizeLine)(hr:Room k callerA)
  (F:∀ base:Heap,K.In base->base.Ns mainGlobals mg->FnOk P w K mg base CX k fa fd [x] sp)(hbind:∀ (s:Shared) (u:Value),BindsTo s fd ⟨[u],[]⟩ [(x,u)])
  (hsp:∀ H:Hp,Only H->SqL K H a (ns.map V.int)->sp [.ref a] H (λ v _=>v=.bl true) λ _ _ _=>False)
  (hCX:∀ H e s',CX [] H s₁ (λ _ _ _=>False) e s'->False) :
  codeAny (model P w) callerA (.call (.ref fa) ⟨[.ref a],[]⟩) (λ r s'=>r=.ok (.ret (.bool true))/\OldK s₁.heap s'.heap/\s'.os=s₁.os/\AllBare s'.gens) s₁:=by
 have rv:=Ud hi;have lenV:=hi.length;have core:∀ H:Hp,Only H->SqL K H a (ns.map V.int)->HOk P w H s₁.heap->(∀ b,H b≠none->b=a)->(H a≠none->K.lookup a=none) ->
   codeAny (model P w) callerA (.call (.ref fa) ⟨[.ref a],[]⟩) (λ r s'=>r=.ok (.ret<|.bool true)/\OldK s₁.heap s'.heap/\s'.os=s₁.os/\AllBare s'.gens) s₁:=by
  intro H hO hS hok hA hK;have base_of:∀ {b:Addr}{o:Obj},s₁.heap.get? b=some o->H b=none->(hidT s₁.heap H).get? b=some o:=λ e n=>ZbX e n;have noA:∀ {b:Addr}{o:Obj}{es:Array DictEntry}{ep:Nat},s₁.heap.get? b=some o->o.data=.dict es ep->H b=none:=λ {b o es ep} e d=>by
   cases q:H b with
   |none=>rfl
   | some u=>
    have e':b=a:=hA b (by rw[q];simp)
    subst e';rw[ha] at e;cases e
    have d':Data.seq vs.toArray _=Data.dict es ep:=d;cases d'
  have nsK:∀ {b:Addr}{m:Str->Option Value},s₁.heap.Ns b m->(hidT s₁.heap H).Ns b m:=λ {b m} ⟨o,es,ep,e,d,r⟩=>⟨o,es,ep,base_of e<|noA e d,d,r⟩;have hKb:K.In (hidT s₁.heap H):=λ b o e=>base_of (KX b o e) (by
   cases q:H b with
   |none=>rfl
   | some u=>
    have e':b=a:=hA b (by rw[q];simp)
    subst e';rw[hK (by rw[q];simp)] at e;cases e)
  have hM:Mod K mg (hidT s₁.heap H):=⟨hKb,nsK hns,⟨mb,nsK hb,hbb⟩,let ⟨mc,h1,h2⟩:=hlim;⟨mc,nsK h1,h2⟩⟩
  have e0:Env0 P w K mg (hidT s₁.heap H) callerA [] s₁ H:=⟨rfl,hM,λ b o e=>Zdh e,le_of_eq<|ZaB _ _,trivial,λ b hb=>absurd (show b∈([]:List Addr) from hb) (by simp),hok,.of_eq hg⟩;refine codeAny_mono ((F _ hKb<|nsK hns).run callerA [] s₁ H ⟨[.ref a],[]⟩ [.ref a] [.ref a] _ _ hr e0 (hbind s₁<|.ref a) (.cons rfl .nil) (hsp H hO hS)) λ r s' h=>?_;cases r with
  |error e=>exact(hCX H e s' h).elim
  | ok fl=>
   cases fl with
   |next=>exact False.elim h
   |brk=>exact False.elim h
   |cont=>exact False.elim h
   | ret u=>
    obtain⟨v,H',os,bare,un,hok',r',q⟩:=h;have q':v=.bl true:=q;subst q';obtain rfl:u=Value.bool true:=r';refine⟨rfl,OldK.of_keep λ b o e=>?_,os,bare⟩;cases q:H b with
    |none=>exact un.keep b o e q (by intro z;exact absurd (show b∈([]:List Addr) from z)<|by simp) (by simp)
    | some u=>
     rcases hO b with z | ⟨ob,xs,z⟩
     ·rw[q] at z;cases z
     ·have z2:=un.frzs b ob _ z;obtain⟨e1,_⟩:=hok b _ z;obtain⟨e2,_⟩:=hok' b _ z2;rw[e] at e1;cases e1
      exact e2
 cases hk:K.lookup a with
 | some o=>
  have e:=KX a o hk;rw[ha] at e;cases e
  refine core (λ _=>none) (λ _=>.inl rfl) (.inr ⟨_,vs.toArray,_,hk,rfl,rfl,rfl,by rw[size_toArray,lenV];exact hl,by simpa using rv⟩) (λ b u z=>by have z':(none:Option HO)=some u:=z;cases z') (λ b z=>absurd rfl z) λ z=>absurd rfl z
 | none=>
  refine core (λ b=>if b=a then some (.frz { cls:=.type "list",data:=.seq vs.toArray } (.lst<|ns.map V.int)) else none) (λ b=>?_) (.inl<|.inr ⟨{ cls:=.type "list",data:=.seq vs.toArray },if_pos rfl⟩) (λ b u z=>?_) (λ b z=>?_) λ _=>hk
  ·by_cases hb:b=a
   ·exact .inr ⟨_,_,if_pos hb⟩
   ·exact .inl<|if_neg hb
  ·by_cases hb:b=a
   ·have z':=(if_pos hb).symm.trans z;cases z'
    subst hb;exact⟨ha,by rw[length_map];exact hl,vs,_,rv,ha⟩
   ·have z':=(if_neg hb).symm.trans z;cases z'
  ·by_cases hb:b=a
   ·exact hb
   ·exact absurd (if_neg hb) z
noncomputable abbrev KOf{K:Frag}{h:Heap}(_:K.In h):Frag:=K
theorem Zdx{l:PySem.W.OpenLaw}{n k:Nat}{q:Program}{loose:List Str}{XP:(Str->Option Value)->Heap->Prop}{YP:World->Heap->Prop}{d:DefRec}{K:Params->Frag}{CX:World->CXT}{sp:World->Sp}{x:Str}
  (hn:l.most=some n)(hn2:n<=sizeLine)(hdf:d.params.defaults=[])(hr:Room k callerA)
  (hY:∀ (w:World) (h:Heap),YP w h->(K w.params).In h)
  (F:∀ (w:World) (mg:Str->Option Value) (fa:Addr) (h:Heap),(K w.params).In h->h.Ns mainGlobals mg->mg d.name=some (.ref fa) ->
   ∃ fd:FuncData,(∀ (s:Shared) (u:Value),BindsTo s fd ⟨[u],[]⟩ [(x,u)]) /\
    ∀ base:Heap,(K w.params).In base->base.Ns mainGlobals mg->FnOk l.prog w (K w.params) mg base (CX w) k fa fd [x] (sp w))
  (hsp:∀ (w:World) (H:Hp) (a:Addr) (ns:List Int),ns.length<=n->Only H->SqL (K w.params) H a (ns.map V.int)->sp w [.ref a] H (λ v _=>v=.bl true) λ _ _ _=>False)
  (hCX:∀ (w:World) (H:Hp) (s:Shared) (e:Value) (s':Shared),CX w [] H s (λ _ _ _=>False) e s'->False) :
  PySem.W.WalkO q loose XP YP l.row.toRowW d [] (λ f vs=>PySem.call f vs):=by
 refine Att.qV hn hdf λ w s₀ s₁ mg mb fa o pm cd doc a vs ns G Y ho hd hcd hmg hobj hints hlen hg=>?_;have KX:=hY w _ Y;obtain⟨fd,hb,hF⟩:=F w mg fa _ KX G.T.g hmg;exact Zb5 KX G.T.g G.T.b G.T.builtins G.T.nolimit hg hobj hints (oAq hlen hn2) hr hF hb (λ H hO hS=>hsp w H a ns hlen hO hS) λ H e s'=>hCX w H s₁ e s'
theorem Zb6{l:PySem.W.OpenLaw}{n k:Nat}{q:Program}{loose:List Str}{XP:(Str->Option Value)->Heap->Prop}{YP:World->Heap->Prop}{d:DefRec}{K:Params->Frag}{CX:CXT}{sp:Frag->Sp}{x:Str}
  (hn:l.most=some n)(hn2:n<=sizeLine)(hdf:d.params.defaults=[])(hr:Room k callerA)
  (hY:∀ (w:World) (h:Heap),YP w h->(K w.params).In h)
  (F:∀ (w:World) (mg:Str->Option Value) (fa:Addr) (h:Heap),(K w.params).In h->h.Ns mainGlobals mg->mg d.name=some (.ref fa) ->
   ∃ fd:FuncData,(∀ (s:Shared) (u:Value),BindsTo s fd ⟨[u],[]⟩ [(x,u)]) /\
    ∀ base:Heap,(K w.params).In base->base.Ns mainGlobals mg->FnOk l.prog w (K w.params) mg base CX k fa fd [x] (sp (K w.params)))
  (hsp:∀ (K:Frag) (H:Hp) (a:Addr) (ns:List Int),ns.length<=n->Only H->SqL K H a (ns.map V.int)->sp K [.ref a] H (λ v _=>v=.bl true) λ _ _ _=>False)
  (hCX:∀ (H:Hp) (s:Shared) (e:Value) (s':Shared),CX [] H s (λ _ _ _=>False) e s'->False) :
  PySem.W.WalkO q loose XP YP l.row.toRowW d [] (λ f vs=>PySem.call f vs):=
 Zdx (K:=K) (CX:=λ _=>CX) (sp:=λ w=>sp<|K w.params) hn hn2 hdf hr hY F (λ w H a ns h1 h2 h3=>hsp (K w.params) H a ns h1 h2 h3) λ _ H s e s'=>hCX H s e s'
noncomputable def Yj(s:Stmt):Arguments:=match s with
 |.FunctionDef _ a _ _ _ _ _ _ _ _=>a
 |_=>{ posonlyargs:=[],args:=[],vararg:=none,kwonlyargs:=[],kw_defaults:=[],kwarg:=none,defaults:=[] }
noncomputable def ZE(s:Stmt):List Stmt:=match s with
 |.FunctionDef _ _ b _ _ _ _ _ _ _=>b
 |_=>[]
noncomputable def Zi(s:Stmt):Scope:=match s with
 |.FunctionDef _ _ _ _ _ _ sc _ _ _=>sc
 |_=>{ kind:=.function,names:=[],isGenerator:=false,isCoroutine:=false }
noncomputable abbrev CX0:CXT:=λ _ _ _ _ _ _=>False
noncomputable abbrev E0:XK:=λ _ _ _=>False
theorem pass0:Passes CX0 X E0:=λ _ _ _ _ _ _ _ h=>h.elim
structure Fun(K:Frag)(x qual:Str)(st:Stmt)(f:Addr)(fd:FuncData):Prop where
 ex:∃ (oc:Value) (od:Option Addr) (kV doc pm:Value) (an:Option Addr) (cdv ct:Value) (osl:Array (Option Value)),
  fd=PySem.W.fnOf x qual (Yj st) (ZE st) (Zi st) .none kV doc pm an cdv ct/\K.lookup f=some ⟨oc,od,.func fd,osl⟩/\PySem.W.codeIn K cdv qual=true
 kp:PySem.W.keepIn K (.ref f)=true
section
variable {P:Program}{w:World}{K:Frag}{mg:Str->Option Value}{base:Heap}
theorem Fun.ok{x qual:Str}{st:Stmt}{f:Addr}{fd:FuncData}{N ps:List Str}{k:Nat}{sp:Sp}(F:Fun K x qual st f fd)(S:Z7 N ps (Zi st))(len:∀ vs H Q E,sp vs H Q E->vs.length=ps.length)
  (hbody:∀ (cdv:Value) (A:Around) (outer:List Env) (s:Shared) (H:Hp) (vs:List V) (Q:VK) (E:XK),Room k (A.deeper (envOfC qual (Zi st) s.heap.objs.size f cdv))->sp vs H Q E ->
   ∃ t,PSs (cxOf CX0 P w K mg base N qual (Zi st) f cdv A outer s H E).nox (ZE st) t/\t { nx:=λ _ H'=>Q .non H',rt:=Q } (start N vs) H):FnOk P w K mg base CX0 (k+1) f fd ps sp:=by
 obtain⟨oc,od,kV,doc,pm,an,cdv,ct,osl,rfl,lk,hcd⟩:=F.ex;refine Zgw lk hcd S len λ A outer s H vs Q E hr hsp=>?_;obtain⟨t,h,q⟩:=hbody cdv A outer s H vs Q E hr hsp;exact⟨t,h.nox,q⟩
theorem Fun.binds{x qual:Str}{st:Stmt}{f:Addr}{fd:FuncData}{ps:List Str}(F:Fun K x qual st f fd)
  (h:∀ (kV doc pm:Value) (an:Option Addr) (cdv ct:Value) (us:List Value),us.length=ps.length->bindArgs (PySem.W.fnOf x qual (Yj st) (ZE st) (Zi st) .none kV doc pm an cdv ct) ⟨us,[]⟩=pure (ps.zip us)):Binds K fd ps []:=by
 obtain⟨oc,od,kV,doc,pm,an,cdv,ct,osl,rfl,lk,hcd⟩:=F.ex;exact .all<|h kV doc pm an cdv ct
theorem ZaU{x qual:Str}{st:Stmt}{f:Addr}{oc:Value}{od an:Option Addr}{osl:Array (Option Value)}{kV doc pm cdv ct:Value}(l:K.lookup f=some ⟨oc,od,.func (PySem.W.fnOf x qual (Yj st) (ZE st) (Zi st) .none kV doc pm an cdv ct),osl⟩)
  (c:PySem.W.codeIn K cdv qual=true)(k:PySem.W.keepIn K (.ref f)=true):Fun K x qual st f (PySem.W.fnOf x qual (Yj st) (ZE st) (Zi st) .none kV doc pm an cdv ct):=⟨⟨oc,od,kV,doc,pm,an,cdv,ct,osl,rfl,l,c⟩,k⟩
end
section
variable {κ:Type} [DecidableEq κ]
noncomputable def valV(kvs:List (κ×V))(k:κ):Option V:=(kvs.find? λ kv=>decide (kv.1=k)).map (·.2)
noncomputable def putK(kvs:List (κ×V))(k:κ)(v:V):List (κ×V):=
 if (kvs.any λ kv=>decide (kv.1=k))=true then kvs.map (λ kv=>if kv.1=k then (kv.1,v) else kv) else kvs++[(k,v)]
theorem JU{p:κ×V}{r:List (κ×V)}{k:κ}(e:p.1=k):valV (p::r) k=some p.2:=by simp[valV,find?_cons,e]
theorem JV{p:κ×V}{r:List (κ×V)}{k:κ}(e:¬ p.1=k):valV (p::r) k=valV r k:=by simp[valV,find?_cons,e]
theorem WX(k:κ):∀ kvs:List (κ×V),(kvs.any λ kv=>decide (kv.1=k))=(valV kvs k).isSome
 |[]=>rfl
 | p::r=>by
  rw[any_cons];by_cases e:p.1=k
  ·simp only[JU e,decide_eq_true e,Bool.true_or,Option.isSome_some]
  ·rw[JV e,oAh e,Bool.false_or];exact WX k r
theorem JG(kvs:List (κ×V))(k:κ)(v:V):(putK kvs k v).length<=kvs.length+1:=by
 unfold putK;split
 ·rw[length_map];lia
 ·rw[length_append,length_cons,length_nil];lia
theorem RelO.isSome_eq(r:RelO o u):o.isSome=u.isSome:=by
 cases o with
 | none=>cases u with
  |none=>rfl
  |some _=>exact(show False from r).elim
 | some _=>cases u with
  |none=>exact(show False from r).elim
  |some _=>rfl
theorem KV.val{kvs:List (κ×V)}{vs:List (κ×Value)}(r:KV kvs vs)(k:κ):RelO (valV kvs k) (valueAt vs k):=by
 unfold KV at r
 induction r with
 |nil=>exact True.intro
 | @cons p q ps qs h t ih=>
  obtain⟨h1,h2⟩:=h;by_cases e:p.1=k
  ·have e':q.1=k:=h1.symm.trans e;have b:valueAt (q::qs) k=some q.2:=by simp[valueAt,find?_cons,e']
   rw[JU e,b];exact h2
  ·have e':¬ q.1=k:=λ z=>e<|h1.trans z;have b:valueAt (q::qs) k=valueAt qs k:=by simp[valueAt,find?_cons,e']
   rw[JV e,b];exact ih
theorem KV.any(r:KV kvs vs)(k:κ):(kvs.any λ kv=>decide (kv.1=k))=vs.any λ kv=>decide (kv.1=k):=by
 unfold KV at r
 induction r with
 |nil=>rfl
 |cons h t ih=>rw[any_cons,any_cons,ih,h.1]
theorem KV.repl(r:KV kvs vs)(k:κ)(ry:RelV y u) :
  KV (kvs.map λ kv=>if kv.1=k then (kv.1,y) else kv) (vs.map λ kv=>if kv.1=k then (kv.1,u) else kv):=by
 unfold KV at r ⊢
 induction r with
 |nil=>exact .nil
 | @cons p q ps qs h t ih=>
  rw[map_cons,map_cons];refine .cons ?_ ih;obtain⟨h1,h2⟩:=h;by_cases e:p.1=k
  ·rw[if_pos e,if_pos<|h1.symm.trans e];exact⟨h1,ry⟩
  ·rw[if_neg e,if_neg<|λ z=>e<|h1.trans z];exact⟨h1,h2⟩
theorem KV.put(r:KV kvs vs)(k:κ)(ry:RelV y u):KV (putK kvs k y) (stored vs k u):=by
 unfold putK stored;rw[r.any k];by_cases e:(vs.any λ kv=>decide<|kv.1=k)=true
 ·rw[if_pos e,if_pos e];exact r.repl k ry
 ·rw[if_neg e,if_neg e];exact Paired.snoc r ⟨rfl,ry⟩
theorem KV.length(r:KV kvs vs):kvs.length=vs.length:=Paired.length r
end
theorem Ws(r:RelV (kV k) u):(ZA P w).is k u=true:=by
 cases k with
 |inl i=>obtain⟨t,e⟩:=(show ∃ t,u=Value.int i t from r);subst e;exact qR P w i t
 |inr x=>obtain⟨t,e⟩:=(show ∃ t,u=Value.str x t from r);subst e;exact qS P w x t
 |non=>have e:u=Value.none:=r;subst e;exact qT P w
theorem V1{P:Program}{w:World}:∀ {ks:List Key}{us:List Value},Vals (ks.map kV) us->ItemsAre (ZA P w) ks us
 |[],_,r=>by rw[map_nil] at r;cases r;exact .nil
 | k::ks,_,r=>by
  rw[map_cons] at r;cases r with
  |cons h t=>exact .cons (Ws h)<|V1 t
abbrev KT(H:Hp):List (List Key×V)->List (List Key×Addr×Value)->Prop:=Paired λ p q=>p.1=q.1/\H q.2.1=some (.tup (p.1.map kV))/\RelV p.2 q.2.2
theorem KT.val{H:Hp}{kvs:List (List Key×V)}{xs:List (List Key×Addr×Value)}(r:KT H kvs xs)(k:List Key):RelO (valV kvs k) ((atKey xs k).map (·.2)):=by
 induction r with
 |nil=>exact True.intro
 | @cons p q ps qs h t ih=>
  obtain⟨h1,_,h2⟩:=h;by_cases e:p.1=k
  ·have e':q.1=k:=h1.symm.trans e;have b:atKey (q::qs) k=some q.2:=by simp[atKey,find?_cons,e']
   rw[JU e,b];exact h2
  ·have e':¬ q.1=k:=λ z=>e<|h1.trans z;have b:atKey (q::qs) k=atKey qs k:=by simp[atKey,find?_cons,e']
   rw[JV e,b];exact ih
theorem KT.repl(r:KT H kvs xs)(k:List Key)(ry:RelV y u) :
  KT H (kvs.map λ kv=>if kv.1=k then (kv.1,y) else kv) (xs.map (putAt k u)):=by
 induction r with
 |nil=>exact .nil
 | @cons p q ps qs h t ih=>
  rw[map_cons,map_cons];refine .cons ?_ ih;obtain⟨h1,h2,h3⟩:=h;unfold putAt;by_cases e:p.1=k
  ·rw[if_pos e,if_pos<|h1.symm.trans e];exact⟨h1,h2,ry⟩
  ·rw[if_neg e,if_neg<|λ z=>e<|h1.trans z];exact⟨h1,h2,h3⟩
theorem KT.put(r:KT H kvs xs)(k:List Key)(hb:H b=some (.tup (k.map kV)))(ry:RelV y u) :
  KT H (putK kvs k y) (storedH xs k b u):=by
 have e:(kvs.any λ kv=>decide<|kv.1=k)=(atKey xs k).isSome:=by
  rw[WX,(r.val k).isSome_eq,Option.isSome_map]
 unfold putK storedH;rw[e];by_cases q:(atKey xs k).isSome=true
 ·rw[if_pos q,if_pos q];exact r.repl k ry
 ·rw[if_neg q,if_neg q];exact Paired.snoc r ⟨rfl,hb,ry⟩
theorem KT.keeps(r:KT H kvs xs)(ht:∀ b ys,H b=some (.tup ys)->H' b=some (.tup ys)):KT H' kvs xs:=
 Paired.mapP r λ _ _ z=>⟨z.1,ht _ _ z.2.1,z.2.2⟩
section
variable {P:Program}{w:World}{H:Hp}{h:Heap}{a:Addr}
theorem ZcW(ok:HOk P w H h)(e:Rd H a u):Zr P w H h a u:=e.ok ok
theorem Zaa(ok:HOk P w H h)(e:Rd H a (.dK kvs)):kvs.length<=sizeLine/\(a==sysModules)=false/\∃ vs,KV kvs vs/\h.DictOf (ZA P w) a vs:=
 show Zr P w H h a (.dK kvs) from ZcW ok e
theorem ZcX(ok:HOk P w H h)(e:H a=some (.dK kvs)):kvs.length<=sizeLine/\(a==sysModules)=false/\∃ vs,KV kvs vs/\h.DictOf (ZA P w) a vs:=Zaa ok<|.inl e
theorem WY{ks:List Key}(ok:HOk P w H h)(e:H a=some (.tup (ks.map kV))):(tupleKind (ZA P w)).is h ks a:=by
 obtain⟨_,its,r,o,h1,h2,n,h3⟩:=(show Zr P w H h a (.tup<|ks.map kV) from ok a _ e);exact⟨o,its.toArray,n,h1,h2,h3,by simpa using V1 r⟩
theorem Zab(ok:HOk P w H h)(e:Rd H a (.dT kvs)):kvs.length<=sizeLine/\(a==sysModules)=false /\
  ∃ xs,KT H kvs xs/\h.DictOfH (tupleKind (ZA P w)) a xs:=by
 obtain⟨z,y,xs,r,o,es,ep,h1,h2,h3,h4,h5⟩:=(show Zr P w H h a (.dT kvs) from ZcW ok e);refine⟨z,y,xs,r,o,es,ep,h1,h2,h3,h4,λ x hx=>?_,h5⟩;have all:∀ {l:List (List Key×V)}{m:List (List Key×Addr×Value)},KT H l m->∀ x∈m,(tupleKind<|ZA P w).is h x.1 x.2.1:=by
  intro l m q
  induction q with
  |nil=>intro x hx;exact nomatch hx
  | @cons p q ps qs hq t ih=>
   intro x hx
   rcases List.mem_cons.1 hx with e | hx
   ·subst e;exact WY ok (by rw[<- hq.1];exact hq.2.1)
   ·exact ih x hx
 exact all r x hx
theorem ZgA(ok:HOk P w H h)(e:H a=some (.dT kvs)):kvs.length<=sizeLine/\(a==sysModules)=false /\
  ∃ xs,KT H kvs xs/\h.DictOfH (tupleKind (ZA P w)) a xs:=Zab ok<|.inl e
end
def DGet(H:Hp)(a:Addr)(y:V)(r:Option V):Prop:=
 (∃ kvs k,Rd H a (.dK kvs)/\y=kV k/\r=valV kvs k)\/∃ kvs k b,Rd H a (.dT kvs)/\y=.ref b/\H b=some (.tup (k.map kV))/\r=valV kvs k
def DPut(H:Hp)(a:Addr)(y v:V)(H':Hp):Prop:=
 (∃ kvs k,H a=some (.dK kvs)/\y=kV k/\kvs.length<sizeLine/\H'=upd H a (.dK (putK kvs k v))) \/
 ∃ kvs k b,H a=some (.dT kvs)/\y=.ref b/\H b=some (.tup (k.map kV))/\kvs.length<sizeLine/\H'=upd H a (.dT (putK kvs k v))
theorem DPut.k{H:Hp}{a:Addr}{kvs:List (Key×V)}{k:Key}{v:V}(e:H a=some (.dK kvs))(hl:kvs.length<sizeLine):DPut H a (kV k) v (upd H a (.dK (putK kvs k v))):=.inl ⟨kvs,k,e,rfl,hl,rfl⟩
theorem DPut.t{H:Hp}{a b:Addr}{kvs:List (List Key×V)}{k:List Key}{v:V}(e:H a=some (.dT kvs))(eb:H b=some (.tup (k.map kV)))(hl:kvs.length<sizeLine) :
  DPut H a (.ref b) v (upd H a (.dT (putK kvs k v))):=.inr ⟨kvs,k,b,e,rfl,eb,hl,rfl⟩
section
variable {X:Cx}{pj:zPn}{σ:St}{H:Hp}{s:Shared}{a:Addr}{y v:V}{u r:Value}{o:Option V}{A:Around}{E:zVP}
theorem Inv.big(I:Inv X pj σ H s):sysModules<s.heap.objs.size:=by
 have h:mainGlobals<s.heap.objs.size:=(I.mod.glob.keeps I.bk).lt;exact lt_trans (by decide) h
theorem ZaV{Q:zVP}(hu:A.units+1<cLine)(I:Inv X pj σ H s)(g:DGet H a y (some v))(ry:RelV y u)(h:∀ w' s',Inv X pj σ H s'->RelV v w'->Q w' s') :
  wpAny (model X.prog X.w) A (getItem (.ref a) u) Q E s:=by
 rcases g with ⟨kvs,k,e,ey,l⟩ | ⟨kvs,k,b,e,ey,eb,l⟩
 ·subst ey;obtain⟨z,hd,vs,rel,dd⟩:=Zaa I.hok e;obtain⟨w',hw,rw'⟩:=RelO.some_of (v:=v) (o:=valueAt vs k) (by rw[l];exact rel.val k)
  exact wpAny_getItem_of (Ws ry) dd.mapOf hw<|h w' _ (I.tok _) rw'
 ·subst ey;cases (show u=Value.ref b from ry)
  obtain⟨z,hd,xs,rel,dd⟩:=Zab I.hok e;obtain⟨w',hw,rw'⟩:=RelO.some_of (v:=v) (o:=(atKey xs k).map (·.2)) (by rw[l];exact rel.val k)
  obtain⟨p,hp,hp2⟩:=zoM hw;refine wpAny_getItem_heap (tupleKind_room_in1 hu) (WY I.hok eb) dd hp ?_;rw[hp2];exact h w' _ (I.tok _) rw'
theorem VJ(I:Inv X pj σ H s)(mu:Mut (H a))(hs:SameBut a s.heap h')(he:∃ q,h'.get? a=some q)(new:Zr X.prog X.w (upd H a ob) h' a ob) :
  Inv X pj σ (upd H a ob) { s with heap:=h',toks:=t' }:=
 I.write (x:=a) (e:=a) mu (.inl rfl) (λ b q hb z=>(hs.2 b hb).trans z) he new
theorem ZaW(z:kvs.length<=sizeLine)(hd:(a==sysModules)=false)(rel:KV kvs vs)(dd:h'.DictOf (ZA P w) a vs) :
  Zr P w H' h' a (.dK kvs):=⟨z,hd,vs,rel,dd⟩
theorem ZaX{Q:Unit->Shared->Prop}(hu:A.units+1<cLine)(I:Inv X pj σ H s)(g:DPut H a y v H')(ry:RelV y u)(rv:RelV v r)(h:∀ s',Inv X pj σ H' s'->Q () s') :
  wpAny (model X.prog X.w) A (setItem (.ref a) u r) Q E s:=by
 rcases g with ⟨kvs,k,e,ey,l,eH⟩ | ⟨kvs,k,b,e,ey,eb,l,eH⟩
 ·subst ey eH;obtain⟨z,hd,vs,rel,dd⟩:=ZcX I.hok e;have hz:vs.length<=sizeLine:=by rw[<- rel.length];exact z
  have hl:(putK kvs k v).length<=sizeLine:=by have:=JG kvs k v;lia
  refine wpAny_setItem_pairs (hsz:=hz) (Ws ry) dd λ h' dd' hs=>h _ ?_;have he:∃ q,h'.get? a=some q:=let ⟨q,_,_,hq,_⟩:=dd';⟨q,hq⟩
  exact VJ I (by rw[e];exact True.intro) hs he<|ZaW hl hd (rel.put k rv) dd'
 ·subst ey eH;cases (show u=Value.ref b from ry)
  obtain⟨z,hd,xs,rel,dd⟩:=ZgA I.hok e;have hz:xs.length<=sizeLine:=by rw[<- Paired.length rel];exact z
  have hl:(putK kvs k v).length<=sizeLine:=by have:=JG kvs k v;lia
  refine wpAny_setItem_heap (hsz:=hz) (tupleKind_room_in1 hu) (WY I.hok eb) dd λ h' dd' hs=>h _ ?_;obtain⟨q,es,ep,hq,h2,h3,h4,_,h5⟩:=dd';refine VJ I (by rw[e];exact True.intro) hs ⟨q,hq⟩ ⟨hl,hd,_,(rel.put k eb rv).keeps λ c ys ec=>?_,q,es,ep,hq,h2,h3,h4,h5⟩
  rw[Zf<|JT ec e (λ z=>nomatch z)];exact ec
end
def NoSl(i:Expr):Prop:=∀ ov iv,subscripted i false ov iv=operate [ov,iv] (getItem ov iv)
theorem Zdy{prog:Program}{w:World}{A:Around}{E:zVP}{s:Shared}{env:Env}{value slice:Expr}{pos:Pos}{T id:String}{Q:zVP}
  (hl:typeLookup (.type T) "__getitem__"=pure (some (.builtin id)))(hs:NoSl slice)
  (h:wpAny (model prog w) A (eval value env) (λ o s₁=>wpAny (model prog w) A (eval slice env) (λ i s₂=>s₂.TypeIs o T/\wpAny (model prog w) A (getItem o i) Q E s₂) E s₁) E s) :
  wpAny (model prog w) A (eval (.Subscript value slice pos) env) Q E s:=by
 refine Subscript_<|oAc h (λ o s₁ h₁=>oAc h₁ (λ i s₂ h₂=>?_) λ _ _ x=>x) λ _ _ x=>x;obtain⟨hT,h₂⟩:=h₂;unfold subscriptTail;refine oAa ?_;rw[getitemInPython_of_ne hT.not_modules];refine oAa<|wpAny_specialOf hT hl ?_;have fin:wpAny (model prog w) A (subscripted slice false o i) (λ r s₃=>wpAny (model prog w) A (letTemporaryGo value o r>>=λ _=>pure r) Q E s₃) E s₂:=by
  rw[hs o i];exact wpAny_operating<|oAc h₂ (λ r s₃ h₃=>oAa<|wpAny_letTemporaryGo<|oAb h₃) λ _ _ x=>x
 first
  |exact oAb<|oAa fin
  |exact oAa<|oAb<|oAa fin
  |exact oAa fin
theorem qW(I:Inv X pj σ H s)(g:DGet H a y o):s.TypeIs (.ref a) "dict":=by
 rcases g with ⟨kvs,k,e,_,_⟩ | ⟨kvs,k,b,e,_,_,_⟩
 ·obtain⟨_,_,vs,_,dd⟩:=Zaa I.hok e;exact dd.typeIs
 ·obtain⟨_,_,xs,_,dd⟩:=Zab I.hok e;exact dd.typeIs
noncomputable def ZgB(td ty:TE):TE:=λ σ H Q=>td σ H λ x H1=>ty σ H1 λ y H2=>∃ a v,x=.ref a/\DGet H2 a y (some v)/\Q v H2
section
variable {X:Cx}{o i e value:Expr}{pos pos' tpos:Pos}{td ty tv:TE}
theorem Zdz(hu:X.A.units+1<cLine)(ho:PE X o td)(hi:PE X i ty)(hs:NoSl i):PE X (.Subscript o i pos) (ZgB td ty):=by
 intro pj s σ H Q I h;refine Zdy PySem.F.slot_dict_getitem.lookup hs<|thn (ho pj s σ H _ I h) λ u s1 ⟨x,H1,I1,rx,q1⟩=>thn (hi pj s1 σ H1 _ I1 q1) λ iv s2 ⟨y,H2,I2,ry,a,v,ex,g,q2⟩=>?_;subst ex;obtain rfl:u=Value.ref a:=rx;exact⟨qW I2 g,ZaV hu I2 g ry λ w' s3 I3 rw'=>⟨v,H2,I3,rw',q2⟩⟩
end
theorem Zb7(h:Heap)(hb:sysModules<h.objs.size):Zr P w H (h.push { cls:=.type "dict",data:=.dict #[] }) h.objs.size (.dK []):=
 ⟨zero_le _,beq_eq_false_iff_ne.2<|Ne.symm<|oAp hb,[],.nil,Heap.DictOf.new h⟩
theorem Zb8(h:Heap)(hb:sysModules<h.objs.size):Zr P w H (h.push { cls:=.type "dict",data:=.dict #[] }) h.objs.size (.dT []):=
 ⟨zero_le _,beq_eq_false_iff_ne.2<|Ne.symm<|oAp hb,[],.nil,_,#[],0,oAe _ rfl,⟨rfl,rfl,rfl⟩,rfl,rfl,nodup_nil⟩
noncomputable def Ze3:TE:=λ _ H Q=>∀ p,H p=none->Q (.ref p) (upd H p (.dT []))
section
variable {X:Cx}{pos:Pos}
theorem Zb9:PE X (.Dict [] [] pos) Ze3:=λ pj s σ H Q I h=>
 wpAny_Dict_empty ⟨.ref s.heap.objs.size,_,I.laid (a:=s.heap.objs.size) (o:=.dT []) (t':=s.toks) (λ _ _ q=>oAd _ q) (oAl _)<|Zb8 s.heap I.big,rfl,h _<|I.hok.fresh<|oAl _⟩
end
def WZ:List (TE×TE)->St->Hp->(List (V×V)->Hp->Prop)->Prop
 |[],_,H,Q=>Q [] H
 |(tk,tv)::r,σ,H,Q=>tk σ H λ x H1=>tv σ H1 λ y H2=>WZ r σ H2 λ ps H3=>Q ((x,y)::ps) H3
abbrev VV:List (V×V)->List (Value×Value)->Prop:=Paired λ p q=>RelV p.1 q.1/\RelV p.2 q.2
def PPs(X:Cx)(pos:Pos)(keys:List (Option Expr))(values:List Expr)(trs:List (TE×TE)):Prop:=
 ∀ (pj:zPn) (s:Shared) (σ:St) (H:Hp) (Q:List (V×V)->Hp->Prop),Inv X pj σ H s->WZ trs σ H Q ->
  wpAny (model X.prog X.w) X.A (evalPairs (pairTrees keys values X.env pos)) (λ vs s'=>∃ ps H',Inv X pj σ H' s'/\VV ps vs/\Q ps H') X.xe s
theorem ZdA:PPs X pos [] [] []:=λ pj s σ H Q I h=>pairTrees_nil_walk ⟨[],H,I,.nil,h⟩
theorem Zca(hk:PE X k tk)(hv:PE X v tv)(hr:PPs X pos ks vs trs) :
  PPs X pos (some k::ks) (v::vs) ((tk,tv)::trs):=λ pj s σ H Q I h=>
 pairTrees_cons_walk (thn (hk pj s σ H _ I h) λ u s1 ⟨x,H1,I1,rx,q1⟩=>thn (hv pj s1 σ H1 _ I1 q1) λ w2 s2 ⟨y,H2,I2,ry,q2⟩=>
  thn (hr pj s2 σ H2 _ I2 q2) λ ws s3 ⟨ps,H3,I3,rel,q3⟩=>⟨(x,y)::ps,H3,I3,.cons ⟨rx,ry⟩ rel,q3⟩)
noncomputable def JJ(kvs more:List (Key×V)):List (Key×V):=more.foldl (λ acc kv=>putK acc kv.1 kv.2) kvs
theorem KV.merge:∀ {more:List (Key×V)}{rs:List (Key×Value)}{kvs:List (Key×V)}{vs:List (Key×Value)},KV more rs->KV kvs vs->KV (JJ kvs more) (merged vs rs):=by
 intro more rs kvs vs r;unfold KV at r
 induction r generalizing kvs vs with
 |nil=>intro q;exact q
 | @cons p q ps qs h t ih=>
  intro r0;have e:KV (putK kvs p.1 p.2) (stored vs q.1 q.2):=by
   have:=r0.put p.1 h.2;rw[<- h.1];exact this
  exact ih e
theorem Ua:∀ (more kvs:List (Key×V)),(JJ kvs more).length<=kvs.length+more.length
 |[],kvs=>by show kvs.length<=kvs.length+0;lia
 | p::r,kvs=>by
  have h1:=Ua r<|putK kvs p.1 p.2;have h2:=JG kvs p.1 p.2;show (JJ (putK kvs p.1 p.2) r).length<=_;rw[length_cons];lia
theorem Ve{P:Program}{w:World}:∀ {kvs:List (Key×V)}{ws:List (Value×Value)},VV (kvs.map λ kv=>(kV kv.1,kv.2)) ws->∃ rs,Carries (ZA P w) ws rs/\KV kvs rs
 |[],_,r=>by rw[map_nil] at r;cases r;exact⟨[],True.intro,.nil⟩
 | p::kvs,_,r=>by
  rw[map_cons] at r;cases r with
  | @cons a b as bs h t=>
   obtain⟨rs,c,q⟩:=Ve (P:=P) (w:=w) t;obtain⟨b1,b2⟩:=b;exact⟨(p.1,b2)::rs,⟨Ws h.1,rfl,c⟩,.cons ⟨rfl,h.2⟩ q⟩
noncomputable def ZgC(trs:List (TE×TE)):TE:=λ σ H Q=>∀ p,H p=none->WZ trs σ (upd H p (.dK [])) λ ps H2=>H2 p=some (.dK [])/\∃ kvs:List (Key×V),ps=kvs.map (λ kv=>(kV kv.1,kv.2))/\kvs.length<=15/\Q (.ref p) (upd H2 p (.dK (JJ [] kvs)))
theorem ZdB{X:Cx}{pos:Pos}{keys:List (Option Expr)}{values:List Expr}{trs:List (TE×TE)}(h:PPs X pos keys values trs)(hall:keys.all (·.isSome)=true)(hl:keys.length=values.length)(h0:keys≠[])
  (h15:keys.length<=15):PE X (.Dict keys values pos) (ZgC trs):=by
 intro pj s σ H Q I q;have hn:=I.hok.fresh<|oAl s.heap.objs.size;have I1:=I.laid (a:=s.heap.objs.size) (o:=.dK []) (h':=s.heap.push { cls:=.type "dict",data:=.dict #[] }) (t':=s.toks) (λ _ _ q=>oAd _ q) (oAl _)<|Zb7 s.heap I.big;refine wpAny_Dict_walk (knd:=ZA X.prog X.w) hall hl h0 h15<|thn (h pj _ σ _ _ I1<|q _ hn) λ ws s2 ⟨ps,H2,I2,rel,e,kvs,ep,lk,q2⟩=>?_;subst ep;obtain⟨rs,c,rk⟩:=Ve (P:=X.prog) (w:=X.w) rel;obtain⟨z,hd,vs0,r0,dd⟩:=ZcX I2.hok e;cases r0
 refine⟨rs,c,dd,λ h' dd' hs=>⟨.ref s.heap.objs.size,_,?_,rfl,q2⟩⟩;have hz:(JJ [] kvs).length<=sizeLine:=by
  have h1:=Ua kvs [];rw[length_nil] at h1;rw[sizeLine_eq];lia
 have he:∃ q,h'.get? s.heap.objs.size=some q:=let ⟨q,_,_,hq,_⟩:=dd';⟨q,hq⟩
 exact VJ I2 (by rw[e];exact True.intro) hs he<|ZaW hz hd (rk.merge .nil) dd'
end L2
set_option maxHeartbeats 40000000
set_option autoImplicit true
namespace PF
open PySem PySem.Spec PyProof.Rows L2
section
variable {X:Cx}{pj:zPn}{σ:L2.St}{H:Hp}{s:Shared}{A:Around}{E:zVP}
theorem W0(d:Addr)(hd:(d==sysModules)=false) :
  MeetsIn prog w (Builtin.«dict.__len__» ⟨[.ref d],[]⟩) (λ _ R s=>∃ (o:Obj) (es:Array DictEntry) (ep:Nat),s.heap.get? d=some o/\o.data=.dict es ep/\R (.ok (.ret (.int es.size s.toks))) { s with toks:=s.toks+1 }):=
 .of_wp λ A R s ⟨o,es,ep,ho,hdat,h⟩=>by
  show wpAny _ _ (dictSize d>>=_) _ _ s;unfold dictSize;refine oAa<|oAa<|wpAny_dictEntries ho hdat<|oAb ?_;show wpAny _ _ (Builtin.Dict.pendingCount d>>=_) _ _ s;refine oAa<|wpAny_pendingCount_other hd ?_;refine wpAny_ret_mkInt ?_;rw[add_zero];exact h
theorem W1{Q:zVP}(hd:(d==sysModules)=false)(ho:s.heap.get? d=some o)(hc:o.cls=.type "dict")(hdat:o.data=.dict es ep)(hfit:(es.size:Int)<2 ^ 63)
  (h:Q (.int es.size (s.toks+1)) { s with toks:=s.toks+1+1 }):wpAny (model prog w) A (call (.builtin "len") [.ref d]) Q E s:=by
 refine Calls.call_function_entry kind_len plain_len entry_len (args_len1 _) ?_;have hT:s.TypeIs (.ref d) "dict":=⟨o,ho,hc⟩;unfold Builtin.«len»;refine oAa (m:=oneArg "len" _)<|oAb ?_;refine oAa (m:=callSpecial? (.ref d)<|Str.ofString "__len__") (wpAny_callSpecial?_slot (name:=Str.ofString "__len__") hT PySem.F.slot_dict_len
  (call_meetsIn PySem.F.slot_dict_len hT PySem.F.entry_dict_len (PySem.F.args_dict_len_1 _) (W0 d hd) ⟨o,es,ep,ho,hdat,?_⟩))
 show wpAny _ _ _ _ _ { s with toks:=s.toks+1 };refine oAa<|wpAny_holding<|oAb ?_;refine oAa<|wpAny_letGo ?_;show wpAny _ _ (if ((es.size:Nat):Int)<0 then _ else _) _ _ _;rw[if_neg (by lia)];show wpAny _ _ (if ((es.size:Nat):Int) ≥ 2 ^ 63 then _ else _) _ _ _;rw[if_neg (by lia)];exact oAa<|wpAny_mkInt<|oAb ⟨_,rfl,h⟩
theorem Ze4{Q:zVP}(I:Inv X pj σ H s)(e:H d=some (.dT us))(h:∀ t s',Inv X pj σ H s'->Q (.int us.length t) s'):wpAny (model X.prog X.w) A (call (.builtin "len") [.ref d]) Q E s:=by
 obtain⟨z,hd,xs,rel,o,es,ep,ho,hx,hdat,hes,_⟩:=(show Zr X.prog X.w H s.heap d (.dT us) from I.hok d _ e);have hl:es.size=us.length:=by
  have:=congrArg List.length hes;rw[length_toList,length_map,<-Paired.length rel] at this;exact this
 rw[sizeLine_eq] at z;refine W1 hd ho hx.1 hdat (by lia) ?_;rw[hl];exact h _ _<|I.tok _
theorem ZaY{a:Addr}{is js:List Int}{Q:VK}(I:Inv X pj σ H s)(hq:SqL X.K H a (is.map V.int))(hz:is.length<64)(q:∀ p,H p=none->Q (.ref p) (upd H p (.lst (js.map V.int))))(hp:js.Perm is)(hs:js.Pairwise (·<=·)) :
  wpAny (model X.prog X.w) X.A (call (.builtin "sorted") [.ref a]) (EP X pj σ Q) X.xe s:=by
 obtain⟨its,rv,pl,_⟩:=I.list hq;have hlen:=rv.length;rw[length_map] at hlen;refine sorted_ints pl.isList (intsAre_of rv) (by lia)<|λ out ns' a1 a2 a3=>?_;have e:ns'=js:=PySem.W.ksm_same (a2.trans hp.symm) a3 hs;subst e;obtain⟨ep,he⟩:=sortedAll_at s.heap its out;have hp1:=I.hok.fresh<|le_succ s.heap.objs.size;refine⟨.ref _,_,I.laid (a:=s.heap.objs.size+1) (o:=.lst<|ns'.map V.int) (t':=s.toks) (λ b o e=>sortedAll_old e) (le_succ _) ?_,rfl,q _ hp1⟩;refine⟨?_,out.toList,ep,Ud a1,by simpa [seqObj] using he⟩;have:=a2.length_eq;rw[length_map,sizeLine_eq];lia
end
end PF
namespace TS
open PySem PyProof.Rows
structure Cmp(prog:Program)(w:World)(A:Around)(E:zVP)(s:Shared)(κ:SortKind)(dom:Keyed->Prop)(r:Keyed->Nat):Prop where
 lt:∀ {x y:Keyed}{Q:Option Bool->SortSt->Prop}{st:SortSt},dom x->dom y->kindOf st=κ->Q (some (decide (r x<r y))) st->wpS (model prog w) A E s (lt' x y) Q st
variable {prog:Program}{w:World}{A:Around}{E:zVP}{s:Shared}{κ:SortKind}{dom:Keyed->Prop}{r:Keyed->Nat}
noncomputable def rk(r:Keyed->Nat)(a:Array Keyed)(i:Nat):Nat:=match a[i]? with
 |some x=>r x
 |none=>0
theorem ZgD(h:a[i]?=some x):rk r a i=r x:=by unfold rk;rw[h]
theorem zr{arr:Array Keyed}{i:Nat}{Q:Keyed->SortSt->Prop}{st:SortSt}{x:Keyed}(h:arr[i]?=some x)(k:Q x st):wpS (model prog w) A E s (elem' arr i) Q st:=by
 rw[elem'_eq,h];exact oAw k
end TS
namespace TS
open PySem PyProof.Rows
variable {r:Keyed->Nat}
def Le(r:Keyed->Nat)(x y:Keyed):Prop:=r x<=r y
def Srt(r:Keyed->Nat)(l:List Keyed):Prop:=l.Pairwise (Le r)
end TS
namespace TS
open PySem PyProof.Rows
variable {r:Keyed->Nat}{a b out:Array Keyed}{ia ib k:Nat}
theorem Vf(h:i<l.size):rk r l i=r l[i]:=ZgD<|getElem?_eq_getElem h
end TS
namespace TS
open PySem PyProof.Rows
variable {prog:Program}{w:World}{A:Around}{E:zVP}{s:Shared}{κ:SortKind}{dom:Keyed->Prop}{r:Keyed->Nat}
section
variable {α:Type}{t e:StateT SortSt Sem α}{Q:α->SortSt->Prop}{st:SortSt}
theorem ifB{x y:Nat}(h1:x=y->wpS (model prog w) A E s t Q st)(h2:x≠y->wpS (model prog w) A E s e Q st):wpS (model prog w) A E s (if (x==y)=true then t else e) Q st:=by
 by_cases h:x=y
 ·rw[if_pos (by rw[h];exact beq_self_eq_true _)];exact h1 h
 ·rw[if_neg (by rw[beq_iff_eq];exact h)];exact h2 h
theorem ifP{p:Prop}[Decidable p](h1:p->wpS (model prog w) A E s t Q st)(h2:¬ p->wpS (model prog w) A E s e Q st):wpS (model prog w) A E s (if p then t else e) Q st:=by
 by_cases h:p
 ·rw[if_pos h];exact h1 h
 ·rw[if_neg h];exact h2 h
end
end TS
namespace TS
open PySem PyProof.Rows
variable {prog:Program}{w:World}{A:Around}{E:zVP}{s:Shared}{κ:SortKind}{dom:Keyed->Prop}{r:Keyed->Nat}
end TS
namespace TS
open PySem PyProof.Rows
variable {prog:Program}{w:World}{A:Around}{E:zVP}{s:Shared}{κ:SortKind}{dom:Keyed->Prop}{r:Keyed->Nat}
end TS
namespace TS
open PySem PyProof.Rows
section
variable {r:Keyed->Nat}
def Up(r:Keyed->Nat)(a:Array Keyed)(lo n:Nat):Prop:=∀ i j,i<=j->j<n->rk r a (lo+i)<=rk r a (lo+j)
def Down(r:Keyed->Nat)(a:Array Keyed)(lo n:Nat):Prop:=∀ i j,i<=j->j<n->rk r a (lo+j)<=rk r a (lo+i)
theorem Vg(h:a[i]?=b[j]?):rk r a i=rk r b j:=by unfold rk;rw[h]
theorem Jz(hj:j<=a.size)(k:Nat):rk r (mirror a i j ((j - i) / 2)) k=if i<=k/\k<j then rk r a (i+j - 1 - k) else rk r a k:=by
 have e:=getElem?_mirror_all (i:=i) hj k;by_cases h:i<=k/\k<j
 ·rw[if_pos h] at e ⊢;exact Vg e
 ·rw[if_neg h] at e ⊢;exact Vg e
theorem Ze5(hs:src<a.size)(hd:d<=src)(k:Nat):rk r (bubble a src d) k=if k=src - d then rk r a src else if src - d<k/\k<=src then rk r a (k - 1) else rk r a k:=by
 have e:=getElem?_bubble hs d hd k;by_cases h1:k=src - d
 ·rw[if_pos h1] at e ⊢;exact Vg e
 ·rw[if_neg h1] at e ⊢;by_cases h2:src - d<k/\k<=src
  ·rw[if_pos h2] at e ⊢;exact Vg e
  ·rw[if_neg h2] at e ⊢;exact Vg e
theorem Up.succ{a:Array Keyed}{lo n:Nat}(h:Up r a lo n)(h1:1<=n)(hn:rk r a (lo+n - 1)<=rk r a (lo+n)):Up r a lo (n+1):=by
 intro i j hij hj;by_cases e:j=n
 ·subst e;by_cases e2:i=j
  ·subst e2;exact oAl _
  ·have:=h i (j - 1) (by lia) (by lia);rw[show lo+(j - 1)=lo+j - 1 by lia] at this;lia
 ·exact h i j hij (by lia)
theorem Down.succ{a:Array Keyed}{lo n:Nat}(h:Down r a lo n)(h1:1<=n)(hn:rk r a (lo+n)<=rk r a (lo+n - 1)):Down r a lo (n+1):=by
 intro i j hij hj;by_cases e:j=n
 ·subst e;by_cases e2:i=j
  ·subst e2;exact oAl _
  ·have:=h i (j - 1) (by lia) (by lia);rw[show lo+(j - 1)=lo+j - 1 by lia] at this;lia
 ·exact h i j hij (by lia)
end
structure Sg(st0:SortSt)(lo n:Nat)(st:SortSt):Prop where
 kind:kindOf st=kindOf st0
 fail:failedOf st=failedOf st0
 pend:pendingOf st=pendingOf st0
 perm:(arrOf st).Perm (arrOf st0)
 out:∀ i,(i<lo\/lo+n<=i)->(arrOf st)[i]?=(arrOf st0)[i]?
theorem Sg.refl{st:SortSt}{lo n:Nat}:Sg st lo n st:=⟨rfl,rfl,rfl,.refl _,λ _ _=>rfl⟩
theorem Sg.trans{a b c:SortSt}{lo n:Nat}(h:Sg a lo n b)(g:Sg b lo n c):Sg a lo n c:=⟨g.kind.trans h.kind,g.fail.trans h.fail,g.pend.trans h.pend,g.perm.trans h.perm,λ i hi=>(g.out i hi).trans<|h.out i hi⟩
theorem Sg.size{a b:SortSt}{lo n:Nat}(h:Sg a lo n b):(arrOf b).size=(arrOf a).size:=h.perm.size_eq
theorem Sg.wide{a b:SortSt}{lo n m:Nat}(h:Sg a lo n b)(hm:n<=m):Sg a lo m b:=⟨h.kind,h.fail,h.pend,h.perm,λ i hi=>h.out i<|by lia⟩
theorem Sg.rev{st:SortSt}{lo n i j:Nat}(hi:lo<=i)(hj:j<=lo+n)(hz:lo+n<=(arrOf st).size):Sg st lo n (setArr st (mirror (arrOf st) i j ((j - i) / 2))):=
 ⟨rfl,rfl,rfl,mirror_perm _ _ _ _,λ k hk=>by
  have e:=getElem?_mirror_all (xs:=arrOf st) (i:=i) (j:=j) (by lia) k;rw[if_neg (by lia)] at e;exact e⟩
theorem Sg.dom{a b:SortSt}{lo n:Nat}{dom:Keyed->Prop}(h:Sg a lo n b)(hd:∀ x∈arrOf a,dom x):∀ x∈arrOf b,dom x:=λ x hx=>hd x (by
 have:=(Array.perm_iff_toList_perm.1 h.perm).mem_iff (a:=x);rw[mem_toList_iff,mem_toList_iff] at this;exact this.1 hx)
variable {prog:Program}{w:World}{A:Around}{E:zVP}{s:Shared}{κ:SortKind}{dom:Keyed->Prop}{r:Keyed->Nat}
theorem Z8(C:Cmp prog w A E s κ dom r){i j:Nat}{Q:Option Bool->SortSt->Prop}{st:SortSt}(hκ:kindOf st=κ)(hd:∀ x∈arrOf st,dom x)(hi:i<(arrOf st).size)(hj:j<(arrOf st).size)(k:Q (some (decide (rk r (arrOf st) i<rk r (arrOf st) j))) st) :
  wpS (model prog w) A E s (ltAt' i j) Q st:=by
 rw[ltAt'_eq];refine oAv<|wpS_get ?_;refine oAv<|zr (getElem?_eq_getElem hi) ?_;refine oAv<|zr (getElem?_eq_getElem hj) ?_;rw[Vf hi,Vf hj] at k;exact C.lt (hd _<|Array.getElem_mem hi) (hd _<|Array.getElem_mem hj) hκ k
theorem YN{i j:Nat}{Q:Unit->SortSt->Prop}{st:SortSt}(k:Q () (setArr st (mirror (arrOf st) i j ((j - i) / 2)))):wpS (model prog w) A E s (reverseSlice' i j) Q st:=by
 rw[reverseSlice'_eq];exact wpS_modify k
theorem ZaZ(C:Cmp prog w A E s κ dom r){lo n ok:Nat}{Q:Bool->SortSt->Prop}{st:SortSt}(hκ:kindOf st=κ)(hd:∀ x∈arrOf st,dom x)(hz:lo+n<=(arrOf st).size)(hok:ok<=n)(hs:Up r (arrOf st) lo ok)
  (k:∀ st',Sg st lo n st'->Up r (arrOf st') lo n->Q true st'):wpS (model prog w) A E s (binarySort' lo n ok) Q st:=by
 rw[binarySort'_eq];dsimp only;refine oAv<|wpS_mono (wpS_forRange (I:=λ x c st1=>c=(none,())/\Sg st lo n st1/\Up r (arrOf st1) lo (min x n)) (Q:=λ c st1=>c=(none,())/\Sg st lo n st1/\Up r (arrOf st1) lo n) ?step ?fin ?init) ?post
 case post=>
  rintro c st1 ⟨rfl,h1,h2⟩;exact oAw<|k st1 h1 h2
 case fin=>
  rintro c st1 ⟨rfl,h1,h2⟩;refine⟨rfl,h1,λ i j hij hj=>h2 i j hij<|by lia⟩
 case init=>
  refine⟨rfl,.refl,λ i j hij hj=>?_⟩;by_cases e:i=j
  ·subst e;exact oAl _
  ·exact hs i j hij (by lia)
 case step=>
  rintro x c st1 hx1 hx2 ⟨rfl,g,u⟩;rw[Nat.min_eq_left (by lia)] at u;have gz:=g.size;have gd:=g.dom hd;have gk:=g.kind.trans hκ
  try dsimp only
  refine oAv (wpS_mono (wpS_forRange (I:=λ y c st2=>st2=st1/\∃ l h,c=(none,l,h)/\l<=h/\h<=x/\h - l+y<=x/\(∀ i,i<l->rk r (arrOf st1) (lo+i)<=rk r (arrOf st1) (lo+x))/\∀ i,h<=i->i<x->rk r (arrOf st1) (lo+x)<=rk r (arrOf st1) (lo+i))
   (Q:=λ c st2=>st2=st1/\∃ l h,c=(none,l,h)/\l<=x/\(∀ i,i<l->rk r (arrOf st1) (lo+i)<=rk r (arrOf st1) (lo+x))/\∀ i,l<=i->i<x->rk r (arrOf st1) (lo+x)<=rk r (arrOf st1) (lo+i)) ?s1 ?f1 ⟨rfl,0,x,rfl,by lia,by lia,by lia,λ i hi=>by lia,λ i h1 h2=>by lia⟩) ?p1)
  case f1=>
   rintro c st2 ⟨rfl,l,h,rfl,b1,b2,b3,b4,b5⟩;exact⟨rfl,l,h,rfl,by lia,b4,λ i c1 c2=>b5 i (by lia) c2⟩
  case s1=>
   rintro y c st2 _ hy ⟨rfl,l,h,rfl,b1,b2,b3,b4,b5⟩;dsimp only;refine ifP (λ q=>oAw ⟨rfl,l,h,rfl,by lia,b4,λ i c1 c2=>b5 i (by lia) c2⟩)<|λ q=>?_;refine oAv<|Z8 C gk gd (by lia) (by lia) ?_;dsimp only;refine ifP (λ q2=>?_)<|λ q2=>?_
   ·have q2:=oAj q2;refine oAw ⟨rfl,_,_,rfl,by lia,by lia,by lia,b4,λ i c1 c2=>?_⟩;have:=u ((l+h) / 2) i c1 (by lia);lia
   ·rw[decide_eq_true_eq] at q2;refine oAw ⟨rfl,_,_,rfl,by lia,by lia,by lia,λ i c1=>?_,b5⟩;have:=u i ((l+h) / 2) (by lia) (by lia);lia
  case p1=>
   rintro c st2 ⟨rfl,l,h,rfl,b1,b4,b5⟩;dsimp only;rw[moveDown'_eq];refine oAv<|wpS_modify<|oAw ⟨rfl,g.trans ⟨rfl,rfl,rfl,bubble_perm _ _ _,λ i hi=>?_⟩,?_⟩
   ·have e:=getElem?_bubble (xs:=arrOf st2) (src:=lo+x) (by lia) (lo+x - (lo+l)) (by lia) i;rw[if_neg (by lia),if_neg (by lia)] at e;exact e
   ·rw[Nat.min_eq_left (by lia)];have rb:=λ t=>Ze5 (r:=r) (a:=arrOf st2) (src:=lo+x) (d:=lo+x - (lo+l)) (by lia) (by lia) t;show Up r (bubble (arrOf st2) (lo+x)<|lo+x - (lo+l)) lo (x+1);have es:lo+x - (lo+x - (lo+l))=lo+l:=by lia
    simp only[es] at rb;intro i j hij hj;rw[rb,rb];by_cases c1:lo+i=lo+l
    ·rw[if_pos c1];by_cases c2:lo+j=lo+l
     ·rw[if_pos c2];exact oAl _
     ·rw[if_neg c2,if_pos (by lia),show lo+j - 1=lo+(j - 1) by lia];exact b5 (j - 1) (by lia) (by lia)
    ·rw[if_neg c1];by_cases c3:lo+l<lo+i/\lo+i<=lo+x
     ·rw[if_pos c3,if_neg (by lia),if_pos (by lia),show lo+i - 1=lo+(i - 1) by lia,show lo+j - 1=lo+(j - 1) by lia];exact u (i - 1) (j - 1) (by lia) (by lia)
     ·rw[if_neg c3];by_cases c2:lo+j=lo+l
      ·rw[if_pos c2];exact b4 i (by lia)
      ·rw[if_neg c2];by_cases c4:lo+l<lo+j/\lo+j<=lo+x
       ·rw[if_pos c4,show lo+j - 1=lo+(j - 1) by lia];exact u i (j - 1) (by lia) (by lia)
       ·rw[if_neg c4];exact u i j hij (by lia)
end TS
namespace TS
open PySem PyProof.Rows
variable {prog:Program}{w:World}{A:Around}{E:zVP}{s:Shared}{κ:SortKind}{dom:Keyed->Prop}{r:Keyed->Nat}
theorem Jq{lo nrem a:Nat}{st:SortSt}{f:Nat->AscSt->StateT SortSt Sem (ForInStep AscSt)}(h1:1<=a)(ha:a<=nrem)(hu:Up r (arrOf st) lo a)
  (hf:∀ x m (Q:ForInStep AscSt->SortSt->Prop),1<=m->m<nrem->(rk r (arrOf st) (lo+m)<rk r (arrOf st) (lo+m - 1)->Q (.done (none,m)) st)->(rk r (arrOf st) (lo+m - 1)<=rk r (arrOf st) (lo+m)->Q (.yield (none,m+1)) st)->wpS (model prog w) A E s (f x (none,m)) Q st) :
  wpS (model prog w) A E s (forIn [a:nrem] (none,a) f) (λ c st'=>st'=st/\∃ m,c=(none,m)/\a<=m/\m<=nrem/\Up r (arrOf st) lo m/\(m<nrem->rk r (arrOf st) (lo+m)<rk r (arrOf st) (lo+m - 1))) st:=by
 refine wpS_forRange (I:=λ x c st'=>st'=st/\c=(none,x)/\a<=x/\Up r (arrOf st) lo x) ?_ ?_ ⟨rfl,rfl,oAl _,hu⟩
 ·rintro x c st' hx1 hx2 ⟨rfl,rfl,b1,b2⟩;refine hf x x _ (by lia) hx2 (λ q=>⟨rfl,x,rfl,b1,by lia,b2,λ _=>q⟩)<|λ q=>⟨rfl,rfl,by lia,b2.succ (by lia) q⟩
 ·rintro c st' ⟨rfl,rfl,b1,b2⟩;rw[Nat.max_eq_right ha] at *;exact⟨rfl,nrem,rfl,ha,oAl _,b2,λ z=>by lia⟩
theorem V2{lo nrem a:Nat}{st0:SortSt}{f:Nat->DescSt->StateT SortSt Sem (ForInStep DescSt)}(h1:1<=a)(ha:a<=nrem)(hz:lo+nrem<=(arrOf st0).size){st:SortSt}(hg:Sg st0 lo nrem st)(hu:Down r (arrOf st) lo a)
    (hf:∀ x m q st (Q:ForInStep DescSt->SortSt->Prop),Sg st0 lo nrem st->1<=m->m<nrem->(rk r (arrOf st) (lo+m)<rk r (arrOf st) (lo+m - 1)->(0<q->Q (.yield (none,m+1,0)) (setArr st (mirror (arrOf st) (lo+m - (q+1)) (lo+m) ((lo+m - (lo+m - (q+1))) / 2))))/\(q=0->Q (.yield (none,m+1,0)) st))
     ->(rk r (arrOf st) (lo+m - 1)<rk r (arrOf st) (lo+m)->Q (.done (none,m,q)) st)->(rk r (arrOf st) (lo+m - 1)=rk r (arrOf st) (lo+m)->Q (.yield (none,m+1,q+1)) st)->wpS (model prog w) A E s (f x (none,m,q)) Q st) :
    wpS (model prog w) A E s (forIn [a:nrem] (none,a,0) f) (λ c st'=>Sg st0 lo nrem st'/\∃ m q,c=(none,m,q)/\a<=m/\m<=nrem/\Down r (arrOf st') lo m/\q+1<=m/\∀ i,m - (q+1)<=i->i<m->rk r (arrOf st') (lo+i)=rk r (arrOf st') (lo+m - 1)) st:=by
  refine wpS_forRange (I:=λ x c st'=>Sg st0 lo nrem st'/\∃ q,c=(none,x,q)/\a<=x/\Down r (arrOf st') lo x/\q+1<=x/\∀ i,x - (q+1)<=i->i<x->rk r (arrOf st') (lo+i)=rk r (arrOf st') (lo+x - 1)) ?_ ?_ ⟨hg,0,rfl,oAl _,hu,h1,λ i i1 i2=>by rw[show lo+i=lo+a - 1 by lia]⟩
  · rintro x c st' hx1 hx2 ⟨g,q,rfl,b1,b2,b3,b4⟩;have gz:=g.size;refine hf x x q st' _ g (by lia) hx2 (λ c1=>⟨λ c2=>?_,λ c2=>?_⟩) (λ c1=>?_) (λ c1=>?_)
    · have rm:=λ t=>Jz (r:=r) (a:=arrOf st') (i:=lo+x - (q+1)) (j:=lo+x) (by lia) t;have rm2:∀ t,rk r (mirror (arrOf st') (lo+x - (q+1)) (lo+x)<|(lo+x - (lo+x - (q+1))) / 2) t=rk r (arrOf st') t:=λ t=>by
        rw[rm t];split
        · rename_i ht;have e1:=b4 (t - lo) (by lia) (by lia);have e2:=b4 (lo+x - (q+1)+(lo+x) - 1 - t - lo) (by lia) (by lia);rw[show lo+(t - lo)=t by lia] at e1;rw[show lo+(lo+x - (q+1)+(lo+x) - 1 - t - lo)=lo+x - (q+1)+(lo+x) - 1 - t by lia] at e2;rw[e1,e2]
        · rfl
      refine⟨g.trans<|Sg.rev (by lia) (by lia) (by lia),0,rfl,by lia,?_,by lia,λ i i1 i2=>by rw[show lo+i=lo+(x+1) - 1 by lia]⟩;refine Down.succ (λ i j hij hj=>?_) (by lia) ?_
      · show rk r (mirror _ _ _ _) _<=rk r (mirror _ _ _ _) _;rw[rm2,rm2];exact b2 i j hij hj
      · show rk r (mirror _ _ _ _) _<=rk r (mirror _ _ _ _) _;rw[rm2,rm2];lia
    · exact⟨g,0,rfl,by lia,b2.succ (by lia) (by lia),by lia,λ i i1 i2=>by rw[show lo+i=lo+(x+1) - 1 by lia]⟩
    · exact⟨g,x,q,rfl,b1,by lia,b2,b3,b4⟩
    · refine⟨g,q+1,rfl,by lia,b2.succ (by lia) (by lia),by lia,λ i i1 i2=>?_⟩;by_cases e:i=x
      · rw[e,show lo+(x+1) - 1=lo+x by lia]
      · rw[show lo+(x+1) - 1=lo+x by lia,<-c1];exact b4 i (by lia) (by lia)
  · rintro c st' ⟨g,q,rfl,b1,b2,b3,b4⟩;rw[Nat.max_eq_right ha] at *;exact⟨g,nrem,q,rfl,ha,oAl _,b2,b3,b4⟩
theorem JW{a:Array Keyed}{lo m:Nat}(hz:lo+m<=a.size)(d:Down r a lo m):Up r (mirror a lo (lo+m) ((lo+m - lo) / 2)) lo m:=λ i j hij hj=>by
 rw[Jz hz,Jz hz,if_pos (by lia),if_pos (by lia)];have:=d (m - 1 - j) (m - 1 - i) (by lia) (by lia);rw[show lo+(lo+m) - 1 - (lo+i)=lo+(m - 1 - i) by lia,show lo+(lo+m) - 1 - (lo+j)=lo+(m - 1 - j) by lia];exact this
theorem Ue{a:Array Keyed}{lo i m:Nat}(hz:lo+m<=a.size)(hi:i<=m)(h:∀ j,i<=j->j<m->rk r a (lo+j)=rk r a (lo+m - 1))(t:Nat):rk r (mirror a (lo+i) (lo+m) ((lo+m - (lo+i)) / 2)) t=rk r a t:=by
 rw[Jz hz];split
 ·have e1:=h (t - lo) (by omega) (by omega);have e2:=h (lo+i+(lo+m) - 1 - t - lo) (by omega) (by omega);rw[show lo+(t - lo)=t by lia] at e1;rw[show lo+(lo+i+(lo+m) - 1 - t - lo)=lo+i+(lo+m) - 1 - t by lia] at e2;rw[e1,e2]
 ·rfl
theorem Zcb(C:Cmp prog w A E s κ dom r){lo nrem:Nat}{Q:Option Nat->SortSt->Prop}{st:SortSt}(hκ:kindOf st=κ)(hd:∀ x∈arrOf st,dom x)(hz:lo+nrem<=(arrOf st).size)(h1:1<=nrem)
  (k:∀ m st',Sg st lo nrem st'->1<=m->m<=nrem->Up r (arrOf st') lo m->Q (some m) st'):wpS (model prog w) A E s (countRun' lo nrem) Q st:=by
 unfold countRun';k_delta "countRun"
 dsimp only;refine oAv<|wpS_mono (Jq (st:=st) (lo:=lo) (r:=r) (oAl 1) h1 (λ i j hij hj=>by rw[show i=j by lia];exact oAl _) ?_) ?_
 ·intro x m Q m1 m2 k1 k2;dsimp only;refine oAv<|Z8 C (by first | exact hκ5 | exact hκ) (by first | exact hd5 | exact hd) (by lia) (by lia) ?_;dsimp only;refine ifP (λ q=>oAw<|k1<|oAj q)<|λ q=>oAw<|k2 ?_;rw[decide_eq_true_eq] at q;lia
 rintro c st' ⟨rfl,n,rfl,n1,n2,n3,n4⟩;dsimp only;refine ifB (λ e=>oAw<|k _ _ .refl n1 n2 n3)<|λ ne=>?_;have n4:=n4 (by lia);refine ifP (λ hn=>?_)<|λ hn=>?_
 ·refine oAv<|Z8 C hκ hd (by lia) (by lia) ?_;dsimp only;refine ifP (λ q=>oAw<|k _ _ .refl n1 n2 n3)<|λ q=>?_;rw[decide_eq_true_eq] at q;have all:∀ j,0<=j->j<n->rk r (arrOf st') (lo+j)=rk r (arrOf st') (lo+n - 1):=λ j _ hj=>by
   have a1:=n3 0 j (by lia) hj;have a2:=n3 j (n - 1) (by lia) (by lia);rw[show lo+(n - 1)=lo+n - 1 by lia] at a2;rw[add_zero] at a1;lia
  refine oAv<|YN ?_;have g3:=Sg.rev (st:=st') (lo:=lo) (n:=nrem) (i:=lo) (j:=lo+n) (by lia) (by lia) (by lia);have er:=λ t=>Ue (r:=r) (a:=arrOf st') (lo:=lo) (i:=0) (m:=n) (by lia) (by lia) all t;simp only[add_zero] at er;have d3:Down r (arrOf<|setArr st'<|mirror (arrOf st') lo (lo+n)<|(lo+n - lo) / 2) lo (n+1):=by
   refine Down.succ (λ i j hij hj=>?_) n1 ?_
   ·show rk r (mirror _ _ _ _) _<=rk r (mirror _ _ _ _) _;rw[er,er,all i (by lia) (by lia),all j (by lia) (by lia)];exact oAl _
   ·show rk r (mirror _ _ _ _) _<=rk r (mirror _ _ _ _) _;rw[er,er];lia
  generalize setArr st' (mirror (arrOf st') lo (lo+n)<|(lo+n - lo) / 2)=st3 at *;refine oAv<|wpS_lift<|wpAny_rule ⟨rfl,?_⟩;refine oAv<|wpS_mono (V2 (lo:=lo) (r:=r) (by lia) (by lia) hz g3 d3 ?_) ?_
  ·intro x m q st6 Q g6 m1 m2 k1 k2 k3;have z6:=g6.size;dsimp only;refine oAv<|Z8 C (g6.kind.trans hκ) (g6.dom hd) (by lia) (by lia) ?_;dsimp only;refine ifP (λ c=>?_) (λ c=>?_)
   ·have c:=oAj c;exact ifP (λ c2=>oAv<|YN<|oAw<|(k1 c).1 c2)<|λ c2=>oAw<|(k1 c).2 (by lia)
   ·rw[decide_eq_true_eq] at c;refine oAv<|Z8 C (g6.kind.trans hκ) (g6.dom hd) (by lia) (by lia) ?_;dsimp only;refine ifP (λ c2=>oAw<|k2<|oAj c2)<|λ c2=>oAw<|k3 ?_;rw[decide_eq_true_eq] at c2;lia
  ·rintro c st4 ⟨g4,m4,q4,rfl,m41,m42,d4,q41,e4⟩;have z4:=g4.size;dsimp only;refine ifP (λ q0=>?_) (λ q0=>?_)
   ·refine oAv<|YN ?_;have ei:lo+m4 - (q4+1)=lo+(m4 - (q4+1)):=by lia
    rw[ei];have g7:=g4.trans<|Sg.rev (st:=st4) (lo:=lo) (n:=nrem) (i:=lo+(m4 - (q4+1))) (j:=lo+m4) (by lia) (by lia) (by lia);have d7:Down r (arrOf<|setArr st4<|mirror (arrOf st4) (lo+(m4 - (q4+1))) (lo+m4)<|(lo+m4 - (lo+(m4 - (q4+1)))) / 2) lo m4:=λ i j hij hj=>by
     show rk r (mirror _ _ _ _) _<=rk r (mirror _ _ _ _) _;rw[Ue (by lia) (by lia) e4,Ue (by lia) (by lia) e4];exact d4 i j hij hj
    generalize setArr st4 (mirror (arrOf st4) (lo+(m4 - (q4+1))) (lo+m4)<|(lo+m4 - (lo+(m4 - (q4+1)))) / 2)=st7 at *;refine oAv<|YN ?_;have z4':=(g7).size;have g5:=(g7).trans<|Sg.rev (st:=st7) (lo:=lo) (n:=nrem) (i:=lo) (j:=lo+m4) (by lia) (by lia) (by lia);have u5:Up r (arrOf<|setArr st7<|mirror (arrOf st7) lo (lo+m4)<|(lo+m4 - lo) / 2) lo m4:=JW (by lia) d7;have hκ5:=(g5).kind.trans hκ;have hd5:=g5.dom hd;have hz5:=g5.size;generalize setArr st7 (mirror (arrOf st7) lo (lo+m4)<|(lo+m4 - lo) / 2)=st5 at *;refine oAv<|wpS_mono (Jq (st:=st5) (lo:=lo) (r:=r) (by lia) (by lia) u5 ?_) ?_
    ·intro x m Q m1 m2 k1 k2;dsimp only;refine oAv<|Z8 C (by first | exact hκ5 | exact hκ) (by first | exact hd5 | exact hd) (by lia) (by lia) ?_;dsimp only;refine ifP (λ q=>oAw<|k1<|oAj q)<|λ q=>oAw<|k2 ?_;rw[decide_eq_true_eq] at q;lia
    ·rintro c st' ⟨rfl,m5,rfl,v1,v2,v3,v4⟩;exact oAw<|k _ _ g5 (by lia) v2 v3
   ·refine oAv<|YN ?_;have z4':=(g4).size;have g5:=(g4).trans<|Sg.rev (st:=st4) (lo:=lo) (n:=nrem) (i:=lo) (j:=lo+m4) (by lia) (by lia) (by lia);have u5:Up r (arrOf<|setArr st4<|mirror (arrOf st4) lo (lo+m4)<|(lo+m4 - lo) / 2) lo m4:=JW (by lia) d4;have hκ5:=(g5).kind.trans hκ;have hd5:=g5.dom hd;have hz5:=g5.size;generalize setArr st4 (mirror (arrOf st4) lo (lo+m4)<|(lo+m4 - lo) / 2)=st5 at *;refine oAv (wpS_mono (Jq (st:=st5) (lo:=lo) (r:=r) (by lia) (by lia) u5 ?_) ?_)
    ·intro x m Q m1 m2 k1 k2;dsimp only;refine oAv<|Z8 C (by first | exact hκ5 | exact hκ) (by first | exact hd5 | exact hd) (by lia) (by lia) ?_;dsimp only;refine ifP (λ q=>oAw<|k1<|oAj q)<|λ q=>oAw<|k2 ?_;rw[decide_eq_true_eq] at q;lia
    ·rintro c st' ⟨rfl,m5,rfl,v1,v2,v3,v4⟩;exact oAw<|k _ _ g5 (by lia) v2 v3
 ·have d3:Down r (arrOf st') lo (n+1):=Down.succ (λ i j hij hj=>by rw[show i=j by lia];exact oAl _) n1 (by lia)
  have g3:Sg st' lo nrem st':=.refl;refine oAv<|wpS_lift<|wpAny_rule ⟨rfl,?_⟩;refine oAv<|wpS_mono (V2 (lo:=lo) (r:=r) (by lia) (by lia) hz g3 d3 ?_) ?_
  ·intro x m q st6 Q g6 m1 m2 k1 k2 k3;have z6:=g6.size;dsimp only;refine oAv<|Z8 C (g6.kind.trans hκ) (g6.dom hd) (by lia) (by lia) ?_;dsimp only;refine ifP (λ c=>?_) (λ c=>?_)
   ·have c:=oAj c;exact ifP (λ c2=>oAv<|YN<|oAw<|(k1 c).1 c2)<|λ c2=>oAw<|(k1 c).2 (by lia)
   ·rw[decide_eq_true_eq] at c;refine oAv<|Z8 C (g6.kind.trans hκ) (g6.dom hd) (by lia) (by lia) ?_;dsimp only;refine ifP (λ c2=>oAw<|k2<|oAj c2)<|λ c2=>oAw<|k3 ?_;rw[decide_eq_true_eq] at c2;lia
  ·rintro c st4 ⟨g4,m4,q4,rfl,m41,m42,d4,q41,e4⟩;have z4:=g4.size;dsimp only;refine ifP (λ q0=>?_) (λ q0=>?_)
   ·refine oAv<|YN ?_;have ei:lo+m4 - (q4+1)=lo+(m4 - (q4+1)):=by lia
    rw[ei];have g7:=g4.trans<|Sg.rev (st:=st4) (lo:=lo) (n:=nrem) (i:=lo+(m4 - (q4+1))) (j:=lo+m4) (by lia) (by lia) (by lia);have d7:Down r (arrOf<|setArr st4<|mirror (arrOf st4) (lo+(m4 - (q4+1))) (lo+m4)<|(lo+m4 - (lo+(m4 - (q4+1)))) / 2) lo m4:=λ i j hij hj=>by
     show rk r (mirror _ _ _ _) _<=rk r (mirror _ _ _ _) _;rw[Ue (by lia) (by lia) e4,Ue (by lia) (by lia) e4];exact d4 i j hij hj
    generalize setArr st4 (mirror (arrOf st4) (lo+(m4 - (q4+1))) (lo+m4)<|(lo+m4 - (lo+(m4 - (q4+1)))) / 2)=st7 at *;refine oAv<|YN ?_;have z4':=(g7).size;have g5:=(g7).trans<|Sg.rev (st:=st7) (lo:=lo) (n:=nrem) (i:=lo) (j:=lo+m4) (by lia) (by lia) (by lia);have u5:Up r (arrOf<|setArr st7<|mirror (arrOf st7) lo (lo+m4)<|(lo+m4 - lo) / 2) lo m4:=JW (by lia) d7;have hκ5:=(g5).kind.trans hκ;have hd5:=g5.dom hd;have hz5:=g5.size;generalize setArr st7 (mirror (arrOf st7) lo (lo+m4)<|(lo+m4 - lo) / 2)=st5 at *;refine oAv<|wpS_mono (Jq (st:=st5) (lo:=lo) (r:=r) (by lia) (by lia) u5 ?_) ?_
    ·intro x m Q m1 m2 k1 k2;dsimp only;refine oAv<|Z8 C (by first | exact hκ5 | exact hκ) (by first | exact hd5 | exact hd) (by lia) (by lia) ?_;dsimp only;refine ifP (λ q=>oAw<|k1<|oAj q)<|λ q=>oAw<|k2 ?_;rw[decide_eq_true_eq] at q;lia
    ·rintro c st' ⟨rfl,m5,rfl,v1,v2,v3,v4⟩;exact oAw<|k _ _ g5 (by lia) v2 v3
   ·refine oAv<|YN ?_;have z4':=(g4).size;have g5:=(g4).trans<|Sg.rev (st:=st4) (lo:=lo) (n:=nrem) (i:=lo) (j:=lo+m4) (by lia) (by lia) (by lia);have u5:Up r (arrOf<|setArr st4<|mirror (arrOf st4) lo (lo+m4)<|(lo+m4 - lo) / 2) lo m4:=JW (by lia) d4;have hκ5:=(g5).kind.trans hκ;have hd5:=g5.dom hd;have hz5:=g5.size;generalize setArr st4 (mirror (arrOf st4) lo (lo+m4)<|(lo+m4 - lo) / 2)=st5 at *;refine oAv (wpS_mono (Jq (st:=st5) (lo:=lo) (r:=r) (by lia) (by lia) u5 ?_) ?_)
    ·intro x m Q m1 m2 k1 k2;dsimp only;refine oAv<|Z8 C (by first | exact hκ5 | exact hκ) (by first | exact hd5 | exact hd) (by lia) (by lia) ?_;dsimp only;refine ifP (λ q=>oAw<|k1<|oAj q)<|λ q=>oAw<|k2 ?_;rw[decide_eq_true_eq] at q;lia
    ·rintro c st' ⟨rfl,m5,rfl,v1,v2,v3,v4⟩;exact oAw<|k _ _ g5 (by lia) v2 v3
end TS
namespace TS
open PySem PyProof.Rows
variable {prog:Program}{w:World}{A:Around}{E:zVP}{s:Shared}{κ:SortKind}{dom:Keyed->Prop}{r:Keyed->Nat}
theorem ZdC{n:Nat}(h2:2<=n)(hn:n<64):minRun' n n 0=n:=by
 obtain⟨f,hf⟩:∃ f,n=f+1+1:=⟨n - 2,by lia⟩;have e:minRun' n n 0=if n<64 then n+0 else minRun' (n - 1) (n / 2) (max 0<|n % 2):=by
  rw[hf,minRun'_succ];rfl
 rw[e,if_pos hn,add_zero]
def Runs(r:Keyed->Nat)(n lo:Nat)(st:SortSt):Prop:=pendingOf st=#[(0,lo,0)]/\Up r (arrOf st) 0 lo
theorem Zcc{a:Array Keyed}{m:Nat}(hm:m<=a.size)(h:Up r a 0 m):Srt r (a.toList.take m):=by
 refine List.pairwise_iff_getElem.2 λ i j hi hj hij=>?_;rw[length_take] at hi hj;have:=h i j (by lia) (by lia);rw[zero_add,zero_add,Vf (by lia),Vf (by lia)] at this;simpa [Le] using this
structure Bs(κ:SortKind)(st0 st:SortSt):Prop where
 kind:kindOf st=κ
 fail:failedOf st=none
 perm:(arrOf st).Perm (arrOf st0)
theorem Bs.size{st0 st:SortSt}(h:Bs κ st0 st):(arrOf st).size=(arrOf st0).size:=h.perm.size_eq
theorem Bs.doms{st0 st:SortSt}(h:Bs κ st0 st)(hd:∀ x∈arrOf st0,dom x):∀ x∈arrOf st,dom x:=λ x hx=>hd x (by
 have:=(Array.perm_iff_toList_perm.1 h.perm).mem_iff (a:=x);rw[mem_toList_iff,mem_toList_iff] at this;exact this.1 hx)
theorem Bs.sg{st0 st1 st:SortSt}{lo n:Nat}(h:Bs κ st0 st1)(g:Sg st1 lo n st):Bs κ st0 st:=⟨g.kind.trans h.kind,g.fail.trans h.fail,g.perm.trans h.perm⟩
theorem ZdD(C:Cmp prog w A E s κ dom r){Q:Unit->SortSt->Prop}{st:SortSt}(hκ:kindOf st=κ)(hf:failedOf st=none)(hp:pendingOf st=#[])(hd:∀ x∈arrOf st,dom x)(h2:2<=(arrOf st).size)(hn:(arrOf st).size<64)
  (k:∀ st',failedOf st'=none->(arrOf st').toList.Perm (arrOf st).toList->Srt r (arrOf st').toList->Q () st'):wpS (model prog w) A E s sortRuns' Q st:=by
 rw[sortRuns'_eq];refine oAv<|wpS_get ?_;dsimp only;have r1:=ZdC h2 hn;generalize minRun' (arrOf st).size (arrOf st).size 0=mr at *;generalize hN:(arrOf st).size=n at *;refine oAv (wpS_mono (wpS_forRange
  (I:=λ x c st1=>∃ lo,c=(none,lo)/\Bs κ st st1/\((x=0/\lo=0/\pendingOf st1=#[])\/(x=1/\mr<=lo/\lo<=n/\pendingOf st1=#[(0,lo,0)]/\Up r (arrOf st1) 0 lo)\/(2<=x/\lo=n/\Runs r n n st1)))
  (Q:=λ c st1=>c=(none,n)/\Bs κ st st1/\Runs r n n st1) ?step ?fin ⟨0,rfl,⟨hκ,hf,.refl _⟩,.inl ⟨rfl,rfl,hp⟩⟩) ?post)
 case fin=>
  rintro c st1 ⟨lo,rfl,b,⟨h,_⟩ | ⟨h,_⟩ | ⟨_,rfl,h⟩⟩
  ·lia
  ·lia
  ·exact⟨rfl,b,h⟩
 case step=>
  rintro x c st1 _ hx ⟨lo,rfl,b,cs⟩
  try dsimp only
  have bz:=b.size;refine ifP (λ hlo=>oAw ?_)<|λ hlo=>?_
  ·rcases cs with ⟨rfl,rfl,hp1⟩ | ⟨rfl,l1,l2,hp1,up1⟩ | ⟨x2,rfl,h⟩
   ·lia
   ·have:lo=n:=by lia
    subst this;exact⟨rfl,b,⟨hp1,up1⟩⟩
   ·exact⟨rfl,b,h⟩
  refine oAv<|Zcb C b.kind (b.doms hd) (by lia) (by lia)<|λ m st2 g2 m1 m2 u2=>?_;dsimp only;refine ifP (λ hm=>?_)<|λ hm=>?_
  ·refine oAv<|wpS_lift<|wpAny_rule ⟨rfl,?_⟩;have gz:=g2.size;refine oAv<|ZaZ C (g2.kind.trans b.kind) (g2.dom<|b.doms hd) (by lia) (by lia) u2<|λ st3 g3' u3=>?_;rw[if_neg (by decide)];have g3:=g2.trans<|g3'.wide (m:=n - lo) (by lia);have:lo=0\/mr<=lo:=by rcases cs with ⟨_,h,_⟩ | ⟨_,h,_⟩ | ⟨_,h,_⟩<;>lia
   have b3:=b.sg g3;have p3:=(g3).pend;refine oAv<|wpS_get ?_
   rcases cs with ⟨rfl,rfl,hp1⟩ | ⟨rfl,l1,l2,hp1,up1⟩ | ⟨x2,rfl,_⟩
   ·rw[hp1] at p3;have eb:(pendingOf st3).back?=none:=by rw[p3];rfl
    rw[eb];dsimp only;refine oAv<|wpS_modify<|oAw ?_;refine⟨_,rfl,⟨b3.kind,b3.fail,b3.perm⟩,.inr<|.inl ⟨rfl,by lia,by lia,?_,?_⟩⟩
    ·show (pendingOf st3).push _=_;rw[p3,zero_add];rfl
    ·rw[zero_add];exact u3
   ·lia
   ·lia
  ·have b3:=b.sg g2;have p3:=(g2).pend;refine oAv (wpS_get ?_)
   rcases cs with ⟨rfl,rfl,hp1⟩ | ⟨rfl,l1,l2,hp1,up1⟩ | ⟨x2,rfl,_⟩
   ·rw[hp1] at p3;have eb:(pendingOf st2).back?=none:=by rw[p3];rfl
    rw[eb];dsimp only;refine oAv<|wpS_modify<|oAw ?_;refine⟨_,rfl,⟨b3.kind,b3.fail,b3.perm⟩,.inr<|.inl ⟨rfl,by lia,by lia,?_,?_⟩⟩
    ·show (pendingOf st2).push _=_;rw[p3,zero_add];rfl
    ·rw[zero_add];exact u2
   ·lia
   ·lia
 case post=>
  rintro c st1 ⟨rfl,b,h⟩;have bz:=b.size;dsimp only;refine oAv (wpS_mono (wpS_forRange (I:=λ x c st2=>c=(none,())/\((x=0/\st2=st1)\/(1<=x/\failedOf st2=none/\(arrOf st2).toList.Perm (arrOf st).toList/\Srt r (arrOf st2).toList/\(pendingOf st2).size<=1)))
   (Q:=λ c st2=>c=(none,())/\failedOf st2=none/\(arrOf st2).toList.Perm (arrOf st).toList/\Srt r (arrOf st2).toList) ?s2 ?f2 ⟨rfl,.inl ⟨rfl,rfl⟩⟩) ?p2)
  case p2=>
   rintro c st2 ⟨rfl,q1,q2,q3⟩;exact oAw<|k st2 q1 q2 q3
  case f2=>
   rintro c st2 ⟨rfl,⟨h,_⟩ | ⟨_,q1,q2,q3,_⟩⟩
   ·lia
   ·exact⟨rfl,q1,q2,q3⟩
  case s2=>
   have pl:=Array.perm_iff_toList_perm.1 b.perm;rintro x c st2 _ hx ⟨rfl,⟨rfl,rfl⟩ | ⟨_,q1,q2,q3,q4⟩⟩
   ·refine oAv (wpS_get ?_)
    try dsimp only
    obtain⟨hp1,u1⟩:=h;rw[if_pos (by rw[hp1];show 1<=1;lia)]
    refine oAw ⟨rfl,b.fail,pl,?_⟩;have:=Zcc (by lia) u1
    rwa [take_of_length_le (by rw[length_toList];lia)] at this
   ·refine oAv (wpS_get ?_)
    try dsimp only
    rw[if_pos q4];exact oAw ⟨rfl,q1,q2,q3⟩
end TS
namespace TS
open PySem PyProof.Rows
variable {prog:Program}{w:World}{A:Around}{E:zVP}{s:Shared}{κ:SortKind}{dom:Keyed->Prop}{r:Keyed->Nat}
theorem Uf(vs:List Value):(pairsOf vs).toList=vs.map λ v=>(v,v):=by
 rw[pairsOf_toList]
 induction vs with
 |nil=>rfl
 |cons v vs ih=>rw[List.zip_cons_cons,map_cons,ih]
def Old(s:Shared)(a:Addr)(s':Shared):Prop:=∀ b o,b≠a->s.heap.get? b=some o->s'.heap.get? b=some o
def zu(prog:Program)(w:World)(E:zVP)(s:Shared)(a:Addr)(vs:List Value)(κ:SortKind)(dom:Keyed->Prop)(r:Keyed->Nat):Prop:=
 ∀ (A':Around) (s':Shared),Old s a s'->(∀ Q:SortKind->Shared->Prop,2<=vs.length->Q κ s'->wpAny (model prog w) A' (keyKind' vs.toArray) Q E s')/\Cmp prog w A' E s' κ dom r
theorem ZdE{a:Addr}{vs:List Value}{n:Nat}{P:PySem.Fin->Shared->Prop}(hoA:s.heap.get? a=some (seqObj "list" vs.toArray n))(hv:vs.length<64)(hdm:∀ v∈vs,dom (v,v))(hB:zu prog w E s a vs κ dom r)
  (hk:∀ out:List Keyed,out.Perm (vs.map λ v=>(v,v))->Srt r out->P (.done (.ret .none)) { s with heap:=sortedHeap s.heap a vs (out.map (·.2)).toArray }) :
  wpAny (model prog w) A (Builtin.«list.sort» ⟨[.ref a],[]⟩) P E s:=by
 have hlt:a<s.heap.objs.size:=oAf hoA;obtain⟨ep,hoE⟩:∃ ep,(s.heap.update a<|Obj.mapSeq λ _=>#[]).get? a=some (seqObj "list" #[] ep):=⟨_,get?_update_seq hoA λ _=>#[]⟩;have keep:Old s a { s with heap:=((s.heap.update a<|Obj.mapSeq λ _=>#[]).push<|seqObj "tuple" vs.toArray 0).push (seqObj "list" #[] 0) }:=λ b o hb ho=>by
  refine oAd _<|oAd _ ?_;rw[Heap.get?_update_ne _ _ _ _ hb];exact ho
 have hoL:(((s.heap.update a<|Obj.mapSeq λ _=>#[]).push<|seqObj "tuple" vs.toArray 0).push<|seqObj "list" #[] 0).get? a=some (seqObj "list" #[] ep):=oAd _<|oAd _ hoE;rw[list_sort_plain];refine oAa<|listItems_at (xs:=vs.toArray) hoA rfl ?_;refine oAa<|listUpdate_at (xs:=vs.toArray) hoA rfl ?_ (by rw[size_toArray,sizeLine_eq];lia)<|zero_le _
 refine oAa<|seqEpoch_at (n:=ep) hoE rfl ?_;refine oAa<|wpAny_newTuple ?_ (by show vs.length<=_;rw[sizeLine_eq];lia)
 refine oAa<|wpAny_newList ?_<|zero_le _;refine wpAny_holding ?_;show wpAny (model prog w) A _ P E { s with heap:=((s.heap.update a<|Obj.mapSeq λ _=>#[]).push<|seqObj "tuple" vs.toArray 0).push (seqObj "list" #[] 0) };dsimp only;have fin:∀ (st':SortSt),failedOf st'=none->(arrOf st').toList.Perm (pairsOf vs).toList->Srt r (arrOf st').toList->P (.done<|.ret .none) { s with heap:=sortedHeap s.heap a vs ((arrOf st').map (·.2)) }:=λ st' _ h1 h2=>by
  have:=hk (arrOf st').toList (by rw[<- Uf];exact h1) h2
  rwa [show (List.map (·.2) (arrOf st').toList).toArray=(arrOf st').map (·.2) by rw[<- Array.toList_map]] at this
 obtain⟨kd,C⟩:=hB A _ keep;by_cases h2:vs.toArray.size<2
 ·rw[if_pos h2,if_pos h2];refine oAa<|oAb ?_;rw[StateT.run_pure];refine oAa<|oAb ?_;dsimp only;refine oAa<|seqEpoch_at (n:=ep) hoL rfl ?_;refine oAa (listUpdate_at (xs:=#[]) hoL rfl ?_ (zero_le _) (by rw[Array.size_map];show (pairsOf vs).size<=_;rw[pairsOf_size,sizeLine_eq];lia))
  simp only[bne_self_eq_false,false_eq_true,if_false];refine oAb<|fin (SortSt.mk' general' (pairsOf vs) #[] 7 none) rfl (List.Perm.refl _) ?_;show Srt r (pairsOf vs).toList;rw[Uf]
  match vs,h2 with
  |[],_=>exact List.Pairwise.nil
  |[v],_=>exact List.pairwise_singleton _ _
  |v::u::t,h2=>simp at h2;lia
 ·rw[if_neg h2,if_neg h2];rw[size_toArray] at h2;refine oAa<|kd _ (by lia) ?_;have run:=ZdD (st:=SortSt.mk' κ (pairsOf vs) #[] 7 none) (Q:=λ _ st'=>failedOf st'=none/\(arrOf st').toList.Perm (pairsOf vs).toList/\Srt r (arrOf st').toList) C rfl rfl rfl (λ x hx=>?_) (by show 2<=(pairsOf vs).size;rw[pairsOf_size];lia) (by show (pairsOf vs).size<64;rw[pairsOf_size];exact hv) (λ st' a1 a2 a3=>⟨a1,a2,a3⟩)
  ·refine oAa<|oAc run ?_ λ _ _ e=>e;rintro⟨⟨⟩,st'⟩ s' ⟨rfl,hf,hp,hs⟩;have hsz:((arrOf st').map (·.2)).size=vs.length:=by
    rw[Array.size_map,<-length_toList,hp.length_eq,length_toList,pairsOf_size]
   dsimp only;refine oAa<|seqEpoch_at (n:=ep) hoL rfl ?_;refine oAa<|listUpdate_at (xs:=#[]) hoL rfl ?_ (zero_le _)<|oAq (le_of_eq hsz) (by rw[sizeLine_eq];lia)
   rw[hf];simp only[bne_self_eq_false,false_eq_true,if_false];exact oAb<|fin st' hf hp hs
  ·have hx':x∈(pairsOf vs).toList:=Array.mem_toList_iff.2 hx;rw[Uf] at hx';obtain⟨v,hv1,rfl⟩:=List.mem_map.1 hx';exact hdm v hv1
theorem Wl{l:Addr}{vs:List Value}{o:Obj}{n:Nat}{Q:List Value->Shared->Prop}(ho:s.heap.get? l=some o)(hc:o.cls=.type "tuple")(hd:o.data=.seq vs.toArray n)
  (h:Q vs { s with heap:=(s.heap.push (seqObj "list" #[] 0)).update s.heap.objs.size (Obj.mapSeq (·++vs.toArray)) })(hsz:vs.length<=sizeLine) :
  wpAny (model prog w) A (collect (.ref l)) Q E s:=by
 unfold collect;refine oAa<|wpAny_runValue<|codeAny_builtin entry_proto_collect' ?_;show wpAny _ _ (do again (.builtin "list.__iadd__" ⟨[<- newList [],.ref l],[]⟩)) _ _ s;refine oAa<|wpAny_newList<|oAb ⟨Code.quiet_builtin _ (by decide +kernel),codeAny_builtin entry_list_iadd' ?_⟩;show wpAny _ _ (Builtin.List.listExtendWith (.ref s.heap.objs.size) (.ref l)<|.ref s.heap.objs.size) _ _ { s with heap:=s.heap.push (seqObj "list" #[] 0) };unfold Builtin.List.listExtendWith;have ho':(s.heap.push<|seqObj "list" #[] 0).get? l=some o:=oAd _ ho;refine oAa<|wpAny_typeOf (T:="tuple") ⟨o,ho',hc⟩ ?_;have ht:(Value.type "tuple"==Value.type "tuple")=true:=by rfl
 rw[if_pos (by rw[ht];simp)]
 refine oAa<|listItems_at ho' hd ?_;refine oAa<|listItems_at (xs:=#[]) (n:=0) (oAe _ rfl) rfl ?_;rw[if_neg (by simp)];refine oAa<|listUpdate_at (xs:=#[]) (n:=0) (oAe _ rfl) rfl ?_ (zero_le _) (by show (#[]++vs.toArray).size<=sizeLine+1;simp only[Array.size_append,size_toArray,length_nil];omega)
 refine oAb ?_;show wpAny (model prog w) A (do
   let o<-load s.heap.objs.size
   match o.data with
   |.seq xs _=>pure xs.toList
   |_=>unsupported "internal:collect") Q E { s with heap:=(s.heap.push<|seqObj "list" #[] 0).update s.heap.objs.size (Obj.mapSeq (·++vs.toArray)) }
 refine oAa<|wpAny_load (get?_update_seq (oAe _ rfl) _) ?_;show wpAny _ _ (pure ((#[]:Array Value)++vs.toArray).toList) Q E _;rw[show ((#[]:Array Value)++vs.toArray).toList=vs by simp];exact oAb h
abbrev Coll(prog:Program)(w:World)(E:zVP)(s:Shared)(l:Addr)(vs:List Value):Prop:=∀ (A:Around) (Q:List Value->Shared->Prop),Q vs { s with heap:=(s.heap.push (seqObj "list" #[] 0)).update s.heap.objs.size (Obj.mapSeq (·++vs.toArray)) }->wpAny (model prog w) A (collect (.ref l)) Q E s
theorem Za0{l:Addr}{vs:List Value}{Q:zVP}(hl:Coll prog w E s l vs)(hv:vs.length<64)(hdm:∀ v∈vs,dom (v,v))
  (hB:∀ s',(∀ b o,s.heap.get? b=some o->s'.heap.get? b=some o)->zu prog w E s' (s.heap.objs.size+1) vs κ dom r)
  (hk:∀ out:List Keyed,out.Perm (vs.map λ v=>(v,v))->Srt r out->Q (.ref (s.heap.objs.size+1)) { s with heap:=sortedAll s.heap vs (out.map (·.2)).toArray }) :
  wpAny (model prog w) A (call (.builtin "sorted") [.ref l]) Q E s:=by
 have hsz:((s.heap.push<|seqObj "list" #[] 0).update s.heap.objs.size (Obj.mapSeq (·++vs.toArray))).objs.size=s.heap.objs.size+1:=by
  rw[Heap.size_update,size_push']
 have hoN:(((s.heap.push<|seqObj "list" #[] 0).update s.heap.objs.size (Obj.mapSeq (·++vs.toArray))).push<|seqObj "list" vs.toArray 0).get? (s.heap.objs.size+1)=some (seqObj "list" vs.toArray 0):=by
  rw[<- hsz];exact oAe _ rfl
 refine Calls.call_function_entry kind_sorted plain_sorted entry_sorted (args_sorted1 _) ?_;unfold Builtin.«sorted»;refine oAa (m:=checkCount "sorted" 1 1 _)<|oAb ?_;refine oAa<|hl _ _ ?_;refine oAa<|wpAny_newList ?_ (by rw[sizeLine_eq];lia)
 show wpAny _ _ _ _ _ { s with heap:=((s.heap.push<|seqObj "list" #[] 0).update s.heap.objs.size (Obj.mapSeq (·++vs.toArray))).push (seqObj "list" vs.toArray 0) };rw[hsz];refine oAa<|wpAny_holding<|wpAny_call_entry slot_list_sort ⟨_,hoN,rfl⟩ entry_list_sort (ZdE (κ:=κ) (dom:=dom) (r:=r) hoN hv hdm (hB _ λ b o q=>?_) λ out a1 a2=>⟨_,rfl,?_⟩)<|args_list_sort _
 ·have hb:b<s.heap.objs.size:=oAf q;rw[Heap.get?_push_ne _ _ _ (by rw[hsz];exact oAp<|Nat.lt_succ_of_lt hb),Heap.get?_update_ne _ _ _ _<|oAp hb,Heap.get?_push_ne _ _ _<|oAp hb]
  exact q
 ·exact oAb ⟨_,rfl,hk out a1 a2⟩
end TS
namespace TS
open PySem PySem.W PyProof.Rows
noncomputable def sLt(x y:Str):Bool:=decide (x.cps.toList<y.cps.toList)
noncomputable def lexB:List Str->List Str->Bool
 |[],[]=>false
 |[],_::_=>true
 |_::_,[]=>false
 |x::xs,y::ys=>if x=y then lexB xs ys else sLt x y
theorem ZdF(x:Str):sLt x x=false:=oAh<|List.lt_irrefl _
theorem Ze6{x y z:Str}(h:sLt x y=true)(g:sLt y z=true):sLt x z=true:=oAi<|List.lt_trans (oAj h)<|oAj g
theorem zv{x y:Str}(h:sLt x y=false)(g:sLt y x=false):x=y:=by
 have h:=of_decide_eq_false h;have g:=of_decide_eq_false g;have e:x.cps.toList=y.cps.toList:=List.le_antisymm (List.not_lt.1 g)<|List.not_lt.1 h;cases x;cases y
 congr 1
 exact Array.toList_inj.1 e
theorem Y4:∀ l,lexB l l=false
 |[]=>rfl
 |x::l=>by rw[lexB,if_pos rfl,Y4 l]
theorem Y8:∀ {a b c:List Str},lexB a b=true->lexB b c=true->lexB a c=true
 |[],[],_,h,_=>nomatch h
 |[],_::_,[],_,g=>nomatch g
 |[],_::_,_::_,_,_=>rfl
 |_::_,[],_,h,_=>nomatch h
 |_::_,_::_,[],_,g=>nomatch g
 | x::xs,y::ys,z::zs,h,g=>by
  rw[lexB] at h g ⊢;by_cases e1:x=y
  ·subst e1;rw[if_pos rfl] at h;by_cases e2:x=z
   ·subst e2;rw[if_pos rfl] at g ⊢;exact Y8 h g
   ·rw[if_neg e2] at g ⊢;exact g
  ·rw[if_neg e1] at h;by_cases e2:y=z
   ·subst e2;rw[if_neg e1];exact h
   ·rw[if_neg e2] at g;have:=Ze6 h g;by_cases e3:x=z
    ·subst e3;rw[ZdF] at this;cases this
    ·rw[if_neg e3];exact this
theorem JK:∀ {a b:List Str},lexB a b=false->lexB b a=false->a=b
 |[],[],_,_=>rfl
 |[],_::_,h,_=>nomatch h
 |_::_,[],_,g=>nomatch g
 | x::xs,y::ys,h,g=>by
  rw[lexB] at h g;by_cases e:x=y
  ·subst e;rw[if_pos rfl] at h g;rw[JK h g]
  ·rw[if_neg e] at h;rw[if_neg<|λ z=>e z.symm] at g;exact absurd (zv h g) e
noncomputable def JA(all:List (List Str))(l:List Str):Nat:=all.countP λ m=>lexB m l
theorem W2{α:Type}{p q:α->Bool}:∀ {l:List α},(∀ x∈l,p x=true->q x=true)->(∃ x∈l,p x=false/\q x=true)->l.countP p<l.countP q
 |[],_,⟨x,hx,_⟩=>nomatch hx
 | a::l,h,⟨x,hx,h1,h2⟩=>by
  have hle:l.countP p<=l.countP q:=List.countP_mono_left λ y hy=>h y<|oAm _ hy;rw[List.countP_cons,List.countP_cons]
  rcases List.mem_cons.1 hx with rfl | hx
  ·rw[h1,h2];simp;omega
  ·have:=W2 (λ y hy=>h y<|oAm _ hy) ⟨x,hx,h1,h2⟩;have ha:=h a<|oAn ..;cases hp:p a with
   |false=>simp;omega
   |true=>rw[ha hp];simp;omega
theorem US{all:List (List Str)}{l m:List Str}(hl:l∈all)(hm:m∈all):JA all l<JA all m↔lexB l m=true:=by
 constructor
 ·intro h;cases q:lexB l m with
  |true=>rfl
  | false=>
   have:JA all m<=JA all l:=by
    refine List.countP_mono_left λ x hx h1=>?_;cases q2:lexB m l with
    |true=>exact Y8 h1 q2
    |false=>rw[JK q q2];exact h1
   lia
 ·intro h;exact W2 (λ x _ h1=>Y8 h1 h) ⟨l,hl,Y4 l,h⟩
inductive Txs:List Value->List Str->Prop
 |nil:Txs [] []
 |cons {x:Str}{t:Tok}{vs:List Value}{l:List Str}:Txs vs l->Txs (.str x t::vs) (x::l)
def Tx(h:Heap)(v:Value)(l:List Str):Prop:=∃ p o vs n,v=.ref p/\h.get? p=some o/\o.cls=.type "tuple"/\o.data=.seq vs n/\Txs vs.toList l
theorem Txs.one{vs:List Value}{l m:List Str}(h:Txs vs l)(g:Txs vs m):l=m:=by
 induction h generalizing m with
 |nil=>cases g;rfl
 | cons _ ih=>
  cases g with
  |cons g=>rw[ih g]
theorem Txs.len{vs:List Value}{l:List Str}(h:Txs vs l):vs.length=l.length:=by
 induction h with
 |nil=>rfl
 |cons _ ih=>rw[length_cons,length_cons,ih]
theorem Tx.one{h:Heap}{v:Value}{l m:List Str}(a:Tx h v l)(b:Tx h v m):l=m:=by
 obtain⟨p,o,vs,n,rfl,h1,h2,h3,h4⟩:=a;obtain⟨p',o',vs',n',e,g1,g2,g3,g4⟩:=b;cases e
 rw[h1] at g1;cases g1
 rw[h3] at g3;cases g3
 exact h4.one g4
open Classical in
noncomputable def rkT(h:Heap)(all:List (List Str))(k:Keyed):Nat:=if q:∃ l,Tx h k.1 l then JA all q.choose else 0
theorem Vh{h:Heap}{all:List (List Str)}{k:Keyed}{l:List Str}(t:Tx h k.1 l):rkT h all k=JA all l:=by
 have q:∃ l,Tx h k.1 l:=⟨l,t⟩;unfold rkT;rw[dif_pos q,q.choose_spec.one t]
variable {prog:Program}{w:World}{A:Around}{E:zVP}{s:Shared}
theorem zw{Q:Bool->Shared->Prop}{fin:Bool}:∀ {xs ys:List Value}{l m:List Str} (i:Nat),Txs xs l->Txs ys m->fin=decide (l.length<m.length)->Q (lexB l m) s->KatLex prog w A true fin Q (xs.zip ys) i s
 | [],[],_,_,i,.nil,.nil,hf,hq=>by
  refine kat_nil ?_;rw[hf];exact hq
 | [],_::_,_,_,i,.nil,.cons b,hf,hq=>by
  refine kat_nil ?_;rw[hf];rw[lexB] at hq;rw[oAi (by simp)];exact hq
 | _::_,[],_,_,i,.cons a,.nil,hf,hq=>by
  refine kat_nil ?_;rw[hf];rw[lexB] at hq;rw[oAh (by simp)];exact hq
 | _::_,_::_,_,_,i,@Txs.cons x t xs l a,@Txs.cons y u ys m b,hf,hq=>by
  rw[lexB] at hq;refine kat_cons<|wpAny_eqBool_str ?_;by_cases e:x=y
  ·rw[oAi e];rw[if_pos e] at hq;refine kat_yes<|zw (i+1) a b ?_ hq;rw[hf,length_cons,length_cons];exact decide_eq_decide.2 (by lia)
  ·rw[oAh e];rw[if_neg e] at hq;refine kat_no ?_;cases i with
   |zero=>exact oneLt_str hq
   | succ i=>
    exact kat_one _ _<|PySem.P.lt_str hq
theorem Ze7{all:List (List Str)}{h:Heap}(hd:∀ v l,Tx h v l->Tx s.heap v l):Cmp prog w A E s (tuples' true) (λ k=>∃ l∈all,Tx h k.1 l) (rkT h all) where
 lt:=by
  rintro x y Q st ⟨l,hl,tx⟩ ⟨m,hm,ty⟩ hk hq;rw[Vh tx,Vh ty] at hq;have e:decide (JA all l<JA all m)=lexB l m:=by
   cases q:lexB l m with
   |true=>exact oAi<|(US hl hm).mpr q
   |false=>exact oAh λ z=>by rw[(US hl hm).mp z] at q;cases q
  rw[e] at hq;obtain⟨p,o,vs,n,e1,h1,h2,h3,h4⟩:=hd _ _ tx;obtain⟨p',o',vs',n',e2,g1,g2,g3,g4⟩:=hd _ _ ty;rw[lt'_eq];refine oAv<|wpS_get ?_;rw[hk,e1,e2];refine oAv<|wpS_lift<|wpAny_attempt<|kat_lt h1 h3 g1 g3<|zw 0 h4 g4 ?_ ⟨rfl,?_⟩
  ·rw[<- length_toList,<-length_toList,h4.len,g4.len]
  ·exact oAw hq
inductive TxsL(h:Heap):List Value->List (List Str)->Prop
 |nil:TxsL h [] []
 |cons {v:Value}{l:List Str}{vs:List Value}{ls:List (List Str)}:Tx h v l->l≠[]->TxsL h vs ls->TxsL h (v::vs) (l::ls)
theorem TxsL.mono{h h':Heap}{vs:List Value}{ls:List (List Str)}(t:TxsL h vs ls)(k:∀ v l,Tx h v l->Tx h' v l):TxsL h' vs ls:=by
 induction t with
 |nil=>exact .nil
 |cons a b _ ih=>exact .cons (k _ _ a) b ih
theorem TxsL.mem{h:Heap}{vs:List Value}{ls:List (List Str)}(t:TxsL h vs ls):∀ v∈vs,∃ l∈ls,Tx h v l:=by
 induction t with
 |nil=>intro v hv;cases hv
 | cons a b _ ih=>
  intro v hv
  rcases List.mem_cons.1 hv with rfl | hv
  ·exact⟨_,oAn ..,a⟩
  ·obtain⟨l,h1,h2⟩:=ih v hv;exact⟨l,oAm _ h1,h2⟩
theorem TxsL.tups{h:Heap}{vs:List Value}{ls:List (List Str)}(t:TxsL h vs ls):∃ fs,KatTups h vs fs/\fs.length=vs.length/\∀ f∈fs,∃ x u,f=Value.str x u:=by
 induction t with
 |nil=>exact⟨[],KatTups.nil,rfl,λ f hf=>nomatch hf⟩
 | cons a b _ ih=>
  obtain⟨fs,h1,h2,h3⟩:=ih;obtain⟨p,o,xs,n,rfl,g1,g2,g3,g4⟩:=a;generalize he:xs.toList=us at g4;cases g4 with
  |nil=>exact absurd rfl b
  | @cons x u us' l' _=>
   refine⟨.str x u::fs,KatTups.cons g1 g2 g3 ?_ h1,by rw[length_cons,length_cons,h2],λ f hf=>?_⟩
   ·rw[<- getElem?_toList,he];rfl
   ·rcases List.mem_cons.1 hf with rfl | hf
    ·exact⟨x,u,rfl⟩
    ·exact h3 f hf
theorem Tx.keep{h h':Heap}{v:Value}{l:List Str}(t:Tx h v l)(k:∀ p o,h.get? p=some o->o.cls=.type "tuple"->h'.get? p=some o):Tx h' v l:=by
 obtain⟨p,o,vs,n,rfl,h1,h2,h3,h4⟩:=t;exact⟨p,o,vs,n,rfl,k p o h1 h2,h2,h3,h4⟩
theorem TxsL.perm{h:Heap}{vs us:List Value}(p:us.Perm vs):∀ {ls:List (List Str)},TxsL h vs ls->∃ ms,TxsL h us ms/\ms.Perm ls:=by
 induction p with
 |nil=>intro ls t;exact⟨ls,t,.refl _⟩
 | cons x _ ih=>
  intro ls t;cases t with
  | cons a b t=>
   obtain⟨ms,h1,h2⟩:=ih t;exact⟨_,.cons a b h1,h2.cons _⟩
 | swap x y l=>
  intro ls t;cases t with
  | cons a b t=>
   cases t with
   |cons c d t=>exact⟨_,.cons c d<|.cons a b t,List.Perm.swap ..⟩
 | trans _ _ ih1 ih2=>
  intro ls t;obtain⟨ms,h1,h2⟩:=ih2 t;obtain⟨ks,g1,g2⟩:=ih1 h1;exact⟨ks,g1,g2.trans h2⟩
theorem TxsL.has{h:Heap}:∀ {out:List Keyed}{ls:List (List Str)},TxsL h (out.map (·.1)) ls->∀ m∈ls,∃ k∈out,Tx h k.1 m
 |[],_,.nil,m,hm=>nomatch hm
 | k::out,_,.cons a b t,m,hm=>by
  rcases List.mem_cons.1 hm with rfl | hm
  ·exact⟨k,oAn ..,a⟩
  ·obtain⟨k3,h3,h4⟩:=t.has m hm;exact⟨k3,oAm _ h3,h4⟩
theorem TxsL.srt{h:Heap}{all:List (List Str)}:∀ {out:List Keyed}{ls:List (List Str)},TxsL h (out.map (·.1)) ls->(∀ l∈ls,l∈all)->Srt (rkT h all) out->ls.Pairwise λ a b=>lexB b a=false
 |[],_,.nil,_,_=>List.Pairwise.nil
 | k::out,_,.cons (l:=l) (ls:=ls) a b t,hm,hs=>by
  have hs:=List.pairwise_cons.1 hs;refine List.pairwise_cons.2 ⟨λ m hml=>?_,t.srt (λ x hx=>hm x<|oAm _ hx) hs.2⟩;have:=t.has m hml;obtain⟨k',hk',tk⟩:=this;have h1:=hs.1 k' hk';unfold Le at h1;rw[Vh a,Vh tk] at h1;cases q:lexB m l with
  |false=>rfl
  | true=>
   have:=(US (hm m<|oAm _ hml)<|hm l<|oAn ..).mpr q;lia
theorem V3{l:Addr}{vs:List Value}{ls:List (List Str)}{Q:zVP}(hl:Coll prog w E s l vs)(hv:vs.length<64)(t:TxsL s.heap vs ls)
  (hk:∀ (out:List Value) (ms:List (List Str)),out.Perm vs->TxsL s.heap out ms->ms.Perm ls->(ms.Pairwise λ a b=>lexB b a=false)->Q (.ref (s.heap.objs.size+1)) { s with heap:=sortedAll s.heap vs out.toArray }) :
  wpAny (model prog w) A (call (.builtin "sorted") [.ref l]) Q E s:=by
 refine Za0 (κ:=tuples' true) (dom:=λ k=>∃ l∈ls,Tx s.heap k.1 l) (r:=rkT s.heap ls) hl hv (λ v hv=>t.mem v hv) (λ s1 k1 A' s2 k2=>?_)<|λ out a1 a2=>?_
 ·have keep:∀ v l,Tx s.heap v l->Tx s2.heap v l:=λ v l q=>q.keep λ p o h1 h2=>by
   refine k2 p o ?_<|k1 p o h1;have:p<s.heap.objs.size:=oAf h1;exact oAp<|Nat.lt_succ_of_lt this
  refine⟨λ Q h2 hq=>?_,Ze7 keep⟩;obtain⟨fs,f1,f2,f3⟩:=(t.mono keep).tups;refine kat_kind (T:=Value.type "str") f1 (by lia) (λ v hv=>?_) (by decide) hq;obtain⟨x,u,rfl⟩:=f3 v hv;exact .now
 ·have e:∀ k∈out,k.1=k.2:=λ k hk=>by
   have:=(a1.mem_iff).mp hk;obtain⟨v,_,rfl⟩:=List.mem_map.1 this;rfl
  have e2:out.map (·.2)=out.map (·.1):=List.map_congr_left λ k hk=>(e k hk).symm;have p1:(out.map (·.1)).Perm vs:=by
   have:=a1.map (·.1);rw[map_map] at this;have e3:List.map ((·.1) ∘ λ (v:Value)=>(v,v)) vs=vs:=by
    exact(List.map_congr_left (g:=id) λ v _=>rfl).trans (List.map_id vs)
   rwa [e3] at this
  obtain⟨ms,h1,h2⟩:=TxsL.perm p1 t;rw[e2];exact hk _ ms p1 h1 h2<|h1.srt (λ l hl=>h2.mem_iff.1 hl) a2
end TS
namespace PF
open PySem PySem.Spec PyProof.Rows L2
open PySem PySem.Spec PyProof.Rows L2 PySem.Builtin PySem.Builtin.Str
section
variable {X:Cx}
noncomputable def partsOf(x y:Str):List Str:=partsBetween x (occurrences x y 0 x.length (x.length+1)) y.length
noncomputable def ZdG(x y:Str):Bool:=!(decide (x.length<y.length)||decide (strKind x<strKind y))&&!(y.length==0)&&!(occurrences x y 0 x.length (x.length+1)).isEmpty
noncomputable def zx(x:Str):Str:=if stripSame Unicode.isSpace true true x then x else stripped Unicode.isSpace true true x
end
open PySem PySem.Spec PyProof.Rows L2 TS
inductive Rows(G:Addr->List Str->Prop):List V->List (List Str)->Prop
 |nil:Rows G [] []
 |cons {p:Addr}{l:List Str}{xs:List V}{ls:List (List Str)}:G p l->l≠[]->Rows G xs ls->Rows G (.ref p::xs) (l::ls)
theorem Vi:∀ {l:List Str}{us:List Value},Vals (l.map V.str) us->Txs us l
 |[],us,h=>by cases h;exact .nil
 | x::l,us,h=>by
  cases h with
  | cons a t=>
   obtain⟨tk,rfl⟩:=(show ∃ t,_=Value.str x t from a);exact .cons<|Vi t
section
variable {X:Cx}{pj:zPn}{σ:L2.St}{H:Hp}{s:Shared}
theorem Jr{G:Addr->List Str->Prop}(hG:∀ p l,G p l->SqT X.K H p (l.map V.str))(I:Inv X pj σ H s):∀ {xs:List V}{ls:List (List Str)}{us:List Value},Rows G xs ls->Vals xs us->TxsL s.heap us ls
 |_,_,us,.nil,h=>by cases h;exact .nil
 | _,_,us,.cons (p:=p) a b t,h=>by
  cases h with
  | cons r h=>
   cases (show _=Value.ref p from r)
   obtain⟨ps,rps,⟨o,ho,hoc,n,hod⟩,hpz⟩:=I.tuple<|hG _ _ a;exact .cons ⟨p,o,_,n,rfl,ho,hoc,hod,Vi<|by simpa using rps⟩ b<|Jr hG I t h
theorem V4{G:Addr->List Str->Prop}{us vs:List Value}(p:us.Perm vs):∀ {xs:List V}{ls:List (List Str)},Rows G xs ls->Vals xs vs->∃ ys ms,ys.Perm xs/\Rows G ys ms/\ms.Perm ls/\Vals ys us:=by
 induction p with
 |nil=>intro xs ls r h;exact⟨xs,ls,.refl _,r,.refl _,h⟩
 | cons x _ ih=>
  intro xs ls r h;cases h with
  | cons a t=>
   cases r with
   | cons b c r=>
    obtain⟨ys,ms,h1,h2,h3,h4⟩:=ih r t;exact⟨_,_,h1.cons _,.cons b c h2,h3.cons _,.cons a h4⟩
 | swap x y l=>
  intro xs ls r h;cases h with
  | cons a t=>
   cases t with
   | cons a' t=>
    cases r with
    | cons b c r=>
     cases r with
     |cons b' c' r=>exact⟨_,_,List.Perm.swap ..,.cons b' c'<|.cons b c r,List.Perm.swap ..,.cons a'<|.cons a t⟩
 | trans _ _ ih1 ih2=>
  intro xs ls r h;obtain⟨ys,ms,h1,h2,h3,h4⟩:=ih2 r h;obtain⟨zs,ns,g1,g2,g3,g4⟩:=ih1 h2 h4;exact⟨zs,ns,g1.trans h1,g2,g3.trans h3,g4⟩
theorem VL{h:Heap}:∀ {us:List Value}{ls ms:List (List Str)},TxsL h us ls->TxsL h us ms->ls=ms
 |_,_,_,.nil,.nil=>rfl
 |_,_,_,.cons a _ t,.cons b _ u=>by rw[a.one b,VL t u]
theorem Zac{a:Addr}{xs:List V}{ls:List (List Str)}{Q:VK}{G:Addr->List Str->Prop}(hG:∀ p l,G p l->SqT X.K H p (l.map V.str))(I:Inv X pj σ H s)(hq:SqL X.K H a xs)(hr:Rows G xs ls)(hz:xs.length<64)
  (q:∀ p ys ms,H p=none->ys.Perm xs->Rows G ys ms->ms.Perm ls->(ms.Pairwise λ a b=>lexB b a=false)->Q (.ref p) (upd H p (.lst ys))) :
  wpAny (model X.prog X.w) X.A (call (.builtin "sorted") [.ref a]) (EP X pj σ Q) X.xe s:=by
 obtain⟨its,rv,pl,_⟩:=I.list hq;have hlen:=rv.length;refine V3 (λ A Q h=>collect_list pl.isList h<|by rw[sizeLine_eq];lia) (by lia) (Jr hG I hr rv)<|λ out ms a1 a2 a3 a4=>?_
 obtain⟨ys,ns,h1,h2,h3,h4⟩:=V4 a1 hr rv;have e:=VL (Jr hG I h2 h4) a2;subst e;obtain⟨ep,he⟩:=sortedAll_at s.heap its out.toArray;have hp1:=I.hok.fresh<|le_succ s.heap.objs.size;refine⟨.ref _,_,I.laid (a:=s.heap.objs.size+1) (o:=.lst ys) (t':=s.toks) (λ b o e=>sortedAll_old e) (le_succ _) ?_,rfl,q _ ys ns hp1 h1 h2 a3 a4⟩;refine⟨?_,out,ep,h4,by simpa [seqObj] using he⟩;rw[h1.length_eq,sizeLine_eq];lia
theorem qX{a:Addr}{xs:List V}{ls:List (List Str)}{Q:VK}{G:Addr->List Str->Prop}(hG:∀ p l,G p l->SqT X.K H p (l.map V.str))(I:Inv X pj σ H s)(hq:SqT X.K H a xs)(hr:Rows G xs ls)(hz:xs.length<64)
  (q:∀ p ys ms,H p=none->ys.Perm xs->Rows G ys ms->ms.Perm ls->(ms.Pairwise λ a b=>lexB b a=false)->Q (.ref p) (upd H p (.lst ys))) :
  wpAny (model X.prog X.w) X.A (call (.builtin "sorted") [.ref a]) (EP X pj σ Q) X.xe s:=by
 obtain⟨its,rv,⟨ob,pl,pc,nn,pd⟩,_⟩:=I.tuple hq;have hlen:=rv.length;refine V3 (λ A Q h=>Wl pl pc pd h<|by rw[sizeLine_eq];lia) (by lia) (Jr hG I hr rv)<|λ out ms a1 a2 a3 a4=>?_
 obtain⟨ys,ns,h1,h2,h3,h4⟩:=V4 a1 hr rv;have e:=VL (Jr hG I h2 h4) a2;subst e;obtain⟨ep,he⟩:=sortedAll_at s.heap its out.toArray;have hp1:=I.hok.fresh<|le_succ s.heap.objs.size;refine⟨.ref _,_,I.laid (a:=s.heap.objs.size+1) (o:=.lst ys) (t':=s.toks) (λ b o e=>sortedAll_old e) (le_succ _) ?_,rfl,q _ ys ns hp1 h1 h2 a3 a4⟩;refine⟨?_,out,ep,h4,by simpa [seqObj] using he⟩;rw[h1.length_eq,sizeLine_eq];lia
end
open PySem PySem.Builtin PySem.Builtin.Str PySem.StrLaws
section
variable {prog:Program}{w:World}{A:Around}{E:zVP}{s:Shared}
theorem qY{P:Fin->Shared->Prop}(ha:s.heap.IsTuple a xs)(hb:s.heap.IsTuple b ys)(tx:TS.Txs xs.toList l)(ty:TS.Txs ys.toList m)
  (h:P (.done (.ret (.bool (TS.lexB l m)))) s):wpAny (model prog w) A (Builtin.«tuple.__lt__» ⟨[.ref a,.ref b],[]⟩) P E s:=by
 obtain⟨oa,hoa,hca,na,hda⟩:=ha;obtain⟨ob,hob,hcb,nb,hdb⟩:=hb;have hTb:s.TypeIs (.ref b) "tuple":=⟨_,hob,hcb⟩;show wpAny _ _ (isInstance (.ref b) (.type "tuple")>>=_) _ _ s;refine oAa<|wpAny_isInstance hTb isSubtype_tuple_tuple ?_;simp only[Bool.not_true,false_eq_true,if_false];refine oAa<|wpAny_tupleItemsOf hoa hda ?_;refine oAa<|wpAny_tupleItemsOf hob hdb ?_;refine oAa ?_;refine wpAny_forIn_list _
  (λ rest r s'=>r.1=none/\s'=s/\∃ l' m' xs' ys',rest=List.zip xs' ys'/\TS.Txs xs' l'/\TS.Txs ys' m'/\TS.lexB l' m'=TS.lexB l m/\decide (xs'.length<ys'.length)=decide (xs.size<ys.size))
  _ ?_ ?_ _ _ ⟨rfl,rfl,l,m,xs.toList,ys.toList,rfl,tx,ty,rfl,by simp⟩
 ·rintro⟨u,v⟩ rest r s' ⟨hr,rfl,l',m',xs',ys',hz,hx',hy',hdec,hlen⟩;cases hx' with
  |nil=>simp at hz
  | @cons x t xs'' l'' hx''=>
   cases hy' with
   |nil=>simp at hz
   | @cons y t2 ys'' m'' hy''=>
    simp only[List.zip_cons_cons,List.cons.injEq,Prod.mk.injEq] at hz;obtain⟨⟨rfl,rfl⟩,rfl⟩:=hz;rw[TS.lexB] at hdec;refine oAa<|wpAny_eqBool_str ?_;by_cases hk:x=y
    ·rw[oAi hk];rw[if_pos hk] at hdec;simp only[Bool.not_true,false_eq_true,if_false];refine oAb ⟨rfl,rfl,l'',m'',xs'',ys'',rfl,hx'',hy'',hdec,by simpa using hlen⟩
    ·rw[oAh hk];rw[if_neg hk] at hdec;simp only[Bool.not_false,if_true];rw[<- hdec] at h;refine oAa<|wpAny_rule ?_;refine oAa<|PySem.P.lt_str ?_;exact oAa<|oAb<|oAb<|oAb h
 ·rintro⟨r1,r2⟩ s' ⟨hr,rfl,l',m',xs',ys',hz,hx',hy',hdec,hlen⟩;simp only at hr;subst hr;refine oAb ?_;have hfin:decide (xs.size<ys.size)=TS.lexB l m:=by
   rw[<- hdec,<-hlen];cases hx' with
   | nil=>
    cases hy' with
    |nil=>rfl
    |cons _=>rfl
   | cons _=>
    cases hy' with
    |nil=>rfl
    |cons _=>simp at hz
  show P (.done<|.ret<|.bool<|decide<|xs.size<ys.size) s';rw[hfin];exact h
theorem Ze8{Q:zVP}(hu:A.units<cLine)(ha:s.heap.IsTuple a xs)(hb:s.heap.IsTuple b ys)(tx:TS.Txs xs.toList l)(ty:TS.Txs ys.toList m)
  (h:Q (.bool (TS.lexB l m)) s):wpAny (model prog w) A (compareOp .Lt (.ref a) (.ref b)) Q E s:=by
 have hTa:s.TypeIs (.ref a) "tuple":=by obtain⟨o,ho,hc,_⟩:=ha;exact⟨o,ho,hc⟩
 have hTb:s.TypeIs (.ref b) "tuple":=by obtain⟨o,ho,hc,_⟩:=hb;exact⟨o,ho,hc⟩
 show wpAny _ _ (richCompare .Lt (.ref a)<|.ref b) _ _ s;exact wpAny_richCompare_same_room (op:=.Lt) hTa hTb F.slot_tuple_lt
   (wpAny_call_entry F.slot_tuple_lt hTa F.entry_tuple_lt (qY ha hb tx ty ⟨_,rfl,(λ e=>nomatch e),h⟩)<|F.args_tuple_lt_2 _ _) hu
end
end PF
namespace L2
open PySem PySem.Spec PyProof.Rows
noncomputable def Its(x:Str):It:=⟨λ i _=>i<x.cps.size,λ i H v H'=>H'=H/\∃ c,x.cps[i]?=some c/\v=.str ⟨#[c]⟩,λ i _=>x.cps.size<=i⟩
theorem W3{P:Program}{w:World}{K:Frag}{tg:Expr}(it:Addr)(T:String)(x:Str)(t:Tok)
  (hT:["enumerate","zip","dict_itemiterator","dict_reverseitemiterator","odict_iterator","itertools.zip_longest","itertools.pairwise"].contains T=false)
  (W:∀ A':Around,A'.handled=none->Walks P w A' it [it] [it] x.cps.size (SignAt x) (λ i h=>h.IsStrIter it T x t i))
  (self:∀ (A:Around) (i:Nat) (s:Shared) (Q:zVP) (E:zVP),s.heap.IsStrIter it T x t i->Q (.ref it) s->wpAny (model P w) A (pyIter (.ref it)) Q E s) :
  Turn P w K tg (Its x) [it] it (λ i h=>h.IsStrIter it T x t i/\i<=x.cps.size) where
 mem:=by simp
 obj:=λ i h st b hb=>by
  have e:b=it:=by simpa using hb
  subst e;obtain⟨⟨o,e,c,d⟩,_⟩:=st;exact⟨o,e,λ v z=>by rw[d] at z;cases z⟩
 keep:=λ i h h' st k=>by
  obtain⟨⟨o,e,r⟩,hi⟩:=st;exact⟨⟨o,k it (by simp) o e,r⟩,hi⟩
 item:=by
  intro X hP hw hK hc i pj s σ H E I hf st hg;subst hP hw hK;obtain⟨f0,f1,f2,f3,f4,f5⟩:=hf it (by simp);refine(W _<|I.ok.hd hc).item i s _ _ hg st.1 λ v h' tk hv st' kk=>?_;obtain⟨c,u,hc',rfl⟩:=hv;have I1:Inv X pj σ H { s with heap:=h',toks:=tk }:=I.turned (λ b o hb e=>kk b o (by simpa using hb) e) f0 f1 f3 f4 f5;obtain⟨o,e,c',d⟩:=id st';exact⟨_,rfl,U9 (s:={ s with heap:=h',toks:=tk }) e c' d hT ⟨.str ⟨#[c]⟩,H,I1,⟨u,rfl⟩,⟨rfl,c,hc',rfl⟩,⟨st',hg⟩,λ b hb=>(hf b hb).1⟩⟩
 done:=by
  intro X hP hw hK hc i pj s σ H E I hf st hg;subst hP hw hK;obtain⟨f0,f1,f2,f3,f4,f5⟩:=hf it (by simp);have e:i=x.cps.size:=Nat.le_antisymm st.2 hg;subst e;exact(W _<|I.ok.hd hc).done s _ _ st.1 λ h' tk kk=>⟨rfl,I.turned (λ b o hb e=>kk b o (by simpa using hb) e) f0 f1 f3 f4 f5⟩
 self:=λ A i s Q E st h=>self A i s Q E st.1 h
section
variable {X:Cx}{tg:Expr}
theorem Ze9{l:Expr}{tl:TE}(hl:PE X l tl):PI X tg l (λ σ H R=>tl σ H λ x H1=>∃ z,x=.str z/\R (Its z) H1):=by
 intro pj s σ H R I h;refine thn (hl pj s σ H _ I h) λ v s1 ⟨x,H1,I1,r1,q1⟩=>?_;obtain⟨z,e,q⟩:=q1;subst e;obtain⟨t,rfl⟩:=r1;have fp:∀ b∈[s1.heap.objs.size],∀ o:Obj,FpOk X pj H1 b:=λ b hb o=>by
  have e:b=s1.heap.objs.size:=by simpa using hb
  subst e;exact I1.fpOk (oAl _)<|I1.hok.fresh<|oAl _
 cases ha:z.cps.all (·<128)
 ·exact wpAny_pyIter_wide ha ⟨s1.heap.objs.size,[s1.heap.objs.size],_,_,H1,rfl,I1.kept (t':=s1.toks) λ b o e=>oAd _ e,W3 _ "str_iterator" z t (by decide) (λ A' hA=>Walks.strWide hA _ z t)<|λ _ _ _ _ _ st h=>wpAny_pyIter_striter_wide st h,
   ⟨⟨_,oAe _ rfl,rfl,rfl⟩,zero_le _⟩,λ b hb=>fp b hb ⟨.none,none,.cell none,#[]⟩,q⟩
 ·exact wpAny_pyIter_ascii ha ⟨s1.heap.objs.size,[s1.heap.objs.size],_,_,H1,rfl,I1.kept (t':=s1.toks) λ b o e=>oAd _ e,W3 _ "str_ascii_iterator" z t (by decide) (λ A' hA=>Walks.strAscii hA _ z t)<|λ _ _ _ _ _ st h=>wpAny_pyIter_striter_ascii st h,
   ⟨⟨_,oAe _ rfl,rfl,rfl⟩,zero_le _⟩,λ b hb=>fp b hb ⟨.none,none,.cell none,#[]⟩,q⟩
end
end L2
namespace SX
open PySem PyProof.Rows
abbrev Ents(w:World):List (Int×Value)->List Str->Prop:=Paired λ e z=>∃ t,e=(hashStr w z,Value.str z t)
theorem UT(h:Ents w es zs):es.length=zs.length:=Paired.length h
theorem UU{w:World}:∀ {es:List (Int×Value)}{zs:List Str},Ents w es zs->∀ e∈es,∃ z∈zs,∃ t,e=(hashStr w z,Value.str z t)
 |_,_,.nil,e,he=>nomatch he
 | _,_,.cons r t,e,he=>by
  rcases List.mem_cons.1 he with rfl | he
  ·exact⟨_,oAn ..,r⟩
  ·obtain⟨z,h1,h2⟩:=UU t e he;exact⟨z,oAm _ h1,h2⟩
theorem W4{w:World}:∀ {es:List (Int×Value)}{zs:List Str},Ents w es zs->∀ z∈zs,∃ e∈es,∃ t,e=(hashStr w z,Value.str z t)
 |_,_,.nil,e,he=>nomatch he
 | _,_,.cons r t,e,he=>by
  rcases List.mem_cons.1 he with rfl | he
  ·exact⟨_,oAn ..,r⟩
  ·obtain⟨z,h1,h2⟩:=W4 t e he;exact⟨z,oAm _ h1,h2⟩
theorem V5{w:World}{l l':List (Int×Value)}(p:l'.Perm l):∀ {zs:List Str},Ents w l zs->∃ ys,Ents w l' ys/\ys.Perm zs:=by
 induction p with
 |nil=>intro zs t;exact⟨zs,t,.refl _⟩
 |cons x _ ih=>intro zs t;cases t with | cons a t=>obtain⟨ms,h1,h2⟩:=ih t;exact⟨_,.cons a h1,h2.cons _⟩
 |swap x y l=>intro zs t;cases t with | cons a t=>cases t with | cons b t=>exact⟨_,.cons b<|.cons a t,List.Perm.swap ..⟩
 |trans _ _ ih1 ih2=>intro zs t;obtain⟨ms,h1,h2⟩:=ih2 t;obtain⟨ks,g1,g2⟩:=ih1 h1;exact⟨ks,g1,g2.trans h2⟩
theorem W5{w:World}:∀ {es:List (Int×Value)}{zs:List Str}{x:Str}{t:Tok},Ents w es zs->Ents w (es++[(hashStr w x,Value.str x t)]) (zs++[x])
 |_,_,_,t,.nil=>.cons ⟨t,rfl⟩ .nil
 |_,_,_,_,.cons r q=>.cons r<|W5 q
def Y6(w:World)(h:Heap)(a:Addr)(zs:List Str):Prop:=∃ o es ep t,h.get? a=some o/\o.ExactSet/\o.data=.set es ep t/\t.fits es.size=true/\(es.size≠0->t.plain=false)/\∃ ys,Ents w es.toList ys/\ys.Perm zs
section
variable {prog:Program}{w:World}{A:Around}{E:zVP}{s:Shared}
theorem str_is(z:Str)(t:Tok):(PySem.strKind prog w).is z (.str z t)=true:=by show Value.isStrOf z (.str z t)=true;simp[Value.isStrOf]
theorem Zcd{es:List (Int×Value)}{zs:List Str}(h:Ents w es zs):ElemsOf (PySem.strKind prog w) es:=λ e he=>by
 obtain⟨z,_,t,rfl⟩:=UU h e he;exact⟨⟨z,str_is z t,rfl⟩,rfl⟩
theorem qZ(es:Array (Int×Value))(n:Nat)(h:t.plain=false):(relayAll t es n).2.1.plain=false:=by
 unfold relayAll;split
 ·rename_i t' order e;dsimp only;split
  ·unfold SetTable.relaid SetTable.laid at e;cases hq:SetTable.layClean (SetTable.sizeAbove n - 1) (es.map (·.1)) with
   |none=>rw[hq] at e;cases e
   |some ow=>rw[hq] at e;cases e;exact h
  ·rfl
 ·rfl
theorem W6{Q:Unit->Shared->Prop}(ho:s.heap.get? a=some o)(hx:o.ExactSet)(hd:o.data=.set es ep t)(hb:es'.size<scanBound)
  (h:∀ h',SameBut a s.heap h'->h'.get? a=some { o with data:=.set es' (ep+1) t' }->Q () { s with heap:=h' }):wpAny (model prog w) A (storeSet a es' t') Q E s:=by
 refine wpAny_storeSet_of ho hd (h _ (Heap.SameBut.update ..) ?_)<|fits_of_scanBound hb;have g:=get?_update_self (Obj.putSet es' t') ho (by rw[putSet_of es' t' hd];rfl)
 rwa [putSet_of es' t' hd] at g
theorem Zfa{a:Addr}{zs:List Str}{x:Str}{tk:Tok}{Q:Bool->Shared->Prop}(hS:Y6 w s.heap a zs)(hr:zs.length+1<scanBound)
  (h:∀ h' b,SameBut a s.heap h'->Y6 w h' a (if x∈zs then zs else zs++[x])->Q b { s with heap:=h' }):wpAny (model prog w) A (setAddHashed a (.str x tk) (hashStr w x)) Q E s:=by
 obtain⟨o,es,ep,t,ho,hx,hd,hf,hpl,ys,he,hp⟩:=id hS;have hel:=Zcd (prog:=prog) he;have hsz:es.size=zs.length:=by rw[<- length_toList,UT he,hp.length_eq]
 have hk:(PySem.strKind prog w).is x (.str x tk)=true:=str_is x tk;unfold setAddHashed setAddHashedIn;refine wpAny_holding<|oAa<|wpAny_setState_of ho hd hf ?_;dsimp only
 rw[byScan_of (knd:=PySem.strKind prog w) rfl (by lia) hel];simp only[↓reduceIte]
 unfold setAddByScan;refine oAa<|oAa<|wpAny_rule<|oAa<|wpAny_setScan_of (knd:=PySem.strKind prog w) hk ho hd hf hel ?_;have hiff:∀ e∈es.toList,(PySem.strKind prog w).is x e.2=true->x∈zs:=λ e hm q=>by
  obtain⟨z,hz,t,rfl⟩:=UU he e hm;have:x=z:=by
   have q':Value.isStrOf x (Value.str z t)=true:=q;obtain⟨u,e⟩:=Value.isStrOf_shape q';injection e with e1;exact e1.symm
  subst this;exact hp.mem_iff.1 hz
 cases hi:List.findIdx? (λ e=>(PySem.strKind prog w).is x e.2) es.toList with
 | some j=>
  dsimp only;obtain⟨hj,hpj,_⟩:=List.findIdx?_eq_some_iff_getElem.1 hi;have hm:x∈zs:=hiff _ (getElem_mem hj) hpj;rw[if_pos hm] at h;have:=h s.heap false (Heap.SameBut.refl a s.heap) hS;exact oAb<|oAb this
 | none=>
  dsimp only;have hm:x∉zs:=λ hm=>by
   obtain⟨e,h1,t,rfl⟩:=W4 he x<|hp.mem_iff.2 hm;have:=List.findIdx?_eq_none_iff.1 hi _ h1;rw[str_is] at this;cases this
  rw[if_neg hm] at h;have hq:=layNew_perm t es (hashStr w x)<|Value.str x tk;have hg:=layNew_fits t es (hashStr w x)<|Value.str x tk;show wpAny (model prog w) A (_>>=_) _ _ _;change wpAny (model prog w) A (match layNew t es (hashStr w x) (Value.str x tk) with | (es,t,wasDummy,gave)=>_) _ _ _;generalize layNew t es (hashStr w x) (Value.str x tk)=L at hq hg ⊢;obtain⟨es1,t1,wd,gv⟩:=L;dsimp only at hq hg ⊢;rw[Array.toList_push] at hq;obtain⟨ks,k1,k2⟩:=V5 hq<|W5 (x:=x) (t:=tk) he;have k3:=k2.trans<|hp.append<|List.Perm.refl [x];have z1:es1.size=zs.length+1:=by rw[<- length_toList,UT k1,k3.length_eq,length_append];rfl
  refine oAa ?_;have gw:∀ (b:Bool) (s₁:Shared) (Q':Unit->Shared->Prop),Q' () s₁->wpAny (model prog w) A (match b with | true=>rule "set.scan.the-table-gave-way" | false=>pure ()) Q' E s₁:=λ b s₁ Q' q=>by
   cases b
   ·exact oAb q
   ·exact wpAny_rule q
  refine gw gv s _ ?_;have tail:∀ t2:SetTable,t2.plain=false->t2.fits es1.size=true->wpAny (model prog w) A (do
    storeSet a es1 t2
    if (!wd&&t2.tooFull)=true then
     let (es,t,gave):=relayAll t2 es1<|SetTable.grown es1.size
     (match gave with | true=>rule "set.scan.the-table-gave-way" | false=>pure ())
     storeSet a es t
    pure<|some true) (λ r s'=>∃ h',s'={ s with heap:=h' }/\r=some true/\SameBut a s.heap h'/\Y6 w h' a (zs++[x])) E s:=λ t2 p2 f2=>by
   refine oAa<|W6 ho hx hd (by lia) λ h1 b1 g1=>?_;split
   ·have rp:=relayAll_perm t2 es1<|SetTable.grown es1.size;have rf:=relayAll_fits t2 es1<|SetTable.grown es1.size;have rl:=qZ es1 (SetTable.grown es1.size) p2;generalize relayAll t2 es1 (SetTable.grown es1.size)=R at rp rf rl ⊢;obtain⟨es2,t3,g2⟩:=R;dsimp only at rp rf rl ⊢;obtain⟨ls,l1,l2⟩:=V5 rp k1;have z2:es2.size=es1.size:=by rw[<- length_toList,rp.length_eq,length_toList]
    refine oAa<|gw g2 _ _<|oAa ?_;refine W6 (s:={ s with heap:=h1 }) g1 hx rfl (by lia) λ h2 b2 g2=>?_;exact oAb ⟨h2,rfl,rfl,b1.trans b2,_,es2,_,t3,g2,hx,rfl,rf,λ _=>rl,ls,l1,l2.trans k3⟩
   ·exact oAb ⟨h1,rfl,rfl,b1,_,es1,_,t2,g1,hx,rfl,f2,λ _=>p2,ks,k1,k3⟩
  by_cases p1:t1.plain=true
  ·rw[if_pos p1,hashByValue_scannable 8 rfl];refine oAa<|oAb ?_;refine oAc (tail { t1 with plain:=false } rfl (SetTable.fits_plain_off hg)) ?_ λ _ _ e=>e;rintro r s' ⟨h',rfl,rfl,b1,T⟩;exact oAb<|h h' true b1 T
  ·rw[if_neg p1];refine oAa<|oAb ?_;refine oAc (tail t1 (by simpa using p1) hg) ?_ λ _ _ e=>e;rintro r s' ⟨h',rfl,rfl,b1,T⟩;exact oAb<|h h' true b1 T
end
noncomputable def dd1(acc:List Str)(x:Str):List Str:=if x∈acc then acc else acc++[x]
noncomputable def ddS(xs:List Str):List Str:=xs.foldl dd1 []
theorem JL(acc:List Str)(x:Str):(dd1 acc x).length<=acc.length+1:=by unfold dd1;split<;>simp
theorem Y6.at(S:Y6 w h a zs)(k:∀ o,h.get? a=some o->h'.get? a=some o):Y6 w h' a zs:=by
 obtain⟨o,es,ep,t,ho,r⟩:=S;exact⟨o,es,ep,t,k o ho,r⟩
abbrev TxV:List Value->List Str->Prop:=Paired λ v z=>∃ t,v=Value.str z t
section
variable {prog:Program}{w:World}{A:Around}{E:zVP}{s:Shared}
theorem Za1:∀ {vs:List Value}{xs:List Str},TxV vs xs->∀ (i:Nat) (v:Value),vs[i]?=some v->∃ x t,xs[i]?=some x/\v=.str x t
 |_,_,.nil,i,v,h=>by simp at h
 |_,_,.cons ⟨t,e⟩ q,0,v,h=>by simp at h;subst h;exact⟨_,t,rfl,e⟩
 | _,_,.cons r q,i+1,v,h=>by
  simp only[List.getElem?_cons_succ] at h ⊢;exact Za1 q i v h
end
section
variable {prog:Program}{w:World}{A:Around}{E:zVP}{s:Shared}
theorem Za2{S I l:Addr}{items:List Value}{xs:List Str}{R:Result->Shared->Prop}(hh:A.handled=none)(hne:l≠I)(hSf:S∉[I,l])(hi:TxV items xs)(hb:items.length+1<scanBound) :
  ∀ (k i:Nat) (s:Shared) (acc:List Str),items.length - i=k->i<=items.length->acc.length<=i->s.heap.IsTupleIter I l i/\s.heap.IsTuple l items.toArray->Y6 w s.heap S acc ->
   (∀ s',Moved [S,I] (λ a b=>b=a) s s'->Y6 w s'.heap S ((xs.drop i).foldl dd1 acc)->R (.ok (.ret .none)) s')->codeAny (model prog w) A (.builtin "set.update.loop" ⟨[.ref S,.ref I],[]⟩) R s:=by
 have W:=(Walks.tuple (prog:=prog) (w:=w) (A:=A.in1) (by simpa using hh) I l hne items.toArray).toS;have hlx:items.length=xs.length:=Paired.length hi;have hS1:S∉[I]:=λ h=>hSf (by simp at h;simp[h])
 have hsb:∀ b∈[I],b∈[S,I]:=λ b hb=>by simp at hb;simp[hb]
 intro k
 induction k with
 | zero=>
  intro i s acc hk hle ha st T hR;have e:i=items.length:=by lia
  refine codeAny_builtin F.entry_set_update_loop ?_;rw[Around.under_plainId F.plain_set_update_loop _]
  show wpAny (model prog w) A.in1 (pyNext (.ref I)>>=_) _ _ s;refine oAa<|W.done s _ _ (by rw[e] at st;simpa using st) λ s' hm=>?_
  show wpAny _ A.in1 (ret Value.none) _ _ _;refine oAb<|hR _ (hm.mono hsb) ?_;rw[e,hlx,List.drop_length];exact T.at λ o e=>hm.heap S o hS1 e
 | succ k ih=>
  intro i s acc hk hle ha st T hR;have hlt:i<items.length:=by lia
  refine codeAny_builtin F.entry_set_update_loop ?_;rw[Around.under_plainId F.plain_set_update_loop _]
  show wpAny (model prog w) A.in1 (pyNext (.ref I)>>=_) _ _ s;refine oAa<|W.item i s _ _ (by simpa using hlt) st λ v s' hv st' hm=>?_;obtain⟨x,t,hx,rfl⟩:=Za1 hi i v (by simpa using hv);show wpAny _ A.in1 (holding [Value.str x t] (setAdd S<|.str x t)>>=_) _ _ _;refine oAa<|wpAny_holding ?_;unfold setAdd
  refine wpAny_holding<|oAa<|(PySem.strKind prog w).pyHash (k:=x) (str_is x t) ?_;refine Zfa (zs:=acc) (s:={ s' with toks:=s'.toks+1 }) (T.at λ o e=>hm.heap S o hS1 e) (by lia) λ h2 b sb T2=>?_;have hd:xs.drop i=x::xs.drop (i+1):=by
   have hk2:i<xs.length:=by lia
   rw[List.drop_eq_getElem_cons hk2];congr 1
   rw[oAt hk2] at hx;exact oAk hx
  have keep:∀ c o,c≠S->s'.heap.get? c=some o->h2.get? c=some o:=λ c o hc e=>(sb.2 c hc).trans e;refine oAb ⟨plainId_quiet F.plain_set_update_loop _,ih (i+1) _ (dd1 acc x) (by lia) hlt (by have:=JL acc x;lia) ?_ T2 λ s'' hm2 T3=>hR s'' ?_ ?_⟩
  ·exact⟨st'.1.at λ o e=>keep I o (λ z=>hSf<|by simp[z]) e,st'.2.at λ o e=>keep l o (λ z=>hSf<|by simp[z]) e⟩
  ·exact Moved.trans (λ a b c x y=>y.trans x) ((hm.mono hsb).then_heap (le_succ _) λ c o hc e=>keep c o (λ z=>hc<|by simp[z]) e) hm2
  ·rw[hd];exact T3
theorem ZdH{Q:zVP}(hh:A.handled=none)(hl:s.heap.IsTuple l items.toArray)(hi:TxV items xs)(hb:items.length+1<scanBound)
  (h:∀ (h':Heap) (tk:Nat),Y6 w h' s.heap.objs.size (ddS xs)->(∀ b o,b<s.heap.objs.size->s.heap.get? b=some o->h'.get? b=some o)->Q (.ref s.heap.objs.size) { s with heap:=h',toks:=tk }) :
  wpAny (model prog w) A (call (.type "set") [.ref l]) Q E s:=by
 obtain⟨c,tl,hmro⟩:=F.called_set.mro;have hmade:=F.called_set.made;have hsub:=F.called_set.sub
 refine wpAny_call<|codeAny_of_tree ?_;show wpAny _ _ (callAny (.type "set") _) _ _ _
 refine oAb ⟨Code.quiet_builtin _ (by decide +kernel),codeAny_builtin F.entry_type_call ?_⟩;rw[Around.under_plain (weight_type_call_type "set" [.ref l] []) rfl]
 have h1:=F.called_set.notType;have h2:=F.called_set.canCreate;have hct:=F.typeCall_set_1<|.ref l
 repeat (any_goals (first | assumption | wp_step))
 let N:Bool->Obj:=λ led=>{ cls:=.type "set",dict:=none,data:=.set #[] 0 (.fresh 0 0 led) }
 refine codeAny_mono (code_set_new_1 (.ref l) (E:=E) (Q₁:=λ obj s₁=>∃ led,obj=.ref s.heap.objs.size/\s₁={ s with heap:=s.heap.push (N led) }) λ led=>⟨led,rfl,rfl⟩) λ r s₁ hr=>?_
 rcases r with e | fl
 ·exact hr
 cases fl with
 | ret obj=>
  obtain⟨led,rfl,rfl⟩:=hr;have hS:(s.heap.push<|N led).get? s.heap.objs.size=some (N led):=oAe _ rfl;have hT:Shared.TypeIs { s with heap:=s.heap.push (N led) } (.ref s.heap.objs.size) "set":=⟨_,hS,rfl⟩;have hli:=F.called_set.init.lookup;have hbi:=F.called_set.init.bind<|.ref s.heap.objs.size
  repeat (any_goals (first | assumption | wp_step))
  refine codeAny_mono (codeAny_call_builtin (R:=wants (λ r s₂=>r=.none/\∃ h' tk,s₂={ s with heap:=h',toks:=tk }/\Y6 w h' s.heap.objs.size (ddS xs)/\(∀ b o,b<s.heap.objs.size->s.heap.get? b=some o->h'.get? b=some o)) E) F.called_set.init.plain F.entry_set_init<|check_set_init_1 hT ?_) λ r₂ s₂ hr₂=>?_
  ·obtain⟨ol,hol,hcl,nl,hdl⟩:=hl;obtain⟨ocls,odict,odata,oslots⟩:=ol;simp only at hcl hdl;subst hcl;subst hdl
   have hol':(s.heap.push<|N led).get? l=some { cls:=.type "tuple",dict:=odict,data:=.seq items.toArray nl,slots:=oslots }:=oAd _ hol;have hsls:=F.sub_tuple_set;have hslf:=F.sub_tuple_frozenset
   have hne:(Value.type "tuple"==Value.type "dict")=false:=by decide
   have hl1:(s.heap.push<|N led).IsTuple l items.toArray:=⟨_,hol',rfl,nl,rfl⟩;unfold Builtin.«set.__init__» noKeywords Builtin.Frozenset.updateFrom;generalize hPI:pyIter=PI
   wp_walk
   subst hPI;refine wpAny_pyIter_tuple hl1 ?_;refine oAa<|wpAny_runValue ?_;have hlS:l<s.heap.objs.size:=oAf hol;have z1:(s.heap.push<|N led).objs.size=s.heap.objs.size+1:=size_push ..;have hneI:l≠(s.heap.push<|N led).objs.size:=λ e=>by rw[z1] at e;rw[e] at hlS;exact absurd hlS<|Nat.not_lt.2<|le_succ _
   have hSf:s.heap.objs.size∉[(s.heap.push<|N led).objs.size,l]:=by
    rw[z1];intro z
    rcases List.mem_cons.1 z with e | e
    ·exact absurd e<|oAp<|oAs _
    ·rw[<- List.mem_singleton.1 e] at hlS;exact absurd hlS<|oAr _
   refine Za2 (by simp[hh]) hneI hSf hi hb items.length 0 _ [] (by lia) (zero_le _) (oAl _) ⟨⟨_,oAe _ rfl,rfl,rfl⟩,hl1.push _⟩ ?_ ?_
   ·exact⟨_,#[],0,.fresh 0 0 led,oAd _ hS,⟨rfl,rfl,rfl⟩,rfl,rfl,λ z=>absurd rfl z,[],.nil,.refl _⟩
   ·intro s' hm T;obtain⟨h',g',d',tk',os'⟩:=s';have eg:g'=s.gens:=hm.gens;have ed:d'=s.drawn:=hm.drawn;have eo:os'=s.os:=hm.os
    subst eg;subst ed;subst eo
    show wpAny _ _ _ _ _ _;refine oAb ?_;show wpAny _ _ (ret Value.none) _ _ _;refine oAb ⟨rfl,h',tk',rfl,T,λ b o hb e=>hm.heap b o ?_<|oAd _<|oAd _ e⟩;rw[z1];intro z
    rcases List.mem_cons.1 z with e | e
    ·rw[e] at hb;exact absurd hb<|oAr _
    ·rw[List.mem_singleton.1 e] at hb;exact absurd hb<|Nat.not_lt.2<|le_succ _
  ·rcases r₂ with e | fl₂
   ·exact hr₂
   cases fl₂ with
   | ret r=>
    obtain⟨rfl,h',tk,rfl,hS',hk'⟩:=hr₂
    repeat (any_goals (first | assumption | wp_step))
    exact h _ _ hS' hk'
   |_=>exact hr₂.elim
 |_=>exact hr.elim
end
end SX
namespace SY
open PySem PySem.SetTable
abbrev Up(l:List Nat):Prop:=l.Pairwise (· < ·)
theorem Vj{l:List Nat}(h:Up l){i j x y:Nat}(hi:l[i]?=some x)(hj:l[j]?=some y)(hij:i<j):x<y:=by
 obtain⟨a,rfl⟩:=List.getElem?_eq_some_iff.1 hi;obtain⟨b,rfl⟩:=List.getElem?_eq_some_iff.1 hj;exact List.pairwise_iff_getElem.1 h i j a b hij
theorem Zad{xs:Array Nat}(h:Up xs.toList){j:Nat}:∀ (fuel lo hi:Nat),hi - lo<=fuel->lo<=hi->hi<=xs.size->(∀ i x,i<lo->xs[i]?=some x->x<j)->(∀ i x,hi<=i->xs[i]?=some x->j<=x) ->
  let r:=below.go xs j fuel lo hi;r<=xs.size/\(∀ i x,i<r->xs[i]?=some x->x<j)/\(∀ i x,r<=i->xs[i]?=some x->j<=x)
 | 0,lo,hi,hf,hl,hh,h1,h2=>by
  have e:lo=hi:=by omega
  subst e;exact⟨hh,h1,h2⟩
 | fuel+1,lo,hi,hf,hl,hh,h1,h2=>by
  rw[below.go];split
  ·rename_i hlt;have hm:(lo+hi) / 2<xs.size:=by omega
   have e:xs.getD ((lo+hi) / 2) j=xs[(lo+hi) / 2]:=by simp[getD,hm]
   have e':xs[(lo+hi) / 2]?=some xs[(lo+hi) / 2]:=getElem?_eq_getElem hm;dsimp only;rw[e];split
   ·rename_i hx;refine Zad h fuel _ _ (by omega) (by omega) hh (λ i x hi' hx'=>?_) h2;by_cases hc:i=(lo+hi) / 2
    ·rw[hc,e'] at hx';cases hx';exact hx
    ·have:=Vj h (i:=i) (j:=(lo+hi) / 2) (x:=x) (y:=xs[(lo+hi) / 2]) (by rw[getElem?_toList];exact hx') (by rw[getElem?_toList];exact e') (by omega)
     omega
   ·rename_i hx;refine Zad h fuel _ _ (by omega) (by omega) (by omega) h1<|λ i x hi' hx'=>?_;by_cases hc:i=(lo+hi) / 2
    ·rw[hc,e'] at hx';cases hx';omega
    ·have:=Vj h (i:=(lo+hi) / 2) (j:=i) (x:=xs[(lo+hi) / 2]) (y:=x) (by rw[getElem?_toList];exact e') (by rw[getElem?_toList];exact hx') (by omega)
     omega
  ·exact⟨by omega,h1,λ i x hi'=>h2 i x<|by omega⟩
theorem below_at{xs:Array Nat}(h:Up xs.toList)(j:Nat):below xs j<=xs.size/\(∀ i x,i<below xs j->xs[i]?=some x->x<j)/\(∀ i x,below xs j<=i->xs[i]?=some x->j<=x):=
 Zad h xs.size 0 xs.size (by omega) (by omega) (oAl _) (λ _ _ z=>absurd z<|by omega) (λ i x hi hx=>by rw[Array.getElem?_eq_none hi] at hx;cases hx)
theorem Zce{xs:Array Nat}(h:Up xs.toList){i j:Nat}(hi:xs[i]?=some j):below xs j=i:=by
 obtain⟨_,h1,h2⟩:=below_at h j
 rcases Nat.lt_trichotomy i (below xs j) with g | g | g
 ·have:=h1 i j g hi;omega
 ·exact g.symm
 ·have hs:below xs j<xs.size:=lt_trans g (Array.getElem?_eq_some_iff.1 hi).1;have e:xs[below xs j]?=some xs[below xs j]:=getElem?_eq_getElem hs;have a:=h2 _ _ (oAl _) e;have b:=Vj h (i:=below xs j) (j:=i) (x:=xs[below xs j]) (y:=j) (by rw[getElem?_toList];exact e) (by rw[getElem?_toList];exact hi) g
  omega
theorem JB{t:SetTable}(h:Up t.place.toList){i j:Nat}(hi:t.place[i]?=some j):t.slot j=.live i:=by
 unfold slot;rw[Zce h hi];dsimp only;rw[hi,if_pos (by simp)]
theorem zy(j:Nat):has #[] j=false:=rfl
theorem Za3{t:SetTable}(hd:t.dummies=#[]){j:Nat}(hi:j∉t.place.toList):t.slot j=.empty:=by
 unfold slot;dsimp only;rw[hd,zy,if_neg]
 ·rfl
 ·intro e;have e:t.place[below t.place j]?=some j:=by simpa using e
  exact hi (by rw[<- getElem?_toList] at e;exact mem_of_getElem? e)
theorem Za4{l:List Nat}{p j:Nat}(h:Up l)(h1:∀ i x,i<p->l[i]?=some x->x<j)(h2:∀ i x,p<=i->l[i]?=some x->j<x):Up (l.take p++j::l.drop p):=by
 refine List.pairwise_append.2 ⟨h.sublist<|List.take_sublist ..,List.pairwise_cons.2 ⟨λ x hx=>?_,h.sublist<|List.drop_sublist ..⟩,λ x hx y hy=>?_⟩
 ·obtain⟨i,hi⟩:=List.mem_iff_getElem?.1 hx;rw[List.getElem?_drop] at hi;exact h2 _ _ (by omega) hi
 ·obtain⟨i,hi⟩:=List.mem_iff_getElem?.1 hx;have hip:i<p:=by
   have:=(List.getElem?_eq_some_iff.1 hi).1;rw[length_take] at this;omega
  rw[List.getElem?_take,if_pos hip] at hi;have hxj:=h1 i x hip hi
  rcases List.mem_cons.1 hy with rfl | hy
  ·exact hxj
  ·obtain⟨k,hk⟩:=List.mem_iff_getElem?.1 hy;rw[List.getElem?_drop] at hk;have:=h2 _ _ (by omega) hk;omega
theorem Zfb{t:SetTable}(h:Up t.place.toList){j:Nat}(hj:j∉t.place.toList):Up (insertAt t.place (below t.place j) j).toList:=by
 obtain⟨_,h1,h2⟩:=below_at h j;rw[toList_insertAt];refine Za4 h (λ i x hi hx=>h1 i x hi<|by rw[<- getElem?_toList];exact hx)<|λ i x hi hx=>?_
 have:=h2 i x hi (by rw[<- getElem?_toList];exact hx)
 have hne:x≠j:=λ e=>hj (by rw[<- e];exact mem_of_getElem? hx)
 omega
noncomputable def adv(mask:Nat)(p:Probe):Probe:=
 if p.more > 0 then { p with j:=p.j+1,more:=p.more - 1 } else
 { p with j:=(leap mask p.i p.perturb).1,more:=runEnd mask (leap mask p.i p.perturb).1 - (leap mask p.i p.perturb).1,i:=(leap mask p.i p.perturb).1,perturb:=(leap mask p.i p.perturb).2 }
theorem Za5(t:SetTable)(p:Probe):t.advance p=adv t.mask p:=by
 unfold SetTable.advance adv;split<;>rfl
noncomputable def st0(mask:Nat)(h:Int):Probe:={ j:=bits h % (mask+1),more:=runEnd mask (bits h % (mask+1)) - bits h % (mask+1),i:=bits h % (mask+1),perturb:=bits h,dummy:=none }
noncomputable def seq(mask:Nat)(p:Probe):Nat->Probe
 |0=>p
 |k+1=>seq mask (adv mask p) k
theorem Z9{mask:Nat}:∀ {a b:Nat}{p:Probe},seq mask p (a+b)=seq mask (seq mask p a) b
 |0,b,p=>by rw[zero_add];rfl
 | a+1,b,p=>by
  rw[Nat.add_right_comm];show seq mask (adv mask p) (a+b)=seq mask (seq mask (adv mask p) a) b;exact Z9
theorem Uu{mask:Nat}{p:Probe}{k:Nat}:seq mask p (k+1)=adv mask (seq mask p k):=by
 rw[Z9];rfl
theorem V6{mask:Nat}{p:Probe}:(adv mask p).dummy=p.dummy:=by
 unfold adv;split<;>rfl
def Beg(mask:Nat)(p:Probe)(i q:Nat):Prop:=p.j=i/\p.i=i/\p.perturb=q/\p.more=runEnd mask i - i
theorem W7{mask:Nat}{p:Probe}:∀ (k:Nat),k<=p.more->seq mask p k={ p with j:=p.j+k,more:=p.more - k }
 |0,_=>rfl
 | k+1,h=>by
  rw[Uu,W7 k (by omega)];unfold adv;rw[if_pos (by show p.more - k > 0;omega)]
  show Probe.mk _ _ _ _ _=Probe.mk _ _ _ _ _;rw[Nat.add_assoc,Nat.sub_sub]
theorem W8{mask:Nat}{p:Probe}{i q:Nat}(h:Beg mask p i q):Beg mask (seq mask p (p.more+1)) (leap mask i q).1 (leap mask i q).2:=by
 obtain⟨h1,h2,h3,h4⟩:=h;rw[Uu,W7 p.more<|oAl _];unfold adv;rw[if_neg (by show ¬ p.more - p.more > 0;omega)]
 show Beg mask (Probe.mk (leap mask p.i p.perturb).1 _ _ _ _) _ _;rw[h2,h3];exact⟨rfl,rfl,rfl,rfl⟩
theorem more_le{mask i:Nat}:runEnd mask i - i<=9:=by unfold runEnd;split<;>omega
noncomputable def lp(mask i q:Nat):Nat->Nat×Nat
 |0=>(i,q)
 |n+1=>leap mask (lp mask i q n).1 (lp mask i q n).2
theorem Za6{mask:Nat}{p:Probe}{i q:Nat}(h:Beg mask p i q):∀ n:Nat,∃ k,k<=10 * n/\Beg mask (seq mask p k) (lp mask i q n).1 (lp mask i q n).2
 |0=>⟨0,by omega,h⟩
 | n+1=>by
  obtain⟨k,hk,b⟩:=Za6 h n;refine⟨k+((seq mask p k).more+1),?_,by rw[Z9];exact W8 b⟩
  have:=b.2.2.2;have:=more_le (mask:=mask) (i:=(lp mask i q n).1);omega
theorem lp_q{mask i q:Nat}:∀ n:Nat,(lp mask i q n).2=q / 32 ^ n
 |0=>by show q=q / 1;rw[Nat.div_one]
 | n+1=>by
  show (lp mask i q n).2 / 32=_;rw[lp_q n,Nat.div_div_eq_div_mul,Nat.pow_succ]
theorem JM{mask i q:Nat}{a:Nat}:∀ b:Nat,lp mask i q (a+b)=lp mask (lp mask i q a).1 (lp mask i q a).2 b
 |0=>rfl
 | b+1=>by
  show leap mask (lp mask i q<|a+b).1 (lp mask i q<|a+b).2=_;rw[JM b];rfl
theorem ZdI{mask i:Nat}:∀ n:Nat,(lp mask i 0 n).2=0:=λ n=>by rw[lp_q,Nat.zero_div]
noncomputable def orb(mask:Nat):Nat->Nat->List Nat
 |0,_=>[]
 |n+1,i=>i::orb mask n ((i * 5+1) % (mask+1))
theorem Zfc{mask i:Nat}(n:Nat):lp mask i 0 (n+1)=lp mask ((i * 5+1) % (mask+1)) 0 n:=by
 rw[Nat.add_comm,JM];show lp mask ((i * 5+1+0 / 32) % (mask+1)) (0 / 32) n=_;rw[Nat.zero_div,add_zero]
theorem Za7{mask:Nat}:∀ (m i n x:Nat),(orb mask m i)[n]?=some x->n<m/\(lp mask i 0 n).1=x
 |0,i,n,x,h=>by cases h
 |m+1,i,0,x,h=>by cases h;exact⟨by omega,rfl⟩
 | m+1,i,n+1,x,h=>by
  obtain⟨h1,h2⟩:=Za7 m _ n x h;exact⟨by omega,by rw[Zfc];exact h2⟩
abbrev cov(mask:Nat):Prop:=((List.range (mask+1)).all λ j=>(orb mask (mask+1) 0).contains j)=true/\(lp mask 0 0 (mask+1)).1=0
abbrev Mk(mask:Nat):Prop:=mask=7\/mask=31\/mask=127
theorem zz(h:Int):bits h<2 ^ 64:=by
 unfold bits;have:=emod_lt_of_pos h (show (0:Int)<2 ^ 64 by decide);have:=emod_nonneg h (show (2:Int) ^ 64≠0 by decide);omega
theorem ZcY{mask i q:Nat}(hi:i<=mask):∀ n:Nat,(lp mask i q n).1<=mask
 |0=>hi
 | n+1=>by
  show (_ % (mask+1))<=mask;exact Nat.le_of_lt_succ<|mod_lt _<|succ_pos _
theorem covM{mask:Nat}(h:Mk mask):cov mask:=by
 rcases h with rfl | rfl | rfl<;>decide +kernel
theorem from0{mask:Nat}(h:Mk mask){j:Nat}(hj:j<=mask):∃ n≤mask,(lp mask 0 0 n).1=j:=by
 have:=List.all_eq_true.1 (covM h).1 j<|List.mem_range.2 (by omega);obtain⟨n,hn⟩:=List.mem_iff_getElem?.1<|List.contains_iff_mem.1 this;obtain⟨h1,h2⟩:=Za7 _ _ _ _ hn;exact⟨n,by omega,h2⟩
theorem zA{mask i n:Nat}:lp mask i 0 n=((lp mask i 0 n).1,0):=Prod.ext rfl<|ZdI n
theorem W9{mask:Nat}(h:Mk mask){i j:Nat}(hi:i<=mask)(hj:j<=mask):∃ n≤mask,(lp mask i 0 n).1=j:=by
 obtain⟨a,ha,ea⟩:=from0 h hi;obtain⟨b,hb,eb⟩:=from0 h hj;have key:∀ n,lp mask 0 0 (a+n)=lp mask i 0 n:=λ n=>by rw[JM,zA (n:=a),ea]
 by_cases hab:a<=b
 ·exact⟨b - a,by omega,by rw[<- key,show a+(b - a)=b by omega];exact eb⟩
 ·refine⟨b+(mask+1) - a,by omega,?_⟩;rw[<- key,show a+(b+(mask+1) - a)=(mask+1)+b by omega,JM,zA (n:=mask+1),(covM h).2];exact eb
theorem met{mask:Nat}(h:Mk mask)(x:Int){j:Nat}(hj:j<=mask):∃ k,k<10 * turns mask/\(seq mask (st0 mask x) k).j=j:=by
 have b0:Beg mask (st0 mask x) (bits x % (mask+1)) (bits x):=⟨rfl,rfl,rfl,rfl⟩;have hi:bits x % (mask+1)<=mask:=Nat.le_of_lt_succ<|mod_lt _<|succ_pos _;have hq:(lp mask (bits x % (mask+1)) (bits x) 13).2=0:=by
  rw[lp_q];exact Nat.div_eq_of_lt<|lt_trans (zz x) (by decide)
 obtain⟨n,hn,en⟩:=W9 h (ZcY hi 13 (q:=bits x)) hj;obtain⟨k,hk,b⟩:=Za6 b0<|13+n;refine⟨k,by unfold turns;omega,?_⟩
 rw[b.1,JM,hq];exact en
noncomputable abbrev Q(t:SetTable)(h:Int)(k:Nat):Nat:=(seq t.mask (st0 t.mask h) k).j
def Way(mask:Nat)(pl:List Nat)(h:Int)(j:Nat):Prop:=∃ k,(seq mask (st0 mask h) k).j=j/\∀ m<k,(seq mask (st0 mask h) m).j∈pl
structure Tk(t:SetTable)(es:List (Int×Value)):Prop where
 km:Mk t.mask
 nd:t.dummies=#[]
 sz:t.place.size=es.length
 up:Up t.place.toList
 bd:∀ j∈t.place.toList,j<=t.mask
 few:es.length<=t.mask
 way:∀ (i j:Nat) (e:Int×Value),t.place.toList[i]?=some j->es[i]?=some e->Way t.mask t.place.toList e.1 j
theorem least{P:Nat->Prop}[DecidablePred P]:∀ k,P k->∃ e≤k,P e/\∀ m<e,¬ P m
 |0,h=>⟨0,oAl _,h,λ m z=>absurd z<|by omega⟩
 | k+1,h=>by
  by_cases g:∃ m≤k,P m
  ·obtain⟨m,hm,pm⟩:=g;obtain⟨e,he,pe,ne⟩:=least m pm;exact⟨e,by omega,pe,ne⟩
  ·exact⟨k+1,oAl _,h,λ m hm pm=>g ⟨m,by omega,pm⟩⟩
 termination_by k=>k
 decreasing_by omega
theorem q_le{mask:Nat}{h:Int}(hm:Mk mask):∀ k,(seq mask (st0 mask h) k).j<=mask/\(seq mask (st0 mask h) k).j+(seq mask (st0 mask h) k).more<=mask:=λ k=>by
 have run:∀ i,i<=mask->i+(runEnd mask i - i)<=mask:=λ i hi=>by unfold runEnd;split<;>omega
 have lt:∀ n,n % (mask+1)<=mask:=λ n=>Nat.le_of_lt_succ<|mod_lt _<|succ_pos _
 induction k with
 |zero=>exact⟨lt _,run _<|lt _⟩
 | succ k ih=>
  rw[Uu];unfold adv;split
  ·rename_i hp;exact⟨by show _+1<=_;omega,by show _+1+(_ - 1)<=_;omega⟩
  ·exact⟨lt _,run _<|lt _⟩
theorem Za8{t:SetTable}{es:List (Int×Value)}(T:Tk t es):∃ j≤t.mask,j∉t.place.toList:=by
 refine Classical.byContradiction λ hc=>?_;have hs:List.range (t.mask+1) ⊆ t.place.toList:=λ j hj=>Classical.byContradiction λ hn=>hc ⟨j,by have:=List.mem_range.1 hj;omega,hn⟩
 have:=List.Nodup.length_le_of_subset nodup_range hs;rw[length_range,length_toList,T.sz] at this;have:=T.few;omega
theorem Zae{t:SetTable}{es:List (Int×Value)}(T:Tk t es)(h:Int):∃ e,e<10 * turns t.mask/\Q t h e∉t.place.toList/\∀ m<e,Q t h m∈t.place.toList:=by
 obtain⟨j,hj,hn⟩:=Za8 T;obtain⟨k,hk,ek⟩:=met T.km h hj;obtain⟨e,he,pe,ne⟩:=least (P:=λ k=>Q t h k∉t.place.toList) k (by rw[show Q t h k=j from ek];exact hn)
 exact⟨e,by omega,pe,λ m hm=>Classical.byContradiction λ z=>ne m hm z⟩
theorem V7{mask:Nat}{p:Probe}:∀ k,(seq mask p k).dummy=p.dummy
 |0=>rfl
 |k+1=>by rw[Uu,V6,V7 k]
theorem qc{t:SetTable}{es:List (Int×Value)}(T:Tk t es){ha:Nat->Int}{h:Int}:∀ (d:Nat) (f:Nat) (p:Probe),d<f->p.dummy=none ->
  (∀ m<d,∃ i,t.place.toList[i]?=some (seq t.mask p m).j/\ha i≠h) ->
  (∀ r,((seq t.mask p d).j∉t.place.toList/\r=Met.empty (seq t.mask p d).j none\/∃ i,t.place.toList[i]?=some (seq t.mask p d).j/\ha i=h/\r=Met.candidate (seq t.mask p d).j i (seq t.mask p (d+1)))->probe.go t ha h f p=some r)
 |d,0,p,hf,_,_,_,_=>by omega
 | 0,f+1,p,hf,hd,_,r,hr=>by
  rw[probe.go]
  rcases hr with ⟨h1,rfl⟩ | ⟨i,h1,h2,rfl⟩
  ·rw[Za3 T.nd (j:=p.j) h1];dsimp only;rw[hd];rfl
  ·rw[JB T.up (j:=p.j) (by rw[<- getElem?_toList];exact h1)]
   dsimp only;rw[if_pos (by simp[h2]),Za5];rfl
 | d+1,f+1,p,hf,hd,ho,r,hr=>by
  obtain⟨i,h1,h2⟩:=ho 0 (by omega);rw[probe.go,JB T.up (j:=p.j) (by rw[<- getElem?_toList];exact h1)]
  dsimp only;rw[if_neg (by simp[h2]),Za5];exact qc T d f (adv t.mask p) (by omega) (by rw[V6];exact hd) (λ m hm=>ho (m+1)<|by omega) r hr
theorem UV{mask:Nat}{pl pl':List Nat}{h:Int}{j:Nat}(hs:∀ x∈pl,x∈pl')(w:Way mask pl h j):Way mask pl' h j:=by
 obtain⟨k,h1,h2⟩:=w;exact⟨k,h1,λ m hm=>hs _<|h2 m hm⟩
theorem Vk{α:Type}{l:List α}{p:Nat}{x:α}(hp:p<=l.length)(i:Nat):(l.take p++x::l.drop p)[i]?=if i<p then l[i]? else if i=p then some x else l[i - 1]?:=by
 have hlen:(l.take p).length=p:=by rw[length_take];omega
 by_cases h1:i<p
 ·rw[if_pos h1,getElem?_append_left (by omega),List.getElem?_take,if_pos h1]
 ·rw[if_neg h1,getElem?_append_right (by omega),hlen];by_cases h2:i=p
  ·rw[if_pos h2,h2,Nat.sub_self];rfl
  ·rw[if_neg h2,show i - p=(i - p - 1)+1 by omega,List.getElem?_cons_succ,List.getElem?_drop];congr 1;omega
theorem Vl{t:SetTable}{es:List (Int×Value)}(T:Tk t es){j:Nat}{h:Int}{x:Value}(hj:j∉t.place.toList)(hb:j<=t.mask)(hw:Way t.mask t.place.toList h j)(hf:es.length+1<=t.mask) :
  Tk (t.put j).1 (es.take (t.put j).2++(h,x)::es.drop (t.put j).2)/\(t.put j).1.mask=t.mask/\(t.put j).1.led=t.led/\(t.put j).1.plain=t.plain/\(t.put j).1.moves=t.moves:=by
 have e1:(t.put j).1={ t with place:=insertAt t.place (below t.place j) j,dummies:=#[] }:=by
  unfold SetTable.put;dsimp only;rw[T.nd,zy];rfl
 have e2:(t.put j).2=below t.place j:=rfl;rw[e1,e2];have hp:below t.place j<=t.place.toList.length:=by rw[length_toList];exact(below_at T.up j).1
 have hp2:below t.place j<=es.length:=by rw[<- T.sz];exact(below_at T.up j).1
 have epl:(insertAt t.place (below t.place j) j).toList=t.place.toList.take (below t.place j)++j::t.place.toList.drop (below t.place j):=toList_insertAt ..;have mem:∀ y,y∈(insertAt t.place (below t.place j) j).toList↔y=j\/y∈t.place.toList:=λ y=>by
  rw[epl,List.mem_append,mem_cons];constructor
  ·rintro (g | g | g)
   ·exact .inr<|mem_of_mem_take g
   ·exact .inl g
   ·exact .inr<|mem_of_mem_drop g
  ·rintro (g | g)
   ·exact .inr<|.inl g
   ·rw[<- List.take_append_drop (below t.place j) t.place.toList,List.mem_append] at g
    rcases g with g | g
    ·exact .inl g
    ·exact .inr<|.inr g
 refine⟨⟨T.km,rfl,?_,Zfb T.up hj,?_,?_,?_⟩,rfl,rfl,rfl,rfl⟩
 ·show (insertAt t.place (below t.place j) j).size=_;rw[<- length_toList,epl];simp only[length_append,length_cons,length_take,length_drop,length_toList];have:=T.sz;have:=(below_at T.up j).1;omega
 ·intro y hy
  rcases (mem y).mp hy with rfl | g
  ·exact hb
  ·exact T.bd y g
 ·simp only[length_append,length_cons,length_take,length_drop];show _<=t.mask;omega
 ·intro i y e hi he;show Way t.mask (insertAt t.place (below t.place j) j).toList e.1 y;have hi:(insertAt t.place (below t.place j) j).toList[i]?=some y:=hi;rw[epl,Vk hp] at hi;rw[Vk hp2] at he;split at hi
  ·rename_i g;rw[if_pos g] at he;exact UV (λ z hz=>(mem z).mpr<|.inr hz)<|T.way i y e hi he
  ·rename_i g;rw[if_neg g] at he;split at hi
   ·rename_i g2;rw[if_pos g2] at he;cases hi;cases he
    exact UV (λ z hz=>(mem z).mpr<|.inr hz) hw
   ·rename_i g2;rw[if_neg g2] at he;exact UV (λ z hz=>(mem z).mpr<|.inr hz)<|T.way _ y e hi he
noncomputable abbrev Ow:=Array (Option Nat)
def tk(o:Ow)(j:Nat):Prop:=(o.getD j (some 0)).isNone=false
def WayO(mask:Nat)(o:Ow)(h:Int)(j:Nat):Prop:=∃ k,(seq mask (st0 mask h) k).j=j/\∀ m<k,tk o (seq mask (st0 mask h) m).j
theorem zB{mask:Nat}{o:Ow}{h:Int}{N:Nat}(hN:(o.getD (lp mask (bits h % (mask+1)) (bits h) N).1 (some 0)).isNone=true):∀ (f n k:Nat),n<=N->N<n+f ->
  Beg mask (seq mask (st0 mask h) k) (lp mask (bits h % (mask+1)) (bits h) n).1 (lp mask (bits h % (mask+1)) (bits h) n).2->(∀ m<k,tk o (seq mask (st0 mask h) m).j) ->
  ∃ j,layClean.free mask o f (lp mask (bits h % (mask+1)) (bits h) n).1 (lp mask (bits h % (mask+1)) (bits h) n).2=some j/\(o.getD j (some 0)).isNone=true/\WayO mask o h j
 |0,n,k,h1,h2,_,_=>by omega
 | f+1,n,k,h1,h2,b,ho=>by
  generalize hi:(lp mask (bits h % (mask+1)) (bits h) n).1=i at *;generalize hq:(lp mask (bits h % (mask+1)) (bits h) n).2=q at *;have hre:i<=runEnd mask i:=by unfold runEnd;split<;>omega
  have pos:∀ m,m<=runEnd mask i - i->(seq mask (st0 mask h)<|k+m).j=i+m:=λ m hm=>by
   rw[Z9,W7 m (by rw[b.2.2.2];exact hm)]
   show _+m=_;rw[b.1]
  rw[layClean.free];cases hf:(List.range<|runEnd mask i+1 - i).find? λ k=>(o.getD (i+k)<|some 0).isNone with
  | some m=>
   obtain⟨g1,g2,g3⟩:=List.find?_range_eq_some.1 hf;have hm:=List.mem_range.1 g2;refine⟨i+m,rfl,g1,k+m,pos m (by omega),λ m' hm'=>?_⟩;by_cases hc:m'<k
   ·exact ho m' hc
   ·have:=g3 (m' - k) (by omega);have e:=pos (m' - k) (by omega);rw[show k+(m' - k)=m' by omega] at e;unfold tk;rw[e];simpa using this
  | none=>
   have all:∀ m,m<=runEnd mask i - i->tk o (i+m):=λ m hm=>by
    have:=List.find?_eq_none.1 hf m<|List.mem_range.2 (by omega);unfold tk;exact Bool.eq_false_iff.2 this
   have hne:n≠N:=λ e=>by
    subst e;have:=all 0 (by omega);unfold tk at this;rw[add_zero,<-hi,hN] at this;cases this
   have b2:=W8 b;rw[<- Z9] at b2;have e3:lp mask (bits h % (mask+1)) (bits h) (n+1)=leap mask i q:=by
    show leap mask (lp mask (bits h % (mask+1)) (bits h) n).1 (lp mask (bits h % (mask+1)) (bits h) n).2=_;rw[hi,hq]
   have:=zB hN f (n+1) _ (by omega) (by omega) (by rw[e3];exact b2) (λ m hm=>by
    by_cases hc:m<k
    ·exact ho m hc
    ·rw[b.2.2.2] at hm;have e:=pos (m - k) (by omega);rw[show k+(m - k)=m by omega] at e;rw[e];exact all _<|by omega)
   rw[e3] at this;exact this
theorem Za9{mask:Nat}(hm:Mk mask){o:Ow}{h:Int}{j0:Nat}(hj:j0<=mask)(h0:(o.getD j0 (some 0)).isNone=true) :
  ∃ j,layClean.free mask o (turns mask) (bits h % (mask+1)) (bits h)=some j/\(o.getD j (some 0)).isNone=true/\WayO mask o h j:=by
 have hi:bits h % (mask+1)<=mask:=Nat.le_of_lt_succ<|mod_lt _<|succ_pos _;have hq:(lp mask (bits h % (mask+1)) (bits h) 13).2=0:=by
  rw[lp_q];exact Nat.div_eq_of_lt<|lt_trans (zz h) (by decide)
 obtain⟨n,hn,en⟩:=W9 hm (ZcY hi 13 (q:=bits h)) hj;have e:(lp mask (bits h % (mask+1)) (bits h)<|13+n).1=j0:=by rw[JM,hq];exact en
 exact zB (N:=13+n) (by rw[e];exact h0) (turns mask) 0 0 (zero_le _) (by unfold turns;omega) ⟨rfl,rfl,rfl,rfl⟩<|λ m z=>absurd z (by omega)
structure Ld(mask:Nat)(hs:List Int)(o:Ow):Prop where
 sz:o.size=mask+1
 inj:∀ j j' k:Nat,o[j]?=some (some k)->o[j']?=some (some k)->j=j'
 all:∀ k<hs.length,∃ j:Nat,o[j]?=some (some k)
 bd:∀ j k:Nat,o[j]?=some (some k)->∃ h,hs[k]?=some h/\WayO mask o h j
theorem getD_at{o:Ow}{j:Nat}(h:(o.getD j (some 0)).isNone=true):o[j]?=some none:=by
 by_cases hj:j<o.size
 ·rw[getElem?_eq_getElem hj];have e:o.getD j (some 0)=o[j]:=by simp[getD,hj]
  rw[e] at h;cases g:o[j] with
  |none=>rfl
  |some k=>rw[g] at h;cases h
 ·have e:o.getD j (some 0)=some 0:=by simp[getD,hj]
  rw[e] at h;cases h
theorem Zfd{o:Ow}{j j':Nat}{k:Nat}(h:tk o j'):tk (o.setIfInBounds j (some k)) j':=by
 unfold tk at h ⊢;by_cases hj:j'<o.size
 ·have e:o.getD j' (some 0)=o[j']:=by simp[getD,hj]
  rw[e] at h;have e2:(o.setIfInBounds j<|some k).getD j' (some 0)=if j=j' then some k else o[j']:=by simp[getD,hj,Array.getElem_setIfInBounds]
  rw[e2];split
  ·rfl
  ·exact h
 ·have e2:(o.setIfInBounds j<|some k).getD j' (some 0)=some 0:=by simp[getD,hj]
  rw[e2];rfl
theorem Zcf{mask:Nat}(hm:Mk mask){hs:List Int}{o:Ow}(L:Ld mask hs o)(hl:hs.length<=mask)(h:Int) :
  ∃ j,layClean.free mask o (turns mask) (bits h % (mask+1)) (bits h)=some j/\Ld mask (hs++[h]) (o.setIfInBounds j (some hs.length)):=by
 have hfree:∃ j0≤mask,(o.getD j0<|some 0).isNone=true:=by
  refine Classical.byContradiction λ hc=>?_;have key:∀ j∈List.range (mask+1),∃ k:Nat,o[j]?=some (some k):=λ j hj=>by
   have hj:=List.mem_range.1 hj;have hjs:j<o.size:=by rw[L.sz];exact hj
   cases g:o[j] with
   |none=>exact absurd ⟨j,by omega,by simp[getD,hjs,g]⟩ hc
   |some k=>exact⟨k,by rw[getElem?_eq_getElem hjs,g]⟩
  let f:Nat->Nat:=λ j=>((o[j]?).join).getD 0
  have nd:((List.range<|mask+1).map f).Nodup:=by
   refine List.Pairwise.map f (R:=λ a b=>a≠b/\a∈List.range (mask+1)/\b∈List.range (mask+1)) (λ a b ⟨h1,h2,h3⟩ e=>?_) ?_
   ·obtain⟨ka,ea⟩:=key a h2;obtain⟨kb,eb⟩:=key b h3;have:ka=kb:=by
     have e:((o[a]?).join).getD 0=((o[b]?).join).getD 0:=e;rw[ea,eb] at e;exact e
    subst this;exact h1<|L.inj a b ka ea eb
   ·exact(List.pairwise_iff_forall_sublist.2 λ {a b} hab=>⟨(List.pairwise_iff_forall_sublist.1 nodup_range) hab,hab.subset (by simp),hab.subset<|by simp⟩)
  have sub:((List.range<|mask+1).map f) ⊆ List.range hs.length:=λ x hx=>by
   obtain⟨j,hj,rfl⟩:=List.mem_map.1 hx;obtain⟨k,ek⟩:=key j hj;obtain⟨h',hh,_⟩:=L.bd j k ek;show ((o[j]?).join).getD 0∈_;rw[ek];exact List.mem_range.2 (List.getElem?_eq_some_iff.1 hh).1
  have:=List.Nodup.length_le_of_subset nd sub;rw[length_map,length_range,length_range] at this;omega
 obtain⟨j0,hj0,h0⟩:=hfree;obtain⟨j,e,hn,w⟩:=Za9 hm (h:=h) hj0 h0;have hj:=getD_at hn;have hjs:j<o.size:=(Array.getElem?_eq_some_iff.1 hj).1;have at':∀ j':Nat,(o.setIfInBounds j<|some hs.length)[j']?=if j=j' then some (some hs.length) else o[j']?:=λ j'=>by
  rw[Array.getElem?_setIfInBounds];split
  ·rename_i e;subst e;first | rfl | rw[if_pos hjs]
  ·rfl
 have wm:∀ {h':Int}{j':Nat},WayO mask o h' j'->WayO mask (o.setIfInBounds j<|some hs.length) h' j':=λ ⟨k,h1,h2⟩=>⟨k,h1,λ m hm=>Zfd<|h2 m hm⟩;refine⟨j,e,⟨by rw[Array.size_setIfInBounds];exact L.sz,λ a b k ha hb=>?_,λ k hk=>?_,λ a k ha=>?_⟩⟩
 ·rw[at'] at ha hb;split at ha
  ·rename_i ea;cases ha
   split at hb
   ·rename_i eb;omega
   ·obtain⟨h',hh,_⟩:=L.bd b _ hb;have:=(List.getElem?_eq_some_iff.1 hh).1;omega
  ·split at hb
   ·cases hb
    obtain⟨h',hh,_⟩:=L.bd a _ ha;have:=(List.getElem?_eq_some_iff.1 hh).1;omega
   ·exact L.inj a b k ha hb
 ·rw[length_append] at hk;have hk:k<hs.length+1:=hk;by_cases hc:k=hs.length
  ·exact⟨j,by rw[at',if_pos rfl,hc]⟩
  ·obtain⟨j',hj'⟩:=L.all k (by omega);refine⟨j',?_⟩;rw[at',if_neg]
   ·exact hj'
   ·intro z;rw[<- z,hj] at hj';cases hj'
 ·rw[at'] at ha;split at ha
  ·rename_i ea;cases ha
   exact⟨h,by rw[getElem?_append_right<|oAl _,Nat.sub_self];rfl,ea ▸ wm w⟩
  ·obtain⟨h',hh,hw⟩:=L.bd a k ha;exact⟨h',by rw[getElem?_append_left (List.getElem?_eq_some_iff.1 hh).1];exact hh,wm hw⟩
theorem qd{mask:Nat}(hm:Mk mask):∀ (rest hs:List Int) (o:Ow),Ld mask hs o->hs.length+rest.length<=mask+1 ->
  ∃ o',rest.foldl (init:=some (o,hs.length)) (λ acc h=>do
   let (owner,k)<-acc
   let j<-layClean.free mask owner (turns mask) (bits h % (mask+1)) (bits h)
   pure (owner.setIfInBounds j (some k),k+1))=some (o',hs.length+rest.length)/\Ld mask (hs++rest) o'
 |[],hs,o,L,_=>⟨o,rfl,by rw[append_nil];exact L⟩
 | h::rest,hs,o,L,hl=>by
  rw[length_cons] at hl;obtain⟨j,e,L'⟩:=Zcf hm L (by omega) h;obtain⟨o',e',L''⟩:=qd hm rest (hs++[h]) _ L' (by rw[length_append];show hs.length+1+_<=_;omega)
  refine⟨o',?_,by rw[List.append_cons];exact L''⟩
  rw[foldl_cons];have e2:(do
   let (owner,k)<-some (o,hs.length)
   let j<-layClean.free mask owner (turns mask) (bits h % (mask+1)) (bits h)
   pure (owner.setIfInBounds j<|some k,k+1):Option (Ow×Nat))=some (o.setIfInBounds j<|some hs.length,(hs++[h]).length):=by
   show (layClean.free mask o (turns mask) (bits h % (mask+1))<|bits h).bind _=_;rw[e,length_append];rfl
  rw[e2,e',length_append,length_cons];show some (o',hs.length+1+rest.length)=some (o',hs.length+(rest.length+1));rw[Nat.add_right_comm,Nat.add_assoc]
theorem Zfe(mask:Nat):Ld mask [] (Array.replicate (mask+1) none):=by
 have no:∀ j k:Nat,(Array.replicate (mask+1) (none:Option Nat))[j]?=some (some k)->False:=λ j k h=>by
  rw[Array.getElem?_replicate] at h;split at h<;>cases h
 exact⟨Array.size_replicate,λ j _ k h=>(no j k h).elim,λ k hk=>absurd hk<|Nat.not_lt_zero _,λ j k h=>(no j k h).elim⟩
theorem Zff{mask:Nat}(hm:Mk mask){hs:Array Int}(hl:hs.size<=mask+1):∃ o,layClean mask hs=some o/\Ld mask hs.toList o:=by
 obtain⟨o,e,L⟩:=qd hm hs.toList [] _ (Zfe mask) (by rw[length_toList];simpa using hl)
 refine⟨o,?_,L⟩;unfold layClean;rw[<- Array.foldl_toList];show (List.foldl _ (some (Array.replicate (mask+1) none,([]:List Int).length)) hs.toList).map _=_;rw[e];rfl
theorem Zba{t:SetTable}{es:List (Int×Value)}{wanted:Nat}(hm:Mk (sizeAbove wanted - 1))(hl:es.length<=sizeAbove wanted - 1) :
  ∃ t' order,t.relaid (es.map (·.1)).toArray wanted=some (t',order)/\t'.mask=sizeAbove wanted - 1/\t'.plain=t.plain/\Tk t' (order.toList.filterMap λ i=>es[i]?)/\(order.toList.filterMap λ i=>es[i]?).Perm es:=by
 generalize hmk:sizeAbove wanted - 1=mask at *;obtain⟨o,e,L⟩:=Zff hm (hs:=(es.map (·.1)).toArray) (by simp;omega)
 have L:Ld mask (es.map (·.1)) o:=L
 let live:List (Nat×Nat):=(List.range<|mask+1).filterMap λ j=>(o.getD j none).map (j,·)
 have liv:∀ j k,(j,k)∈live↔o[j]?=some (some k):=λ j k=>by
  show (j,k)∈List.filterMap _ _↔_;rw[List.mem_filterMap];constructor
  ·rintro⟨j',hj',h⟩;obtain⟨k',h1,h2⟩:=zoM h;cases h2
   have hlt:j<o.size:=by rw[L.sz];exact List.mem_range.1 hj'
   have e:o.getD j none=o[j]:=by simp[getD,hlt]
   rw[getElem?_eq_getElem hlt,<-e,h1]
  ·intro h;have hlt:=(Array.getElem?_eq_some_iff.1 h).1;refine⟨j,List.mem_range.2 (by rw[<- L.sz];exact hlt),?_⟩
   have e:o.getD j none=o[j]:=by simp[getD,hlt]
   rw[getElem?_eq_getElem hlt] at h;rw[e,oAk h];rfl
 have upl:live.Pairwise λ a b=>a.1<b.1:=by
  refine List.pairwise_filterMap.2 ?_;refine List.Pairwise.imp (λ {a b} hab x hx y hy=>?_)<|List.pairwise_lt_range (n:=mask+1);obtain⟨_,_,rfl⟩:=zoM hx;obtain⟨_,_,rfl⟩:=zoM hy;exact hab
 have up:Up (live.map (·.1)):=List.pairwise_map.2 upl;have ndo:(live.map (·.2)).Nodup:=by
  refine List.pairwise_map.2<|List.pairwise_iff_forall_sublist.2 λ {a b} hab z=>?_;have hlt:=List.pairwise_iff_forall_sublist.1 upl hab;have h1:=(liv a.1 a.2).mp<|hab.subset (by simp);have h2:=(liv b.1 b.2).mp<|hab.subset (by simp);rw[<- z] at h2;have:=L.inj _ _ _ h1 h2;omega
 have perm:(live.map (·.2)).Perm (List.range es.length):=by
  refine(List.perm_ext_iff_of_nodup ndo nodup_range).mpr λ k=>?_;rw[List.mem_map,List.mem_range];constructor
  ·rintro⟨⟨j,k'⟩,hm',rfl⟩;obtain⟨h,hh,_⟩:=L.bd j k'<|(liv j k').mp hm';have:=(List.getElem?_eq_some_iff.1 hh).1;rw[length_map] at this;exact this
  ·intro hk;obtain⟨j,hj⟩:=L.all k (by rw[length_map];exact hk)
   exact⟨(j,k),(liv j k).mpr hj,rfl⟩
 have pes:((live.map (·.2)).filterMap λ i=>es[i]?).Perm es:=by
  have:=perm.filterMap λ i=>es[i]?;rw[List.filterMap_getElem?_range_length] at this;exact this
 have hat:∀ i:Nat,((live.map (·.2)).filterMap λ i=>es[i]?)[i]?=(live[i]?).bind λ p=>es[p.2]?:=by
  have gen:∀ (l:List (Nat×Nat)),(∀ p∈l,p.2<es.length)->∀ i:Nat,((l.map (·.2)).filterMap λ i=>es[i]?)[i]?=(l[i]?).bind λ p=>es[p.2]?:=by
   intro l
   induction l with
   |nil=>intro _ i;rfl
   | cons p l ih=>
    intro h i;have hlp:=h p<|.head _;have hp:es[p.2]?=some es[p.2]:=oAt hlp;rw[map_cons,filterMap_cons,hp];cases i with
    |zero=>show some _=es[p.2]?;rw[hp]
    |succ i=>exact ih (λ q hq=>h q<|.tail _ hq) i
  refine gen live λ p hp=>?_;have:=perm.mem_iff.1<|List.mem_map.2 ⟨p,hp,rfl⟩;exact List.mem_range.1 this
 refine⟨{ mask,place:=(live.map (·.1)).toArray,dummies:=#[],finger:=t.finger,led:=t.led,moves:=t.movedTo mask,plain:=t.plain },(live.map (·.2)).toArray,?_,rfl,rfl,⟨hm,rfl,?_,up,?_,?_,?_⟩,?_⟩
 ·unfold relaid laid;rw[hmk,e];rfl
 ·show ((live.map (·.1)).toArray).size=((live.map (·.2)).toArray.toList.filterMap λ i=>es[i]?).length;rw[size_toArray,length_map];show _=((live.map (·.2)).filterMap λ i=>es[i]?).length;rw[pes.length_eq,<-length_range (n:=es.length),<-perm.length_eq,length_map]
 ·intro j hj;obtain⟨⟨j',k⟩,hm',rfl⟩:=List.mem_map.1 hj;have:=(Array.getElem?_eq_some_iff.1<|(liv j' k).mp hm').1;rw[L.sz] at this;show j'<=mask;omega
 ·show ((live.map (·.2)).filterMap λ i=>es[i]?).length<=mask;rw[pes.length_eq];exact hl
 ·intro i j en hi he;have hi:(live.map (·.1))[i]?=some j:=hi;have he:((live.map (·.2)).filterMap λ i=>es[i]?)[i]?=some en:=he;rw[getElem?_map] at hi;obtain⟨⟨j',k⟩,hp,rfl⟩:=zoM hi;rw[hat,hp] at he;have he:es[k]?=some en:=he;obtain⟨h,hh,k2,w1,w2⟩:=L.bd j' k<|(liv j' k).mp<|mem_of_getElem? hp;rw[getElem?_map,he] at hh;cases hh
  refine⟨k2,w1,λ m hm'=>?_⟩;have:=w2 m hm';show _∈live.map (·.1);have hq:=(q_le hm (h:=en.1) m).1;have hlt:(seq mask (st0 mask en.1) m).j<o.size:=by rw[L.sz];omega
  unfold tk at this;have e2:o.getD (seq mask (st0 mask en.1) m).j (some 0)=o[(seq mask (st0 mask en.1) m).j]:=by simp[getD,hlt]
  rw[e2] at this;cases g:o[(seq mask (st0 mask en.1) m).j] with
  |none=>rw[g] at this;cases this
  |some k3=>exact List.mem_map.2 ⟨(_,k3),(liv _ k3).mpr (by rw[getElem?_eq_getElem hlt,g]),rfl⟩
 ·exact pes
section
variable {prog:Program}{w:World}{K:Type} [DecidableEq K] {knd:KeyKind prog w K}{A:Around}{E:zVP}{s:Shared}
theorem Wm(n:Nat){v:Value}(h:carriedByValue v=true):ofAClassStatement n v=pure false:=by
 cases v<;>first | (cases h;done) | (unfold ofAClassStatement;rfl)
theorem zC{ks:List K}{a:Addr}{Q:Bool->Shared->Prop}(hk:IsTupleKey knd s.heap ks a)(h:Q false s):wpAny (model prog w) A (ofAClassStatement 8 (.ref a)) Q E s:=by
 have hT:=hk.typeIs;obtain⟨o,items,n,ho,_,hd,hi⟩:=hk;unfold ofAClassStatement;refine oAa<|wpAny_typeOf hT ?_;dsimp only;rw[if_pos (by decide)];refine oAa<|oAb ?_;simp only[Bool.not_true,false_eq_true,if_false];refine oAa<|wpAny_seqItems ho hd ?_;dsimp only;refine oAa ?_;rw[<- Array.forIn_toList];refine wpAny_forIn_list _ (λ rest r s'=>r.1=none/\s'=s/\∀ v∈rest,carriedByValue v=true) _ ?_ ?_ _ _ ⟨rfl,rfl,hi.byValue⟩
 ·rintro v rest r s' ⟨hr,rfl,hall⟩;rw[Wm _<|hall v oAn];refine oAa<|oAb ?_;simp only[false_eq_true,if_false];exact oAb ⟨rfl,rfl,λ u hu'=>hall u<|oAm _ hu'⟩
 ·rintro⟨r1,r2⟩ s' ⟨hr,rfl,_⟩;simp only at hr;subst hr;exact oAb h
theorem Zfg{z:List K}{b:Addr}{l:List Value}{Q:Bool->Shared->Prop}(hz:IsTupleKey knd s.heap z b)(hl:∀ v∈l,∃ y c,v=.ref c/\IsTupleKey knd s.heap y c)(h:Q false s):wpAny (model prog w) A (searchCouldBeSeen (.ref b) l) Q E s:=by
 unfold searchCouldBeSeen;refine oAa ?_;refine wpAny_forIn_list _ (λ rest r s'=>r.1=none/\s'=s/\∀ v∈rest,∃ y c,v=.ref c/\IsTupleKey knd s.heap y c) _ ?_ ?_ _ _ ⟨rfl,rfl,hl⟩
 ·rintro v rest r s' ⟨hr,rfl,hall⟩;obtain⟨y,c,rfl,hc⟩:=hall v oAn;dsimp only;split
  ·exact oAb ⟨rfl,rfl,λ u hu'=>hall u<|oAm _ hu'⟩
  ·refine oAa<|wpAny_eqIsQuiet_tuple hz ?_;simp only[Bool.not_true,false_eq_true,if_false];refine oAa<|wpAny_eqIsQuiet_tuple hc ?_;simp only[Bool.not_true,false_eq_true,if_false];refine oAa<|zC hz ?_;simp only[false_eq_true,if_false];refine oAa<|zC hc ?_;simp only[false_eq_true,if_false];exact oAb ⟨rfl,rfl,λ u hu'=>hall u<|oAm _ hu'⟩
 ·rintro⟨r1,r2⟩ s' ⟨hr,rfl,_⟩;simp only at hr;subst hr;exact oAb h
end
open Classical in
theorem leastC{P:Nat->Prop}(k:Nat)(h:P k):∃ e≤k,P e/\∀ m<e,¬ P m:=least k h
section
variable {prog:Program}{w:World}{K:Type} [DecidableEq K] {knd:KeyKind prog w K}{A:Around}{E:zVP}{s:Shared}
structure En(knd:KeyKind prog w K)(h:Heap)(es:List (Int×Value))(ys:List (List K)):Prop where
 len:es.length=ys.length
 get:∀ (i:Nat) (e:Int×Value) (y:List K),es[i]?=some e->ys[i]?=some y->∃ c,e=(tupleKeyHash knd y,.ref c)/\IsTupleKey knd h y c
theorem En.at{h:Heap}{es:List (Int×Value)}{ys:List (List K)}(H:En knd h es ys){i:Nat}{e:Int×Value}(he:es[i]?=some e):∃ y c,ys[i]?=some y/\e=(tupleKeyHash knd y,.ref c)/\IsTupleKey knd h y c:=by
 have hi:i<ys.length:=by rw[<- H.len];exact(List.getElem?_eq_some_iff.1 he).1
 obtain⟨c,h1,h2⟩:=H.get i e ys[i] he (oAt hi);exact⟨_,c,oAt hi,h1,h2⟩
theorem Uv{t:SetTable}{es:List (Int×Value)}(T:Tk t es):t.fits es.length=true:=by
 unfold SetTable.fits SetTable.fill;rw[T.sz,T.nd];simp only[beq_self_eq_true,Bool.true_and,decide_eq_true_eq];exact T.few
theorem Zfh{t:SetTable}{es:List (Int×Value)}(T:Tk t es):t.gaveWay=false:=by
 unfold SetTable.gaveWay
 rcases T.km with h | h | h<;>rw[h]<;>rfl
theorem Zcg{a b:Addr}{o:Obj}{es:Array (Int×Value)}{ep:Nat}{t:SetTable}{ys:List (List K)}{z:List K}{adding:Bool}{Qr:SetFound->Shared->Prop}{e:Nat}(hu:A.units<cLine)
  (ho:s.heap.get? a=some o)(hd:o.data=.set es ep t)(T:Tk t es.toList)(he:En knd s.heap es.toList ys)(hz:IsTupleKey knd s.heap z b)
  (f1:Q t (tupleKeyHash knd z) e∉t.place.toList)(f2:∀ m<e,Q t (tupleKeyHash knd z) m∈t.place.toList)(f3:e<10 * turns t.mask)
  (h1:z∈ys->∀ i:Option Nat,(adding=true\/i.isSome=true)->Qr (.there i) s)(h2:z∉ys->Qr (.free (Q t (tupleKeyHash knd z) e) false) s) :
  ∀ (n k fuel:Nat) (stand:Option Probe),e - k<=n->k<=e->n<fuel->stand.getD (t.probeStart (tupleKeyHash knd z))=seq t.mask (st0 t.mask (tupleKeyHash knd z)) k ->
   (∀ m<k,∀ i:Nat,t.place.toList[i]?=some (Q t (tupleKeyHash knd z) m)->ys[i]?≠some z)->wpAny (model prog w) A (setSearchFrom a (.ref b) (tupleKeyHash knd z) adding fuel stand) Qr E s:=by
 intro n
 induction n using Nat.strongRecOn with
 |_ n ih=>
 intro k fuel stand hn hk hf hs hno;obtain⟨f,rfl⟩:∃ f,fuel=f+1:=⟨fuel - 1,by omega⟩;generalize hh:tupleKeyHash knd z=h at *;have idx:∀ {i i' j:Nat},t.place.toList[i]?=some j->t.place.toList[i']?=some j->i=i':=λ {i i' j} g1 g2=>by
  rcases Nat.lt_trichotomy i i' with g | g | g
  ·have:=Vj T.up g1 g2 g;omega
  ·exact g
  ·have:=Vj T.up g2 g1 g;omega
 obtain⟨d,hd1,hd2,hd3⟩:=leastC (P:=λ d=>Q t h (k+d)∉t.place.toList\/∃ (i:Nat) (en:Int×Value),t.place.toList[i]?=some (Q t h<|k+d)/\es.toList[i]?=some en/\en.1=h) (e - k)<|.inl (by rw[show k+(e - k)=e by omega];exact f1)
 have key:∀ ha:Nat->Int,(∀ (i:Nat) (en:Int×Value),es.toList[i]?=some en->ha i=en.1)->∀ r,(Q t h (k+d)∉t.place.toList/\r=Met.empty (Q t h<|k+d) none\/∃ (i:Nat) (en:Int×Value),t.place.toList[i]?=some (Q t h<|k+d)/\es.toList[i]?=some en/\en.1=h/\r=Met.candidate (Q t h<|k+d) i (seq t.mask (st0 t.mask h)<|k+d+1))->t.probe ha h (seq t.mask (st0 t.mask h) k)=some r:=by
  intro ha hha r hr;unfold SetTable.probe;refine qc T (ha:=ha) (h:=h) d _ _ (by omega) (by rw[V7];rfl) (λ m hm=>?_) r ?_
  ·have:=hd3 m hm;have hin:Q t h (k+m)∈t.place.toList:=Classical.byContradiction λ z=>this<|.inl z;obtain⟨i,hi⟩:=List.mem_iff_getElem?.1 hin;have hlt:i<es.toList.length:=by rw[<- T.sz,<-length_toList];exact(List.getElem?_eq_some_iff.1 hi).1
   refine⟨i,by rw[<- Z9];exact hi,λ z=>this<|.inr ⟨i,es.toList[i],hi,oAt hlt,?_⟩⟩
   rw[<- hha i _ (oAt hlt)];exact z
  ·rcases hr with ⟨g1,g2⟩ | ⟨i,en,g1,g2,g3,g4⟩
   ·exact .inl ⟨by rw[<- Z9];exact g1,by rw[<- Z9];exact g2⟩
   ·exact .inr ⟨i,by rw[<- Z9];exact g1,by rw[hha i en g2];exact g3,by rw[<- Z9,<-Z9];exact g4⟩
 have hfit:t.fits es.size=true:=by have:=Uv T;rw[length_toList] at this;exact this
 unfold setSearchFrom;refine oAa<|wpAny_setState_of ho hd hfit ?_;dsimp only;rw[Zfh T];simp only[false_eq_true,if_false];rw[hs]
 rcases hd2 with hfree | ⟨i,en,hi1,hi2,hi3⟩
 ·rw[key _ ?_ _<|.inl ⟨hfree,rfl⟩]
  ·dsimp only;have hke:k+d=e:=by
    rcases Nat.lt_or_ge (k+d) e with g | g
    ·exact absurd (f2 _ g) hfree
    ·omega
   rw[hke] at hfree ⊢;refine oAb<|h2 λ hin=>?_;obtain⟨i0,hi0⟩:=List.mem_iff_getElem?.1 hin;have hlt:i0<es.toList.length:=by rw[he.len];exact(List.getElem?_eq_some_iff.1 hi0).1
   obtain⟨c,e1,e2⟩:=he.get i0 _ _ (oAt hlt) hi0;have hlp:i0<t.place.toList.length:=by rw[length_toList,T.sz];exact hlt
   obtain⟨k0,w1,w2⟩:=T.way i0 _ _ (oAt hlp)<|oAt hlt;rw[e1] at w1 w2;rw[show (tupleKeyHash knd z,Value.ref c).1=h from hh] at w1 w2;have hp0:t.place.toList[i0]?=some (Q t h k0):=by rw[oAt hlp,<-w1]
   have hk0:k0<e:=by
    rcases Nat.lt_trichotomy k0 e with g | g | g
    ·exact g
    ·subst g;exact absurd (mem_of_getElem? hp0) f1
    ·exact absurd (w2 e g) f1
   by_cases hc:k0<k
   ·exact hno k0 hc i0 hp0 hi0
   ·refine hd3 (k0 - k) (by omega) (.inr ⟨i0,es.toList[i0],by rw[show k+(k0 - k)=k0 by omega];exact hp0,oAt hlt,?_⟩)
    rw[e1];exact hh
  ·intro i en hen;show (Option.map (·.1) es[i]?).getD 0=en.1;rw[<- getElem?_toList,hen];rfl
 ·have hlt:k+d<e:=by
   rcases Nat.lt_or_ge (k+d) e with g | g
   ·exact g
   ·have:k+d=e:=by omega
    rw[this] at hi1;exact absurd (mem_of_getElem? hi1) f1
  rw[key _ ?_ _<|.inr ⟨i,en,hi1,hi2,hi3,rfl⟩]
  ·dsimp only;obtain⟨y,c,hy,e1,e2⟩:=he.at hi2;have hrest:wpAny (model prog w) A (do
     let some (_,y):=es[i]? | unsupported "internal:set-entry"
     let equal<-holding [y] (eqBool y<|.ref b)
     let (es',_,t')<-setState a
     if adding&&equal then return SetFound.there none
     let some same:=t'.sameMemory t.moves t.mask | unsupported "set.changed-during-lookup:is-the-new-block-at-the-old-address"
     let still<-match (if same then t'.slot (Q t h<|k+d) else .empty) with
      | .live i'=>match es'[i']? with
       |some (_,y')=>do pure (if<-isSame y' y then some i' else none)
       |none=>pure none
      |_=>pure none
     match still with
     |none=>rule "set.search.anew";setSearchFrom a (.ref b) h adding f none
     |some i'=>if equal then return .there (some i') else setSearchFrom a (.ref b) h adding f (some<|seq t.mask (st0 t.mask h)<|k+d+1)) Qr E s:=by
    rw[<- getElem?_toList,hi2,e1];dsimp only;refine oAa<|wpAny_holding<|wpAny_eqBool_tuple hu e2 hz ?_;refine oAa<|wpAny_setState_of ho hd hfit ?_;dsimp only;by_cases hyz:y=z
    ·have hin:z∈ys:=by rw[<- hyz];exact mem_of_getElem? hy
     rw[oAi hyz];cases adding with
     |true=>exact oAb<|h1 hin none<|.inl rfl
     | false=>
      simp only[Bool.false_and,false_eq_true,if_false];unfold SetTable.sameMemory;simp only[beq_self_eq_true,if_true];rw[JB T.up (by rw[<- getElem?_toList];exact hi1)]
      dsimp only;rw[<- getElem?_toList,hi2,e1];dsimp only;refine oAa<|wpAny_isSame_ref_self<|oAa<|oAb ?_;exact oAb<|h1 hin _<|.inr rfl
    ·rw[oAh hyz];simp only[Bool.and_false,false_eq_true,if_false];unfold SetTable.sameMemory;simp only[beq_self_eq_true,if_true];rw[JB T.up (by rw[<- getElem?_toList];exact hi1)]
     dsimp only;rw[<- getElem?_toList,hi2,e1];dsimp only;refine oAa<|wpAny_isSame_ref_self<|oAa<|oAb ?_;simp only[if_true];refine ih (n - 1) (by omega) (k+d+1) f _ (by omega) (by omega) (by omega) rfl<|λ m hm i' hi'=>?_;by_cases hc:m<k
     ·exact hno m hc i' hi'
     ·intro hz';by_cases hc2:m=k+d
      ·subst hc2;rw[idx hi' hi1,hy] at hz';exact hyz<|oAk hz'
      ·have hlt':i'<es.toList.length:=by rw[he.len];exact(List.getElem?_eq_some_iff.1 hz').1
       obtain⟨c',e1',_⟩:=he.get i' _ _ (oAt hlt') hz';refine hd3 (m - k) (by omega)<|.inr ⟨i',es.toList[i'],by rw[show k+(m - k)=m by omega];exact hi',oAt hlt',?_⟩
       rw[e1'];exact hh
   cases t.led with
   |true=>exact hrest
   | false=>
    simp only[Bool.not_false,if_true];refine oAa<|Zfg hz (λ v hv=>?_) ?_
    ·obtain⟨en',hm',rfl⟩:=List.mem_map.1 hv;have hm2:en'∈es.toList:=by
      have:=Array.mem_toList_iff.1 hm';exact Array.mem_toList_iff.2 (Array.mem_filter.1 this).1
     obtain⟨i2,hi2'⟩:=List.mem_iff_getElem?.1 hm2;obtain⟨y2,c2,_,e3,e4⟩:=he.at hi2';exact⟨y2,c2,by rw[e3],e4⟩
    ·simp only[false_eq_true,if_false];exact hrest
  ·intro i en hen;show (Option.map (·.1) es[i]?).getD 0=en.1;rw[<- getElem?_toList,hen];rfl
end
section
variable {prog:Program}{w:World}{K:Type} [DecidableEq K] {knd:KeyKind prog w K}{A:Around}{E:zVP}{s:Shared}
theorem Zfi(n:Nat){v:Value}(h:carriedByValue v=true):∃ r,hashByValue n v=pure r:=by
 cases v<;>first | (cases h;done) | exact⟨_,by unfold hashByValue;rfl⟩
theorem ZgE{ks:List K}{a:Addr}{Qb:Bool->Shared->Prop}(hk:IsTupleKey knd s.heap ks a)(h:∀ r,Qb r s):wpAny (model prog w) A (hashByValue 8 (.ref a)) Qb E s:=by
 have hT:=hk.typeIs;obtain⟨o,items,n,ho,_,hd,hi⟩:=hk;unfold hashByValue;refine oAa<|wpAny_specialOf hT F.slot_tuple_hash.lookup ?_;dsimp only;refine oAa<|wpAny_seqItems ho hd ?_;show wpAny _ _ (forIn items _ _>>=_) _ _ s;refine oAa ?_;rw[<- Array.forIn_toList];refine wpAny_forIn_list _ (λ rest r s'=>r.1=none/\s'=s/\∀ v∈rest,carriedByValue v=true) _ ?_ ?_ _ _ ⟨rfl,rfl,hi.byValue⟩
 ·rintro v rest r s' ⟨hr,rfl,hall⟩;obtain⟨q,e⟩:=Zfi 7<|hall v oAn;rw[e];refine oAa<|oAb ?_;cases q with
  | true=>
   simp only[Bool.not_true,false_eq_true,if_false];exact oAb ⟨rfl,rfl,λ u hu'=>hall u<|oAm _ hu'⟩
  | false=>
   simp only[Bool.not_false,if_true];exact oAb<|oAb<|h _
 ·rintro⟨r1,r2⟩ s' ⟨hr,rfl,_⟩;simp only at hr;subst hr;exact oAb<|h _
theorem zD{a:Addr}{o:Obj}{es es':Array (Int×Value)}{ep:Nat}{t t':SetTable}{Qu:Unit->Shared->Prop}(ho:s.heap.get? a=some o)(hd:o.data=.set es ep t)(hb:es'.size<scanBound)
  (h:∀ h',SameBut a s.heap h'->h'.get? a=some { o with data:=.set es' (ep+1) t' }->Qu () { s with heap:=h' }):wpAny (model prog w) A (storeSet a es' t') Qu E s:=by
 refine wpAny_storeSet_of ho hd (h _ (Heap.SameBut.update ..) ?_)<|fits_of_scanBound hb;have g:=get?_update_self (Obj.putSet es' t') ho (by rw[putSet_of es' t' hd];rfl)
 rwa [putSet_of es' t' hd] at g
theorem UW{h h':Heap}{ks:List K}{a c:Addr}{o:Obj}{es:Array (Int×Value)}{ep:Nat}{t:SetTable}(x:IsTupleKey knd h ks c)(ho:h.get? a=some o)(hd:o.data=.set es ep t)(hs:SameBut a h h'):IsTupleKey knd h' ks c:=by
 obtain⟨o',items,n,h1,h2,h3,h4⟩:=x;have hne:c≠a:=λ e=>by
  subst e;rw[ho] at h1;cases h1
  rw[hd] at h3;cases h3
 exact⟨o',items,n,(hs.2 c hne).trans h1,h2,h3,h4⟩
theorem En.keep{h h':Heap}{es:List (Int×Value)}{ys:List (List K)}(H:En knd h es ys)(k:∀ y c,IsTupleKey knd h y c->IsTupleKey knd h' y c):En knd h' es ys:=
 ⟨H.len,λ i e y he hy=>by obtain⟨c,h1,h2⟩:=H.get i e y he hy;exact⟨c,h1,k _ _ h2⟩⟩
def SetT(knd:KeyKind prog w K)(h:Heap)(a:Addr)(zs:List (List K)):Prop:=
 ∃ o es ep t,h.get? a=some o/\o.ExactSet/\o.data=.set es ep t/\Tk t es.toList/\es.size * 5<t.mask * 3/\zs.Nodup/\∃ ys,En knd h es.toList ys/\ys.Perm zs
theorem En.ins{h:Heap}{es:List (Int×Value)}{ys:List (List K)}(H:En knd h es ys){p:Nat}(hp:p<=es.length){z:List K}{b:Addr}(hz:IsTupleKey knd h z b):En knd h (es.take p++(tupleKeyHash knd z,.ref b)::es.drop p) (ys.take p++z::ys.drop p):=by
 refine⟨?_,λ i e y he hy=>?_⟩
 ·simp only[length_append,length_cons,length_take,length_drop];have:=H.len;omega
 ·rw[Vk hp] at he;rw[Vk (by rw[<- H.len];exact hp)] at hy
  split at he
  ·rename_i g;rw[if_pos g] at hy;exact H.get i e y he hy
  ·rename_i g;rw[if_neg g] at hy;split at he
   ·rename_i g2;rw[if_pos g2] at hy;cases he;cases hy
    exact⟨b,rfl,hz⟩
   ·rename_i g2;rw[if_neg g2] at hy;exact H.get _ e y he hy
theorem En.perm{h:Heap}{es:List (Int×Value)}:∀ {es':List (Int×Value)}{ys:List (List K)},En knd h es ys->es'.Perm es->∃ ys',En knd h es' ys'/\ys'.Perm ys:=by
 intro es' ys H p;have cons:∀ {e:Int×Value}{l:List (Int×Value)}{zs:List (List K)},En knd h (e::l) zs->∃ z r c,zs=z::r/\e=(tupleKeyHash knd z,.ref c)/\IsTupleKey knd h z c/\En knd h l r:=by
  intro e l zs H;cases zs with
  |nil=>exact absurd H.len (by simp)
  | cons z r=>
   obtain⟨c,h1,h2⟩:=H.get 0 e z rfl rfl;exact⟨z,r,c,rfl,h1,h2,Nat.succ.inj H.len,λ i e y he hy=>H.get (i+1) e y he hy⟩
 have mk:∀ {e:Int×Value}{l:List (Int×Value)}{z:List K}{r:List (List K)}{c:Addr},e=(tupleKeyHash knd z,.ref c)->IsTupleKey knd h z c->En knd h l r->En knd h (e::l) (z::r):=by
  intro e l z r c h1 h2 H;refine⟨congrArg Nat.succ H.len,λ i e' y he hy=>?_⟩;cases i with
  |zero=>cases he;cases hy;exact⟨c,h1,h2⟩
  |succ i=>exact H.get i e' y he hy
 have q:=p.symm;clear p
 induction q generalizing ys with
 |nil=>exact⟨ys,H,.refl _⟩
 | cons x _ ih=>
  obtain⟨z,r,c,rfl,h1,h2,h3⟩:=cons H;obtain⟨r',g1,g2⟩:=ih h3;exact⟨z::r',mk h1 h2 g1,g2.cons _⟩
 | swap x y l=>
  obtain⟨z,r,c,rfl,h1,h2,h3⟩:=cons H;obtain⟨z',r',c',rfl,h1',h2',h3'⟩:=cons h3;exact⟨z'::z::r',mk h1' h2'<|mk h1 h2 h3',.swap ..⟩
 | trans _ _ ih1 ih2=>
  obtain⟨r,g1,g2⟩:=ih1 H;obtain⟨r',g3,g4⟩:=ih2 g1;exact⟨r',g3,g4.trans g2⟩
theorem Zch{b:Addr}{es:Array (Int×Value)}:byScan (.ref b) es=false:=by
 unfold byScan;rw[show (Value.ref b).scannable=false from rfl,Bool.false_and,Bool.false_and]
theorem Zci{α:Type}{l:List α}{p:Nat}{x:α}:(l.take p++x::l.drop p).Perm (l++[x]):=by
 have h1:(l.take p++x::l.drop p).Perm (x::(l.take p++l.drop p)):=List.perm_middle;rw[List.take_append_drop] at h1;exact h1.trans (List.perm_append_singleton ..).symm
theorem ZgF{a b:Addr}{zs:List (List K)}{z:List K}{Qb:Bool->Shared->Prop}(hu:A.units<cLine)(hS:SetT knd s.heap a zs)(hz:IsTupleKey knd s.heap z b)(hl:zs.length<63)
  (h:∀ h' r,SameBut a s.heap h'->SetT knd h' a (if z∈zs then zs else zs++[z])->Qb r { s with heap:=h' }):wpAny (model prog w) A (setAddHashed a (.ref b) (tupleKeyHash knd z)) Qb E s:=by
 obtain⟨o,es,ep,t,ho,hx,hd,T,hr,nd,ys,he,hp⟩:=id hS;have hsz:es.size=zs.length:=by rw[<- length_toList,he.len,hp.length_eq]
 have hfit:t.fits es.size=true:=by have:=Uv T;rw[length_toList] at this;exact this
 obtain⟨e,f3,f1,f2⟩:=Zae T<|tupleKeyHash knd z;have same:(if z∈zs then zs else zs++[z])=if z∈ys then zs else zs++[z]:=by
  by_cases g:z∈zs
  ·rw[if_pos g,if_pos<|hp.mem_iff.2 g]
  ·rw[if_neg g,if_neg λ q=>g<|hp.mem_iff.1 q]
 rw[same] at h;unfold setAddHashed setAddHashedIn;refine wpAny_holding<|oAa<|wpAny_setState_of ho hd hfit ?_;dsimp only;rw[Zch];simp only[false_eq_true,if_false];unfold setSearch;have ht10:10 * turns t.mask<=1420:=by
  unfold turns
  rcases T.km with g | g | g<;>rw[g]<;>decide
 refine oAa<|Zcg hu ho hd T he hz f1 f2 f3 (λ hin i _=>?_) (λ hno=>?_) e 0 100000 none (by omega) (zero_le _) (by omega) rfl<|λ m z=>absurd z (by omega)
 ·rw[if_pos hin] at h;have:=h s.heap false (Heap.SameBut.refl a s.heap) hS;exact oAb this
 rw[if_neg hno] at h;dsimp only;refine oAa<|wpAny_setState_of ho hd hfit ?_;dsimp only;have hml:es.toList.length+1<=t.mask:=by
  rw[length_toList];have:1<=t.mask:=by rcases T.km with g | g | g<;>rw[g]<;>decide
  omega
 obtain⟨T1,m1,_,p1,_⟩:=Vl T (h:=tupleKeyHash knd z) (x:=.ref b) f1 (q_le T.km e).1 ⟨e,rfl,f2⟩ hml;have hp1:(t.put<|Q t (tupleKeyHash knd z) e).2<=es.toList.length:=by
  show below t.place _<=_;rw[<- T.sz];exact(below_at T.up _).1
 have ei:(insertAt es (t.put<|Q t (tupleKeyHash knd z) e).2 (tupleKeyHash knd z,Value.ref b)).toList=es.toList.take (t.put<|Q t (tupleKeyHash knd z) e).2++(tupleKeyHash knd z,.ref b)::es.toList.drop (t.put<|Q t (tupleKeyHash knd z) e).2:=toList_insertAt ..;generalize hput:t.put (Q t (tupleKeyHash knd z) e)=pt at *;obtain⟨t1,p⟩:=pt;dsimp only at T1 m1 p1 hp1 ei ⊢;have H1:=he.ins hp1 hz;rw[<- ei] at T1 H1;generalize hes1:insertAt es p (tupleKeyHash knd z,Value.ref b)=es1 at *;have sz1:es1.size=zs.length+1:=by
  rw[<- length_toList,H1.len];simp only[length_append,length_cons,length_take,length_drop];have:=hp.length_eq;have:=he.len;omega
 have perm1:(ys.take p++z::ys.drop p).Perm (zs++[z]):=Zci.trans<|hp.append<|.refl _;have nd1:(zs++[z]).Nodup:=by
  refine List.nodup_append.2 ⟨nd,List.nodup_cons.2 ⟨not_mem_nil,nodup_nil⟩,λ x hx y hy=>?_⟩;rw[List.mem_singleton.1 hy];intro q;exact hno<|hp.mem_iff.2 (q ▸ hx)
 have tail:∀ pl:Bool,wpAny (model prog w) A (do
   storeSet a es1 { t1 with plain:=pl }
   if (!false&&SetTable.tooFull { t1 with plain:=pl })=true then setRelay a (SetTable.grown<|es.size+1)
   pure true) Qb E s:=λ pl=>by
  have T1':Tk { t1 with plain:=pl } es1.toList:=⟨T1.km,T1.nd,T1.sz,T1.up,T1.bd,T1.few,T1.way⟩;refine oAa<|zD ho hd (by rw[sz1];show _<4096;omega) λ h1 b1 g1=>?_
  have H2:=H1.keep λ y c q=>UW q ho hd b1;have hfill:SetTable.tooFull { t1 with plain:=pl }=decide (es1.size * 5 ≥ t1.mask * 3):=by
   unfold SetTable.tooFull SetTable.fill;show decide ((t1.place.size+t1.dummies.size) * 5 ≥ t1.mask * 3)=_;rw[T1.sz,T1.nd,length_toList];rfl
  rw[hfill];by_cases hfull:es1.size * 5 ≥ t1.mask * 3
  ·rw[oAi hfull];simp only[Bool.not_false,Bool.and_self,if_true];have hw:t1.mask=7/\es1.size=5\/t1.mask=31/\es1.size=19:=by
    rcases T.km with g | g | g
    ·rw[g] at hr m1;rw[m1] at hfull ⊢;omega
    ·rw[g] at hr m1;rw[m1] at hfull ⊢;omega
    ·rw[g] at hr m1;rw[m1] at hfull ⊢;omega
   have hwant:es.size+1=es1.size:=by rw[sz1,hsz]
   have hab:SetTable.sizeAbove (SetTable.grown<|es.size+1)=32/\es1.size=5\/SetTable.sizeAbove (SetTable.grown<|es.size+1)=128/\es1.size=19:=by
    rw[hwant]
    rcases hw with ⟨_,g⟩ | ⟨_,g⟩<;>rw[g]
    ·exact .inl ⟨by decide,rfl⟩
    ·exact .inr ⟨by decide,rfl⟩
   generalize hwn:SetTable.grown (es.size+1)=wanted at *;have fit1:SetTable.fits { t1 with plain:=pl } es1.size=true:=by have:=Uv T1';rw[length_toList] at this;exact this
   obtain⟨t2,order,r1,r2,r3,T2,r4⟩:=Zba (t:={ t1 with plain:=pl }) (es:=es1.toList) (wanted:=wanted) (by rcases hab with ⟨g,_⟩ | ⟨g,_⟩<;>rw[g]<;>decide) (by rw[length_toList];rcases hab with ⟨g,_⟩ | ⟨g,_⟩<;>rw[g]<;>omega)
   obtain⟨ys2,H3,perm2⟩:=H2.perm r4;unfold setRelay;refine oAa<|oAa<|wpAny_setState_of (s:={ s with heap:=h1 }) g1 rfl fit1 ?_;dsimp only;rw[if_neg (by rw[sizeLine_eq];rcases hab with ⟨g,_⟩ | ⟨g,_⟩<;>rw[g]<;>decide)]
   have emap:es1.map (·.1)=(es1.toList.map (·.1)).toArray:=Array.ext' (by rw[Array.toList_map]);rw[emap,r1];k_delta "reordered"
   dsimp only;have efm:(order.filterMap λ x=>es1[x]?).toList=order.toList.filterMap λ i=>es1.toList[i]?:=by
    rw[Array.toList_filterMap];simp
   have es2z:(order.filterMap λ x=>es1[x]?).size=es1.size:=by
    rw[<- length_toList,efm,r4.length_eq,length_toList]
   rw[es2z,bne_self_eq_false];simp only[false_eq_true,if_false];refine oAa<|oAb ?_;dsimp only;rw[<- efm] at T2 H3;refine zD (s:={ s with heap:=h1 }) g1 rfl (by rw[es2z,sz1];show _<4096;omega) λ h2 b2 g2=>oAb ?_
   refine h h2 true (b1.trans b2) ⟨_,_,_,t2,g2,hx,rfl,T2,?_,nd1,ys2,H3.keep λ y c q=>UW q g1 rfl b2,perm2.trans perm1⟩;rw[es2z,r2]
   rcases hab with ⟨g,q⟩ | ⟨g,q⟩<;>rw[g,q]<;>decide
  ·rw[oAh hfull];simp only[Bool.and_false,false_eq_true,if_false];refine oAa<|oAb<|oAb<|h h1 true b1 ⟨_,es1,_,{ t1 with plain:=pl },g1,hx,rfl,T1',by show es1.size * 5<t1.mask * 3;omega,nd1,_,H2,perm1⟩
 cases hpl:t1.plain with
 | true=>
  simp only[if_true];refine oAa<|ZgE hz λ r=>?_;cases r with
  | true=>
   have:=tail true;rw[show ({ t1 with plain:=true }:SetTable)=t1 by rw[<- hpl]] at this;exact this
  |false=>exact tail false
 | false=>
  simp only[false_eq_true,if_false];refine oAa<|oAb ?_;have:=tail false;rw[show ({ t1 with plain:=false }:SetTable)=t1 by rw[<- hpl]] at this;exact this
theorem Zcj{h:Heap}{a:Addr}{o:Obj}{led:Bool}(ho:h.get? a=some o)(hx:o.ExactSet)(hd:o.data=.set #[] 0 (.fresh 0 0 led)):SetT knd h a []:=
 ⟨o,#[],0,_,ho,hx,hd,⟨.inl rfl,rfl,rfl,.nil,λ _ z=>(nomatch z),by show 0<=7;decide,λ i j e z=>by cases z⟩,by show 0 * 5<7 * 3;decide,nodup_nil,[],⟨rfl,λ i e y z=>by cases z⟩,.refl _⟩
theorem SetT.at{h h':Heap}{a:Addr}{zs:List (List K)}(S:SetT knd h a zs)(k:∀ b o,h.get? b=some o->(b=a\/o.cls=.type "tuple")->h'.get? b=some o):SetT knd h' a zs:=by
 obtain⟨o,es,ep,t,ho,hx,hd,T,hr,nd,ys,he,hp⟩:=S;exact⟨o,es,ep,t,k a o ho<|.inl rfl,hx,hd,T,hr,nd,ys,he.keep λ y c q=>by
  obtain⟨o',xs,n,h1,h2,h3,h4⟩:=q;exact⟨o',xs,n,k c o' h1<|.inr h2,h2,h3,h4⟩,hp⟩
end
open PySem PyProof.Rows
noncomputable def dd1{α:Type}[DecidableEq α](acc:List α)(x:α):List α:=if x∈acc then acc else acc++[x]
noncomputable def ddT{α:Type}[DecidableEq α](xs:List α):List α:=xs.foldl dd1 []
theorem JL{α:Type}[DecidableEq α](acc:List α)(x:α):(dd1 acc x).length<=acc.length+1:=by unfold dd1;split<;>simp
section
variable {prog:Program}{w:World}{K:Type} [DecidableEq K] {knd:KeyKind prog w K}{A:Around}{E:zVP}{s:Shared}
structure Tv(knd:KeyKind prog w K)(h:Heap)(vs:List Value)(zs:List (List K)):Prop where
 len:vs.length=zs.length
 get:∀ (i:Nat) (v:Value) (z:List K),vs[i]?=some v->zs[i]?=some z->∃ c,v=.ref c/\IsTupleKey knd h z c
theorem Tv.keep{h h':Heap}{vs:List Value}{zs:List (List K)}(H:Tv knd h vs zs)(k:∀ y c,IsTupleKey knd h y c->IsTupleKey knd h' y c):Tv knd h' vs zs:=
 ⟨H.len,λ i e y he hy=>by obtain⟨c,h1,h2⟩:=H.get i e y he hy;exact⟨c,h1,k _ _ h2⟩⟩
theorem Zck{h h':Heap}{a:Addr}{o:Obj}{y:List K}{c:Addr}(ho:h.get? a=some o)(hc:o.cls≠.type "tuple")(k:∀ b u,b≠a->h.get? b=some u->h'.get? b=some u)(q:IsTupleKey knd h y c):IsTupleKey knd h' y c:=by
 obtain⟨o',xs,n,h1,h2,h3,h4⟩:=q;refine⟨o',xs,n,k c o' (λ e=>?_) h1,h2,h3,h4⟩;subst e;rw[ho] at h1;cases h1
 exact hc h2
theorem Zcl{S I l:Addr}{items:List Value}{xs:List (List K)}{R:Result->Shared->Prop}(hu:A.units+1<cLine)(hh:A.handled=none)(hne:l≠I)(hSf:S∉[I,l])(hb:items.length<63) :
  ∀ (k i:Nat) (s:Shared) (acc:List (List K)),items.length - i=k->i<=items.length->acc.length<=i->s.heap.IsListIter I l i/\s.heap.IsList l items.toArray->Tv knd s.heap items xs->SetT knd s.heap S acc ->
   (∀ s',Moved [S,I] (λ a b=>b=a) s s'->SetT knd s'.heap S ((xs.drop i).foldl dd1 acc)->R (.ok (.ret .none)) s')->codeAny (model prog w) A (.builtin "set.update.loop" ⟨[.ref S,.ref I],[]⟩) R s:=by
 have W:=(Walks.list (prog:=prog) (w:=w) (A:=A.in1) (by simpa using hh) I l hne items.toArray).toS;have hS1:S∉[I]:=λ h=>hSf (by simp at h;simp[h])
 have hsb:∀ b∈[I],b∈[S,I]:=λ b hb=>by simp at hb;simp[hb]
 intro k
 induction k with
 | zero=>
  intro i s acc hk hle ha st hi T hR;have hlx:=hi.len;have e:i=items.length:=by omega
  refine codeAny_builtin F.entry_set_update_loop ?_;rw[Around.under_plainId F.plain_set_update_loop _]
  show wpAny (model prog w) A.in1 (pyNext (.ref I)>>=_) _ _ s;refine oAa<|W.done s _ _ (by rw[e] at st;simpa using st) λ s' hm=>?_
  show wpAny _ A.in1 (ret Value.none) _ _ _;refine oAb<|hR _ (hm.mono hsb) ?_;rw[e,hlx,List.drop_length];obtain⟨oI,hoI,cI,_⟩:=st.1;exact T.at λ b o e q=>hm.heap b o (λ z=>by
   have z:b=I:=by simpa using z
   rcases q with q | q
   ·exact hS1 (by rw[<- q,z];simp)
   ·rw[z,hoI] at e;cases e;rw[cI] at q;exact absurd q<|by decide) e
 | succ k ih=>
  intro i s acc hk hle ha st hi T hR;have hlt:i<items.length:=by omega
  have hlx:=hi.len;obtain⟨oI,hoI,cI,_⟩:=id st.1;have cN:oI.cls≠.type "tuple":=λ z=>by rw[cI] at z;exact absurd z (by decide)
  refine codeAny_builtin F.entry_set_update_loop ?_;rw[Around.under_plainId F.plain_set_update_loop _]
  show wpAny (model prog w) A.in1 (pyNext (.ref I)>>=_) _ _ s;refine oAa<|W.item i s _ _ (by simpa using hlt) st λ v s' hv st' hm=>?_;have mv:∀ b u,b≠I->s.heap.get? b=some u->s'.heap.get? b=some u:=λ b u hb e=>hm.heap b u (by simpa using hb) e;have T':SetT knd s'.heap S acc:=T.at λ b o e q=>mv b o (λ z=>by
   rcases q with q | q
   ·exact hS1 (by rw[<- q,z];simp)
   ·rw[z,hoI] at e;cases e;exact cN q) e
  have hi':Tv knd s'.heap items xs:=hi.keep λ y c q=>Zck hoI cN mv q;have hk2:i<xs.length:=by omega
  obtain⟨c,rfl,hc⟩:=hi'.get i v xs[i] (by simpa using hv) (oAt hk2);show wpAny _ A.in1 (holding [Value.ref c] (setAdd S<|.ref c)>>=_) _ _ _;refine oAa<|wpAny_holding ?_;unfold setAdd
  refine wpAny_holding<|oAa<|wpAny_pyHash_tuple (by simpa using hu) hc ?_;refine ZgF (zs:=acc) (s:={ s' with toks:=s'.toks+(xs[i].length+1) }) (by simpa using hu) T' hc (by omega) λ h2 b sb T2=>?_;have hd:xs.drop i=xs[i]::xs.drop (i+1):=List.drop_eq_getElem_cons hk2;have keep:∀ c o,c≠S->s'.heap.get? c=some o->h2.get? c=some o:=λ c o hc e=>(sb.2 c hc).trans e;obtain⟨oS,_,_,_,hoS,_,hdS,_⟩:=id T';have e2:(if xs[i]∈acc then acc else acc++[xs[i]])=dd1 acc xs[i]:=by
   unfold dd1;by_cases g:xs[i]∈acc
   ·rw[if_pos g,if_pos g]
   ·rw[if_neg g,if_neg g]
  rw[e2] at T2;refine oAb ⟨plainId_quiet F.plain_set_update_loop _,ih (i+1) _ (dd1 acc xs[i]) (by omega) hlt (by have:=JL acc xs[i];omega) ?_ (hi'.keep λ y c q=>UW q hoS hdS sb) T2 λ s'' hm2 T3=>hR s'' ?_ ?_⟩
  ·exact⟨st'.1.at λ o e=>keep I o (λ z=>hSf<|by simp[z]) e,st'.2.at λ o e=>keep l o (λ z=>hSf<|by simp[z]) e⟩
  ·exact Moved.trans (λ a b c x y=>y.trans x) ((hm.mono hsb).then_heap (Nat.le_add_right _ _) λ c o hc e=>keep c o (λ z=>hc<|by simp[z]) e) hm2
  ·rw[hd];exact T3
theorem ZgG{l:Addr}{items:List Value}{xs:List (List K)}{Q:zVP}(hu:A.units+20<cLine)(hh:A.handled=none)(hl:s.heap.IsList l items.toArray)(hi:Tv knd s.heap items xs)(hb:items.length<63)
  (h:∀ (h':Heap) (tk:Nat),SetT knd h' s.heap.objs.size (ddT xs)->(∀ b o,b<s.heap.objs.size->s.heap.get? b=some o->h'.get? b=some o)->Q (.ref s.heap.objs.size) { s with heap:=h',toks:=tk }) :
  wpAny (model prog w) A (call (.type "set") [.ref l]) Q E s:=by
 obtain⟨c,tl,hmro⟩:=F.called_set.mro;have hmade:=F.called_set.made;have hsub:=F.called_set.sub
 refine wpAny_call<|codeAny_of_tree ?_;show wpAny _ _ (callAny (.type "set") _) _ _ _
 refine oAb ⟨Code.quiet_builtin _ (by decide +kernel),codeAny_builtin F.entry_type_call ?_⟩;rw[Around.under_plain (weight_type_call_type "set" [.ref l] []) rfl]
 have h1:=F.called_set.notType;have h2:=F.called_set.canCreate;have hct:=F.typeCall_set_1<|.ref l
 repeat (any_goals (first | assumption | wp_step))
 let N:Bool->Obj:=λ led=>{ cls:=.type "set",dict:=none,data:=.set #[] 0 (.fresh 0 0 led) }
 refine codeAny_mono (code_set_new_1 (.ref l) (E:=E) (Q₁:=λ obj s₁=>∃ led,obj=.ref s.heap.objs.size/\s₁={ s with heap:=s.heap.push (N led) }) λ led=>⟨led,rfl,rfl⟩) λ r s₁ hr=>?_
 rcases r with e | fl
 ·exact hr
 cases fl with
 | ret obj=>
  obtain⟨led,rfl,rfl⟩:=hr;have hS:(s.heap.push<|N led).get? s.heap.objs.size=some (N led):=oAe _ rfl;have hT:Shared.TypeIs { s with heap:=s.heap.push (N led) } (.ref s.heap.objs.size) "set":=⟨_,hS,rfl⟩;have hli:=F.called_set.init.lookup;have hbi:=F.called_set.init.bind<|.ref s.heap.objs.size
  repeat (any_goals (first | assumption | wp_step))
  refine codeAny_mono (codeAny_call_builtin (R:=wants (λ r s₂=>r=.none/\∃ h' tk,s₂={ s with heap:=h',toks:=tk }/\SetT knd h' s.heap.objs.size (ddT xs)/\(∀ b o,b<s.heap.objs.size->s.heap.get? b=some o->h'.get? b=some o)) E) F.called_set.init.plain F.entry_set_init<|check_set_init_1 hT ?_) λ r₂ s₂ hr₂=>?_
  ·obtain⟨ol,hol,hcl,nl,hdl⟩:=hl;obtain⟨ocls,odict,odata,oslots⟩:=ol;simp only at hcl hdl;subst hcl;subst hdl
   have hol':(s.heap.push<|N led).get? l=some { cls:=.type "list",dict:=odict,data:=.seq items.toArray nl,slots:=oslots }:=oAd _ hol;have hsls:=F.sub_list_set;have hslf:=F.sub_list_frozenset
   have hne:(Value.type "list"==Value.type "dict")=false:=by decide
   have hl1:(s.heap.push<|N led).IsList l items.toArray:=⟨_,hol',rfl,nl,rfl⟩;unfold Builtin.«set.__init__» noKeywords Builtin.Frozenset.updateFrom;generalize hPI:pyIter=PI
   wp_walk
   subst hPI;refine wpAny_pyIter_list hl1 ?_;refine oAa<|wpAny_runValue ?_;have hlS:l<s.heap.objs.size:=oAf hol;have z1:(s.heap.push<|N led).objs.size=s.heap.objs.size+1:=size_push ..;have hneI:l≠(s.heap.push<|N led).objs.size:=λ e=>by rw[z1] at e;rw[e] at hlS;exact absurd hlS<|Nat.not_lt.2<|le_succ _
   have hSf:s.heap.objs.size∉[(s.heap.push<|N led).objs.size,l]:=by
    rw[z1];intro z
    rcases List.mem_cons.1 z with e | e
    ·exact absurd e<|oAp<|oAs _
    ·rw[<- List.mem_singleton.1 e] at hlS;exact absurd hlS<|oAr _
   refine Zcl (knd:=knd) (xs:=xs) (by simp only[Around.in1_units];omega) (by simp[hh]) hneI hSf hb items.length 0 _ [] (by omega) (zero_le _) (oAl _) ⟨⟨_,oAe _ rfl,rfl,rfl⟩,hl1.push _⟩ ?_ ?_ ?_
   ·exact hi.keep λ y c ⟨o',xs',n',h1,h2,h3,h4⟩=>⟨o',xs',n',oAd _<|oAd _ h1,h2,h3,h4⟩
   ·exact Zcj (led:=led) (oAd _ hS) ⟨rfl,rfl,rfl⟩ rfl
   ·intro s' hm T;obtain⟨h',g',d',tk',os'⟩:=s';have eg:g'=s.gens:=hm.gens;have ed:d'=s.drawn:=hm.drawn;have eo:os'=s.os:=hm.os
    subst eg;subst ed;subst eo
    show wpAny _ _ _ _ _ _;refine oAb ?_;show wpAny _ _ (ret Value.none) _ _ _;refine oAb ⟨rfl,h',tk',rfl,T,λ b o hb e=>hm.heap b o ?_<|oAd _<|oAd _ e⟩;rw[z1];intro z
    rcases List.mem_cons.1 z with e | e
    ·rw[e] at hb;exact absurd hb<|oAr _
    ·rw[List.mem_singleton.1 e] at hb;exact absurd hb<|Nat.not_lt.2<|le_succ _
  ·rcases r₂ with e | fl₂
   ·exact hr₂
   cases fl₂ with
   | ret r=>
    obtain⟨rfl,h',tk,rfl,hS',hk'⟩:=hr₂
    repeat (any_goals (first | assumption | wp_step))
    exact h _ _ hS' hk'
   |_=>exact hr₂.elim
 |_=>exact hr.elim
end
end SY
namespace DI
open PySem PyProof.Rows
section
variable {prog:Program}{w:World}{A:Around}{E:zVP}{s:Shared}
theorem ZdJ{Q:Option Value->Shared->Prop}(ho:s.heap.get? d=some o)(hd:o.data=.dict es ep)(hI:s.heap.IsKeyIter it d i es.size ep)(he:es[i]?=some e)
  (h:∀ h',h'.IsKeyIter it d (i+1) es.size ep->SameBut it s.heap h'->Q (some e.key) { s with heap:=h' }):wpAny (model prog w) A (pyNext (.ref it)) Q E s:=by
 have hT:=hI.typeIs;obtain⟨⟨oc,od,oda,osl⟩,hoi,hci,hdi⟩:=id hI;simp only at hci hdi;subst hci hdi;unfold pyNext;refine oAa<|wpAny_attempt<|wpAny_callSpecial?_slot (name:=Str.ofString "__next__") hT F.slot_dict_keyiterator_next<|wpAny_call_entry F.slot_dict_keyiterator_next hT F.entry_dict_keyiterator_next ?_<|F.args_dict_keyiterator_next_1 _;unfold Builtin.«dict_keyiterator.__next__»;k_delta "nextOfTheView"
 refine oAa (m:=Builtin.Dict_items.slot0 "__next__" _)<|oAb ?_;refine oAa ?_;k_delta "place"
 k_delta "base"
 refine oAa<|oAa<|wpAny_typeNameOfWhole_keyiter hT<|oAb ?_;refine oAa<|wpAny_fieldsOf hoi rfl ?_;show wpAny _ _ (if (Value.ref d==Value.none)=true then _ else _) _ _ _;rw[if_neg (show ¬ (Value.ref d==Value.none)=true from λ z=>nomatch (show Value.ref d=Value.none from eq_of_beq z))];refine oAa (m:=Builtin.Dict_items.addrOf<|.ref d)<|oAb ?_;refine oAa<|wpAny_dictEntries ho hd ?_;dsimp only;rw[if_neg (by simp)];refine oAa (m:=Builtin.Dict_items.addrOf<|.ref d)<|oAb ?_;refine oAa<|wpAny_dictEpoch ho hd ?_;rw[if_neg (by simp)];refine oAb ?_;show wpAny _ _ (match if ((i:Nat):Int)<0 then none else es[((i:Nat):Int).toNat]? with | some e=>_ | none=>_) _ _ _;rw[if_neg (by omega),Int.toNat_natCast,he];dsimp only;k_delta "base"
 refine oAa<|oAa<|wpAny_typeNameOfWhole_keyiter hT<|oAb ?_;refine oAa<|wpAny_isOneOf_keyiter hT ?_;refine oAa<|wpAny_setField hoi rfl (by show 1<4;decide) ?_
 have hg:(s.heap.update it<|Obj.mapFields λ x=>x.setIfInBounds 1<|rawInt<|(i:Int)+1).IsKeyIter it d (i+1) es.size ep:=⟨_,get?_update_self (Obj.mapFields λ x=>x.setIfInBounds 1<|rawInt<|(i:Int)+1) hoi rfl,rfl,rfl⟩;refine oAa<|wpAny_holding ?_;k_delta "pick"
 refine oAa<|wpAny_isOneOf_keyiter (s:={ s with heap:=s.heap.update it (Obj.mapFields λ x=>x.setIfInBounds 1<|rawInt<|(i:Int)+1) }) hg.typeIs ?_;rw[if_pos (by decide)];exact oAb<|oAb ⟨_,rfl,oAb<|h _ hg<|Heap.SameBut.update ..⟩
theorem Zfj{Q:Option Value->Shared->Prop}(hh:A.handled=none)(ho:s.heap.get? d=some o)(hd:o.data=.dict es ep)(hI:s.heap.IsKeyIter it d i es.size ep)(he:es[i]?=none)
  (h:∀ h',ExtBut it s.heap h'->Q none { s with heap:=h' }):wpAny (model prog w) A (pyNext (.ref it)) Q E s:=by
 have hT:=hI.typeIs;obtain⟨⟨oc,od,oda,osl⟩,hoi,hci,hdi⟩:=id hI;simp only at hci hdi;subst hci hdi;unfold pyNext;refine oAa<|wpAny_attempt<|wpAny_callSpecial?_slot (name:=Str.ofString "__next__") hT F.slot_dict_keyiterator_next<|wpAny_call_entry F.slot_dict_keyiterator_next hT F.entry_dict_keyiterator_next ?_<|F.args_dict_keyiterator_next_1 _;unfold Builtin.«dict_keyiterator.__next__»;k_delta "nextOfTheView"
 refine oAa (m:=Builtin.Dict_items.slot0 "__next__" _)<|oAb ?_;refine oAa ?_;k_delta "place"
 k_delta "base"
 refine oAa<|oAa<|wpAny_typeNameOfWhole_keyiter hT<|oAb ?_;refine oAa<|wpAny_fieldsOf hoi rfl ?_;show wpAny _ _ (if (Value.ref d==Value.none)=true then _ else _) _ _ _;rw[if_neg (show ¬ (Value.ref d==Value.none)=true from λ z=>nomatch (show Value.ref d=Value.none from eq_of_beq z))];refine oAa (m:=Builtin.Dict_items.addrOf<|.ref d)<|oAb ?_;refine oAa<|wpAny_dictEntries ho hd ?_;dsimp only;rw[if_neg (by simp)];refine oAa (m:=Builtin.Dict_items.addrOf<|.ref d)<|oAb ?_;refine oAa<|wpAny_dictEpoch ho hd ?_;rw[if_neg (by simp)];refine oAb ?_;show wpAny _ _ (match if ((i:Nat):Int)<0 then none else es[((i:Nat):Int).toNat]? with | some e=>_ | none=>_) _ _ _;rw[if_neg (by lia),Int.toNat_natCast,he];dsimp only;k_delta "base"
 refine oAa<|oAa<|wpAny_typeNameOfWhole_keyiter hT<|oAb ?_;show wpAny _ _ (setField (.ref it) 0 .none>>=_) _ _ _;refine oAa<|wpAny_setField hoi rfl (by show 0<4;decide) ?_
 refine oAa ?_;simp only[newExc,newTuple];refine oAa<|wpAny_newObj_type ?_ (by size_fits);refine oAa (m:=firstArgMember _ _)<|wpAny_of_eq (a:=Value.none) (by simp only[firstArgMember];rfl) ?_
 refine wpAny_newObj_type ?_ (by size_fits);simp only[raiseNew]
 refine oAa<|wpAny_handled ?_;rw[show A.in1.handled=none from hh];refine oAa<|oAb<|wpAny_throw ?_;refine oAa<|wpAny_isInstance (T:="StopIteration") (b:=true) ⟨_,oAe _ rfl,rfl⟩ isSubtype_stop ?_;exact oAb<|h _<|((Heap.SameBut.update ..).extBut.push _).push _
theorem ZdK{Q:zVP}(hs:(d==sysModules)=false)(hc:o.ExactDict)(ho:s.heap.get? d=some o)(hd:o.data=.dict es ep)
  (h:Q (.ref s.heap.objs.size) { s with heap:=s.heap.push { cls:=.type "dict_keyiterator",data:=.fields #[.ref d,.int 0 0,.int es.size 0,.int ep 0] } }):wpAny (model prog w) A (pyIter (.ref d)) Q E s:=by
 have hT:s.TypeIs (.ref d) "dict":=⟨o,ho,hc.1⟩;refine wpAny_pyIter_slot hT F.slot_dict_iter<|wpAny_call_entry F.slot_dict_iter hT F.entry_dict_iter ?_<|F.args_dict_iter_1 _;unfold Builtin.«dict.__iter__»;unfold Builtin.Dict.dictSlotNone Builtin.Dict.showsAll newFields;refine oAa<|oAa ?_;unfold Builtin.Dict.notOrdered;refine oAa<|wpAny_typeOf hT ?_;rw[if_neg (by decide)];refine oAb<|oAa (m:=slotArgs "__iter__" 0 _)<|oAb<|oAb ?_;refine oAa (m:=Builtin.Dict.addrOf<|.ref d)<|oAb ?_;rw[if_neg (by rw[hs];exact oAg)]
 refine oAa<|oAb<|oAa<|wpAny_dictEntries ho hd<|oAa<|wpAny_dictEpoch ho hd ?_;exact oAa<|wpAny_newObj_type<|oAb ⟨_,rfl,"dict_keyiterator",_,⟨_,oAe _ rfl,rfl⟩,F.slot_dict_keyiterator_next.lookup,h⟩
end
end DI
namespace PF
open PySem PySem.Spec PyProof.Rows L2
inductive BP{α β γ:Type}(x:Option (α×β))(f:α×β->Option γ)(b:γ):Prop
 |mk (a:α) (c:β) (h:x=some (a,c)) (k:f (a,c)=some b)
inductive BO{α γ:Type}(x:Option α)(f:α->Option γ)(b:γ):Prop
 |mk (a:α) (h:x=some a) (k:f a=some b)
inductive BM{α γ:Type}(x:Option α)(f:α->γ)(b:γ):Prop
 |mk (a:α) (h:x=some a) (k:f a=b)
theorem bO{α γ:Type}{x:Option α}{f:α->Option γ}{b:γ}(h:x.bind f=some b):BO x f b:=by
 cases x with
 |none=>cases h
 |some a=>exact⟨a,rfl,h⟩
theorem bP{α β γ:Type}{x:Option (α×β)}{f:α×β->Option γ}{b:γ}(h:x.bind f=some b):BP x f b:=by
 obtain⟨⟨a,c⟩,h,k⟩:=bO h;exact⟨a,c,h,k⟩
theorem bM{α γ:Type}{x:Option α}{f:α->γ}{b:γ}(h:x.map f=some b):BM x f b:=by
 cases x with
 |none=>cases h
 |some a=>cases h;exact⟨a,rfl,rfl⟩
inductive D where
 |non | bl (b:Bool) | int (i:Int) | str (x:Str) | tup (ds:List D) | lst (ds:List D) | ref (n:Nat)
 deriving Inhabited
mutual
noncomputable def D.beq:D->D->Bool
 |.non,.non=>true
 |.bl a,.bl b=>a==b
 |.int a,.int b=>a==b
 |.str a,.str b=>decide (a=b)
 |.tup a,.tup b=>D.beqs a b
 |.lst a,.lst b=>D.beqs a b
 |.ref a,.ref b=>a==b
 |_,_=>false
noncomputable def D.beqs:List D->List D->Bool
 |[],[]=>true
 |a::as,b::bs=>D.beq a b&&D.beqs as bs
 |_,_=>false
end
mutual
theorem D.beq_refl:∀ a:D,D.beq a a=true
 |.non=>by simp[D.beq]
 |.bl _=>by simp[D.beq]
 |.int _=>by simp[D.beq]
 |.str _=>by simp[D.beq]
 |.tup ds=>by simp[D.beq,D.beqs_refl ds]
 |.lst ds=>by simp[D.beq,D.beqs_refl ds]
 |.ref _=>by simp[D.beq]
theorem D.beqs_refl:∀ a:List D,D.beqs a a=true
 |[]=>by simp[D.beqs]
 |a::as=>by simp[D.beqs,D.beq_refl a,D.beqs_refl as]
end
mutual
theorem D.eq_of_beq:∀ {a b:D},D.beq a b=true->a=b
 |.non,b,h=>by cases b<;>simp_all[D.beq]
 |.bl _,b,h=>by cases b<;>simp_all[D.beq]
 |.int _,b,h=>by cases b<;>simp_all[D.beq]
 |.str _,b,h=>by cases b<;>simp_all[D.beq]
 | .tup ds,b,h=>by
  cases b with
  |tup es=>rw[D.beq] at h;rw[D.eq_of_beqs h]
  |_=>simp[D.beq] at h
 | .lst ds,b,h=>by
  cases b with
  |lst es=>rw[D.beq] at h;rw[D.eq_of_beqs h]
  |_=>simp[D.beq] at h
 |.ref _,b,h=>by cases b<;>simp_all[D.beq]
theorem D.eq_of_beqs:∀ {a b:List D},D.beqs a b=true->a=b
 |[],b,h=>by cases b<;>simp_all[D.beqs]
 | a::as,b,h=>by
  cases b with
  |nil=>simp[D.beqs] at h
  | cons b bs=>
   rw[D.beqs,and_eq_true] at h;rw[D.eq_of_beq h.1,D.eq_of_beqs h.2]
end
noncomputable instance:DecidableEq D:=λ a b=>if h:D.beq a b=true then .isTrue (D.eq_of_beq h) else .isFalse λ e=>h (by rw[e];exact D.beq_refl b)
inductive Ob where
 |lst (ds:List D) | dk (kvs:List (Key×D)) | dt (kvs:List (List Key×D)) | dtf (kvs:List (List Key×D)) | ins (C:Str) (fs:List (Str×D))
noncomputable abbrev Sto:=List Ob
noncomputable abbrev En:=List (Option D)
noncomputable abbrev St:=L2.St
section
variable (K:Frag) (mu:List Addr) (H:Hp)
def KL(K:Frag)(a:Addr)(xs:List V):Prop:=
 ∃ (o:Obj) (its:Array Value) (n:Nat),K.lookup a=some o/\o.cls=.type "list"/\o.dict=none/\o.data=.seq its n/\its.size<=sizeLine/\Vals xs its.toList
def KT(K:Frag)(a:Addr)(xs:List V):Prop:=
 ∃ (o:Obj) (its:Array Value) (n:Nat),K.lookup a=some o/\o.cls=.type "tuple"/\o.data=.seq its n/\its.size<=sizeLine/\Vals xs its.toList
mutual
def RD:D->V->Prop
 |.non,v=>v=.non
 |.bl b,v=>v=.bl b
 |.int i,v=>v=.int i
 |.str x,v=>v=.str x
 |.tup ds,v=>∃ a xs,v=.ref a/\((a∉mu/\H a=some (.tup xs))\/(KT K a xs/\ds.length≠3))/\RDs ds xs
 |.lst ds,v=>∃ a xs,v=.ref a/\((a∉mu/\Rd H a (.lst xs))\/KL K a xs)/\RDs ds xs
 |.ref n,v=>∃ a,mu[n]?=some a/\v=.ref a
def RDs:List D->List V->Prop
 |[],xs=>xs=[]
 |d::ds,xs=>∃ x r,xs=x::r/\RD d x/\RDs ds r
end
def RO(a:Addr):Ob->Prop
 |.lst ds=>∃ xs,H a=some (.lst xs)/\RDs K mu H ds xs
 |.dk kvs=>∃ us,H a=some (.dK us)/\us.map (·.1)=kvs.map (·.1)/\RDs K mu H (kvs.map (·.2)) (us.map (·.2))
 |.dt kvs=>∃ us,H a=some (.dT us)/\us.map (·.1)=kvs.map (·.1)/\RDs K mu H (kvs.map (·.2)) (us.map (·.2))
 |.dtf kvs=>∃ o us,H a=some (.frz o (.dT us))/\us.map (·.1)=kvs.map (·.1)/\RDs K mu H (kvs.map (·.2)) (us.map (·.2))
 |.ins C fs=>∃ Ca dx us,H a=some (.ins Ca dx us)/\PySem.W.nsIn K mainGlobals C=some (some (.ref Ca))/\us.map (·.1)=fs.map (·.1)/\RDs K mu H (fs.map (·.2)) (us.map (·.2))
structure WR(S:Sto):Prop where
 len:mu.length=S.length
 nd:mu.Nodup
 ob:∀ (n:Nat) (o:Ob),S[n]?=some o->∃ a,mu[n]?=some a/\RO K mu H a o
structure ER(env:En)(σ:St):Prop where
 len:env.length=σ.length
 get:∀ (i:Nat) (d:D),env[i]?=some (some d)->∃ v,σ[i]?=some (some v)/\RD K mu H d v
end
structure Ext(mu:List Addr)(H:Hp)(mu':List Addr)(H':Hp):Prop where
 more:∃ z,mu'=mu++z
 keep:∀ a o,H a=some o->a∉mu->H' a=some o/\a∉mu'
 frz:∀ a o u,H a=some (.frz o u)->H' a=some (.frz o u)
theorem Ext.refl:Ext mu H mu H:=⟨⟨[],by simp⟩,λ _ _ h n=>⟨h,n⟩,λ _ _ _ h=>h⟩
theorem Ext.trans(a:Ext mu H mu1 H1)(b:Ext mu1 H1 mu2 H2):Ext mu H mu2 H2:=by
 refine⟨?_,λ c o h n=>?_,λ c o u h=>b.frz c o u<|a.frz c o u h⟩
 ·obtain⟨z,rfl⟩:=a.more;obtain⟨z',rfl⟩:=b.more;exact⟨z++z',by simp⟩
 ·obtain⟨h1,n1⟩:=a.keep c o h n;exact b.keep c o h1 n1
theorem Ext.get{mu mu':List Addr}{H H':Hp}(e:Ext mu H mu' H'){n:Nat}{a:Addr}(h:mu[n]?=some a):mu'[n]?=some a:=by
 obtain⟨z,rfl⟩:=e.more;have:n<mu.length:=(List.getElem?_eq_some_iff.1 h).1;rw[getElem?_append_left this];exact h
theorem Ext.rd(e:Ext mu H mu' H')(n:a∉mu)(h:Rd H a u):a∉mu'/\Rd H' a u:=by
 rcases h with h | ⟨o,h⟩
 ·exact⟨(e.keep a _ h n).2,.inl (e.keep a _ h n).1⟩
 ·exact⟨(e.keep a _ h n).2,.inr ⟨o,(e.keep a _ h n).1⟩⟩
section
variable {K:Frag}{mu mu':List Addr}{H H':Hp}
mutual
theorem RD.mono(e:Ext mu H mu' H'):∀ (d:D) (v:V),RD K mu H d v->RD K mu' H' d v
 |.non,v,h=>by dsimp only[RD] at h ⊢;exact h
 |.bl _,v,h=>by dsimp only[RD] at h ⊢;exact h
 |.int _,v,h=>by dsimp only[RD] at h ⊢;exact h
 |.str _,v,h=>by dsimp only[RD] at h ⊢;exact h
 | .tup ds,v,h=>by
  dsimp only[RD] at h ⊢;obtain⟨a,xs,ev,h,hs⟩:=h;refine⟨a,xs,ev,?_,RDs.mono e ds xs hs⟩
  rcases h with ⟨n,h⟩ | h
  ·exact .inl ⟨(e.keep a _ h n).2,(e.keep a _ h n).1⟩
  ·exact .inr h
 | .lst ds,v,h=>by
  dsimp only[RD] at h ⊢;obtain⟨a,xs,ev,h,hs⟩:=h;refine⟨a,xs,ev,?_,RDs.mono e ds xs hs⟩
  rcases h with ⟨n,h⟩ | h
  ·exact .inl<|e.rd n h
  ·exact .inr h
 | .ref n,v,h=>by
  dsimp only[RD] at h ⊢;obtain⟨a,h,ev⟩:=h;exact⟨a,e.get h,ev⟩
theorem RDs.mono(e:Ext mu H mu' H'):∀ (d:List D) (v:List V),RDs K mu H d v->RDs K mu' H' d v
 |[],v,h=>by dsimp only[RDs] at h ⊢;exact h
 | d::ds,v,h=>by
  dsimp only[RDs] at h ⊢;obtain⟨x,r,a,b,c⟩:=h;exact⟨x,r,a,RD.mono e d x b,RDs.mono e ds r c⟩
end
theorem RDs.nil:RDs K mu H [] []:=by dsimp only[RDs]
theorem RDs.cons(h:RD K mu H d x)(t:RDs K mu H ds xs):RDs K mu H (d::ds) (x::xs):=by
 dsimp only[RDs];exact⟨x,xs,rfl,h,t⟩
theorem RDs.cases_cons(h:RDs K mu H (d::ds) xs):∃ x r,xs=x::r/\RD K mu H d x/\RDs K mu H ds r:=by
 dsimp only[RDs] at h;exact h
theorem RDs.cases_nil(h:RDs K mu H [] xs):xs=[]:=by dsimp only[RDs] at h;exact h
theorem RDs.length:∀ {ds:List D}{xs:List V},RDs K mu H ds xs->ds.length=xs.length
 |[],xs,h=>by rw[RDs.cases_nil h];rfl
 | d::ds,xs,h=>by
  obtain⟨x,r,rfl,_,t⟩:=h.cases_cons;simp[RDs.length t]
theorem RDs.get:∀ {ds:List D}{xs:List V}{i:Nat}{d:D},RDs K mu H ds xs->ds[i]?=some d->∃ x,xs[i]?=some x/\RD K mu H d x
 |[],xs,i,d,h,e=>by simp at e
 | d::ds,xs,0,d',h,e=>by
  obtain⟨x,r,rfl,hx,t⟩:=h.cases_cons;simp at e;subst e;exact⟨x,rfl,hx⟩
 | d::ds,xs,i+1,d',h,e=>by
  obtain⟨x,r,rfl,hx,t⟩:=h.cases_cons;obtain⟨y,h1,h2⟩:=RDs.get (i:=i) t (by simpa using e);exact⟨y,by simpa using h1,h2⟩
theorem RDs.set:∀ {ds:List D}{xs:List V} (i:Nat) {d:D}{x:V},RDs K mu H ds xs->RD K mu H d x->RDs K mu H (ds.set i d) (xs.set i x)
 |[],xs,i,d,x,h,hd=>by rw[RDs.cases_nil h];exact RDs.nil
 | d::ds,xs,0,d',y,h,hd=>by
  obtain⟨x,r,rfl,hx,t⟩:=h.cases_cons;exact RDs.cons hd t
 | d::ds,xs,i+1,d',y,h,hd=>by
  obtain⟨x,r,rfl,hx,t⟩:=h.cases_cons;exact RDs.cons hx<|RDs.set i t hd
theorem RDs.append:∀ {ds es:List D}{xs ys:List V},RDs K mu H ds xs->RDs K mu H es ys->RDs K mu H (ds++es) (xs++ys)
 |[],es,xs,ys,h,h2=>by rw[RDs.cases_nil h];exact h2
 | d::ds,es,xs,ys,h,h2=>by
  obtain⟨x,r,rfl,hx,t⟩:=h.cases_cons;exact RDs.cons hx<|RDs.append t h2
theorem RDs.take:∀ {ds:List D}{xs:List V} (n:Nat),RDs K mu H ds xs->RDs K mu H (ds.take n) (xs.take n)
 |_,_,0,_=>by simp;exact RDs.nil
 |[],xs,n+1,h=>by rw[RDs.cases_nil h];exact RDs.nil
 | d::ds,xs,n+1,h=>by
  obtain⟨x,r,rfl,hx,t⟩:=h.cases_cons;exact RDs.cons hx<|RDs.take n t
theorem RDs.drop:∀ {ds:List D}{xs:List V} (n:Nat),RDs K mu H ds xs->RDs K mu H (ds.drop n) (xs.drop n)
 |_,_,0,h=>by simpa using h
 |[],xs,n+1,h=>by rw[RDs.cases_nil h];exact RDs.nil
 | d::ds,xs,n+1,h=>by
  obtain⟨x,r,rfl,hx,t⟩:=h.cases_cons;exact RDs.drop n t
theorem RO.mono(e:Ext mu H mu' H')(hk:H' a=H a)(h:RO K mu H a o):RO K mu' H' a o:=by
 cases o with
 | lst ds=>
  obtain⟨xs,h1,h2⟩:=h;exact⟨xs,by rw[hk];exact h1,RDs.mono e _ _ h2⟩
 | dk kvs=>
  obtain⟨xs,h1,h0,h2⟩:=h;exact⟨xs,by rw[hk];exact h1,h0,RDs.mono e _ _ h2⟩
 | dt kvs=>
  obtain⟨xs,h1,h0,h2⟩:=h;exact⟨xs,by rw[hk];exact h1,h0,RDs.mono e _ _ h2⟩
 | dtf kvs=>
  obtain⟨o,xs,h1,h0,h2⟩:=h;exact⟨o,xs,by rw[hk];exact h1,h0,RDs.mono e _ _ h2⟩
 | ins C fs=>
  obtain⟨Ca,dx,xs,h1,h0,h3,h2⟩:=h;exact⟨Ca,dx,xs,by rw[hk];exact h1,h0,h3,RDs.mono e _ _ h2⟩
theorem RO.some(h:RO K mu H a o):H a≠none:=by
 cases o with
 |lst ds=>obtain⟨xs,h1,_⟩:=h;rw[h1];simp
 |dk ds=>obtain⟨xs,h1,_⟩:=h;rw[h1];simp
 |dt ds=>obtain⟨xs,h1,_⟩:=h;rw[h1];simp
 |dtf ds=>obtain⟨o,xs,h1,_⟩:=h;rw[h1];simp
 |ins C fs=>obtain⟨Ca,dx,xs,h1,_⟩:=h;rw[h1];simp
theorem WR.get{S:Sto}(w:WR K mu H S){n:Nat}{o:Ob}(h:S[n]?=Option.some o):∃ a,mu[n]?=Option.some a/\RO K mu H a o:=w.ob n o h
theorem WR.fresh(w:WR K mu H S)(h:H p=none):p∉mu:=λ hm=>by
 obtain⟨n,hn,e⟩:=List.mem_iff_getElem.1 hm;obtain⟨o,ho⟩:∃ o,S[n]?=Option.some o:=⟨S[n]'(by rw[<- w.len];exact hn),by simp⟩
 obtain⟨a,h1,h2⟩:=w.ob n o ho;have:a=p:=by rw[oAt hn] at h1;rw[<- e];exact(oAk h1).symm
 subst this;exact h2.some h
theorem Ext.new(w:WR K mu H S)(h:H p=none):Ext mu H mu (upd H p o):=
 ⟨⟨[],by simp⟩,λ a u e n=>⟨by rw[Zf<|Zl e h];exact e,n⟩,λ a _ _ e=>by rw[Zf<|Zl e h];exact e⟩
theorem WR.keep(w:WR K mu H S)(h:H p=none):WR K mu (upd H p o) S:=
 ⟨w.len,w.nd,λ n u e=>by
  obtain⟨a,h1,h2⟩:=w.ob n u e;refine⟨a,h1,h2.mono (Ext.new w h) ?_⟩;rw[Zf];intro e;subst e;exact h2.some h⟩
theorem Ext.alloc(w:WR K mu H S)(h:H p=none):Ext mu H (mu++[p]) (upd H p o):=
 ⟨⟨[p],rfl⟩,λ a u e n=>⟨by rw[Zf<|Zl e h];exact e,by
  intro hm
  rcases List.mem_append.1 hm with hm | hm
  ·exact n hm
  ·have:a=p:=by simpa using hm
   exact Zl e h this⟩,λ a _ _ e=>by rw[Zf<|Zl e h];exact e⟩
theorem WR.allocO{S:Sto}(w:WR K mu H S){p:Addr}{u0:Ob}{o:HO}(h:H p=none)(hd:RO K (mu++[p]) (upd H p o) p u0):WR K (mu++[p]) (upd H p o) (S++[u0]):=by
 have ex:Ext mu H (mu++[p]) (upd H p o):=Ext.alloc w h;refine⟨by simp[w.len],?_,λ n u e=>?_⟩
 ·rw[List.nodup_append];refine⟨w.nd,by simp,λ a ha b hb=>?_⟩;have:b=p:=by simpa using hb
  subst this;intro e;subst e
  exact w.fresh h ha
 ·by_cases hn:n<S.length
  ·rw[getElem?_append_left hn] at e;obtain⟨a,h1,h2⟩:=w.ob n u e;refine⟨a,ex.get h1,h2.mono ex ?_⟩;rw[Zf];intro e;subst e;exact h2.some h
  ·have hn':n=S.length:=by
    have:=(List.getElem?_eq_some_iff.1 e).1;simp at this;omega
   subst hn';have:u=u0:=by simpa using e.symm
   subst this;exact⟨p,by rw[<- w.len];simp,hd⟩
theorem WR.alloc(w:WR K mu H S)(h:H p=none)(hd:RDs K mu H ds xs):WR K (mu++[p]) (upd H p (.lst xs)) (S++[.lst ds]):=
 w.allocO h ⟨xs,Zo,RDs.mono (Ext.alloc w h) _ _ hd⟩
theorem WR.same{S:Sto}(w:WR K mu H S){i j:Nat}{a:Addr}(h1:mu[i]?=Option.some a)(h2:mu[j]?=Option.some a):i=j:=by
 exact(List.getElem?_inj (List.getElem?_eq_some_iff.1 h1).1 w.nd).mp (h1.trans h2.symm)
theorem YO(e:H a=Option.some u)(h:Mut (Option.some u):=by trivial):Mut (H a):=by rw[e];exact h
theorem Ext.write{S:Sto}(w:WR K mu H S){n:Nat}{a:Addr}{o:HO}(h:mu[n]?=Option.some a)(hn:Mut (H a)):Ext mu H mu (upd H a o):=
 ⟨⟨[],by simp⟩,λ b u e hn'=>⟨by
  rw[Zf];exact e
  intro z;subst z
  exact hn'<|mem_of_getElem? h,hn'⟩,λ b ob u e=>by
  rw[Zf];exact e
  intro z;subst z
  rw[e] at hn;exact hn⟩
theorem WR.writeO{S:Sto}(w:WR K mu H S){n:Nat}{a:Addr}{u0:Ob}{o:HO}(h:mu[n]?=Option.some a)(hn:Mut (H a))(hd:RO K mu (upd H a o) a u0):WR K mu (upd H a o) (S.set n u0):=by
 have ex:Ext mu H mu (upd H a o):=Ext.write w h hn;refine⟨by simp[w.len],w.nd,λ i u e=>?_⟩;by_cases hi:n=i
 ·subst hi;have hl:n<S.length:=by
   have:=(List.getElem?_eq_some_iff.1 e).1;simpa using this
  rw[getElem?_set_self hl] at e;cases e
  exact⟨a,h,hd⟩
 ·rw[getElem?_set_ne hi] at e;obtain⟨b,h1,h2⟩:=w.ob i u e;refine⟨b,h1,h2.mono ex ?_⟩;rw[Zf];intro z;subst z
  exact hi<|w.same h h1
theorem WR.write{S:Sto}(w:WR K mu H S){n:Nat}{a:Addr}{ds:List D}{xs:List V}(h:mu[n]?=Option.some a)(hn:Mut (H a))(hd:RDs K mu H ds xs):WR K mu (upd H a (.lst xs)) (S.set n (.lst ds)):=
 w.writeO h hn ⟨xs,Zo,RDs.mono (Ext.write w h hn) _ _ hd⟩
theorem ER.mono(r:ER K mu H env σ)(e:Ext mu H mu' H'):ER K mu' H' env σ:=
 ⟨r.len,λ i d h=>by
  obtain⟨v,h1,h2⟩:=r.get i d h;exact⟨v,h1,RD.mono e _ _ h2⟩⟩
theorem ER.set(r:ER K mu H env σ)(i:Nat)(h:RD K mu H d v):ER K mu H (env.set i (some d)) (σ.set i (some v)):=
 ⟨by simp[r.len],λ j d' e=>by
  by_cases hi:i=j
  ·subst hi;have hl:i<env.length:=by
    have:=(List.getElem?_eq_some_iff.1 e).1;simpa using this
   rw[getElem?_set_self hl] at e;cases e
   exact⟨v,by rw[getElem?_set_self (by rw[<- r.len];exact hl)],h⟩
  ·rw[getElem?_set_ne hi] at e;obtain⟨w,h1,h2⟩:=r.get j d' e;exact⟨w,by rw[getElem?_set_ne hi];exact h1,h2⟩⟩
end
open PySem PySem.Spec PyProof.Rows L2
inductive Bi where
 |len | abs | min | max | int | tuple | all | any | divmod | bool | str
 deriving DecidableEq
inductive Bl where
 |list | sorted
 deriving DecidableEq
inductive Mt where
 |append | extend | pop | index
 deriving DecidableEq
mutual
inductive Ex where
 |var (i:Nat) | non | bl (b:Bool) | int (i:Int) | str (x:Str)
 |bin (op:Operator) (a b:Ex) | neg (a:Ex) | not (a:Ex) | and (a b:Ex) | or (a b:Ex) | ite (c a b:Ex)
 |cmp (op:CmpOp) (a b:Ex) | cmp2 (op op':CmpOp) (a b c:Ex) | isN (a:Ex) | notN (a:Ex) | isi (a:Ex) (ty:Str)
 |sub (a i:Ex) | slc (a:Ex) (lo hi:Ox) | tup (es:Exs) | lv (l:Lx) | lr (l:Lx)
 |call (f:Str) (es:Exs) | blt (f:Bi) (es:Exs) | gl (x:Str) | mth (o:Ex) (m:Mt) (es:Exs) | slen (a:Ex)
 |dnew | dlit (k v:Int) | dvar (k:Str) (i:Nat) | isB (a:Ex) (b:Bool) | notB (a:Ex) (b:Bool) | rev (a:Ex) | dof (a:Ex) | isiT (a:Ex) (t u:Str) | dinT (es:Exs) (o:Ex)
 |fld (a:Ex) (x:Str) | mcl (o:Ex) (m:Str) (es:Exs) | new (C:Str) (es:Exs) | gin (x:Str) (a:Ex) | gsb (x:Str) (a:Ex) | strp (a:Ex) | dget (o:Ex) (es:Exs) (f:Ex) | dofT (own:Nat) (caps:List Nat) (t:Tg) (it:Itx) (a:Ex) (h:Int) (v:Ex)
 |subK (a i:Ex) | slT (a:Ex) | slX (a:Ex) | dgk (o i f:Ex) | join (x:Str) (a:Ex) | dcomp (own:Nat) (caps:List Nat) (t:Tg) (it:Itx) (ks:Exs) (v:Ex)
inductive Lx where
 |dsp (es:Exs) | bin (op:Operator) (a b:Ex) | blt (f:Bl) (es:Exs) | dvals (a:Ex) | lrng (a:Ex) | lrng2 (a b:Ex) | comp (own:Nat) (caps:List Nat) (t:Tg) (it:Itx) (ifs:Exs) (elt:Ex)
 |wrds (a:Ex) | prts (a b:Ex) | lins (a:Ex) | comp2 (own:Nat) (caps:List Nat) (t:Tg) (it:Itx) (t2:Tg) (it2:Itx) (elt:Ex)
 |sset (a:Ex) | compD (own:Nat) (caps:List Nat) (t:Tg) (o:Ex) (elt:Ex) | zip3 (a b e:Ex)
inductive Exs where
 |nil | cons (e:Ex) (es:Exs)
inductive Ox where
 |no | yes (e:Ex)
inductive Tg where
 |name (i:Nat) | tup (ts:Tgs) | sub (o i:Ex) | subT (o:Ex) (es:Exs) | subK (o i:Ex)
inductive Tgs where
 |nil | cons (t:Tg) (ts:Tgs)
inductive Itx where
 |seq (e:Ex) | rng1 (a:Ex) | rng2 (a b:Ex) | enm (e:Ex) | zip (a b:Ex) | dkeys (a:Ex) | dkt (a:Ex)
end
mutual
inductive Sm where
 |asg (t:Tg) (e:Ex) | par (i j:Nat) (a b:Ex) | par3 (i j k:Nat) (a b c:Ex) | aug (i:Nat) (op:Operator) (e:Ex) | ex (e:Ex) | ret (e:Ex) | retN | ifs (c:Ex) (a b:Sms) | fr (t:Tg) (it:Itx) (b:Sms)
 |whl (c:Ex) (b:Sms) | pass | brk | cnt | bad | fas (o:Ex) (x:Str) (v:Ex)
inductive Sms where
 |nil | cons (s:Sm) (ss:Sms)
end
abbrev Exs.c:=@Exs.cons
abbrev Exs.n:=@Exs.nil
abbrev Sms.c:=@Sms.cons
abbrev Sms.n:=@Sms.nil
abbrev Tgs.c:=@Tgs.cons
abbrev Tgs.n:=@Tgs.nil
abbrev Ex.v:=@Ex.var
abbrev Ex.i:=@Ex.int
abbrev Ex.u:=@Ex.sub
abbrev Ex.f:=@Ex.call
abbrev Sm.r:=@Sm.ret
abbrev Tg.m:=@Tg.name
abbrev Ex.p:=@Ex.cmp
abbrev Ex.b:=@Ex.bin
abbrev Sm.q:=@Sm.ifs
abbrev Ex.t:=@Ex.tup
abbrev Tg.t:=@Tg.tup
abbrev Sm.a:=@Sm.asg
abbrev Ex.s:=@Ex.str
abbrev Ex.d:=@Ex.fld
abbrev Ex.l:=@Ex.blt
abbrev Lx.l:=@Lx.blt
abbrev Ex.m:=@Ex.mcl
abbrev Tg.u:=@Tg.sub
abbrev Lx.b:=@Lx.bin
noncomputable def vals:D->Option (List D)
 |.lst ds=>some ds
 |.tup ds=>some ds
 |_=>none
noncomputable abbrev line:Nat:=16777216
noncomputable def bigJ:Int:=2 ^ 4000
def MulOk(i j:Int):Prop:=(-(2 ^ 64)<i/\i<2 ^ 64)\/(-(2 ^ 64)<j/\j<2 ^ 64)\/(i.natAbs<2 ^ 100000/\j.natAbs<2 ^ 100000)
noncomputable instance (i j:Int):Decidable (MulOk i j):=by unfold MulOk;infer_instance
noncomputable def items(S:Sto):D->Option (List D)
 |.tup ds=>some ds
 |.lst ds=>some ds
 | .ref n=>match S[n]? with
  |some (.lst ds)=>some ds
  |_=>none
 |_=>none
noncomputable def lsOf(S:Sto):D->Option (List D)
 |.lst ds=>some ds
 |.ref n=>items S (.ref n)
 |_=>none
def JX(i j:Int):Prop:=0<=j/\((j<=1000000/\i.natAbs<2 ^ 64)\/(j<=100000/\i.natAbs<2 ^ 1000))
noncomputable instance (i j:Int):Decidable (JX i j):=by unfold JX;infer_instance
noncomputable def augI:Operator->Int->Int->Option Int
 |.Add,i,j=>some (i+j)
 |.Sub,i,j=>some (i - j)
 |.Mult,i,j=>if (-(2 ^ 64)<i/\i<2 ^ 64)\/(-(2 ^ 64)<j/\j<2 ^ 64) then some (i * j) else none
 |.FloorDiv,i,j=>if 0<j/\j<1073741824 then some (i / j) else none
 |.Mod,i,j=>if 0<j then some (i % j) else none
 |_,_,_=>none
noncomputable def JN(S:Sto):Operator->D->D->Option (List D)
 |.Add,a,b=>(lsOf S a).bind λ xs=>(lsOf S b).bind λ ys=>if xs.length+ys.length<=line then some (xs++ys) else none
 |.Mult,a,.int k=>(lsOf S a).bind λ xs=>if k<2 ^ 62/\-(2 ^ 62)<k/\xs.length * k.toNat<=line then some (List.replicate k.toNat xs).flatten else none
 |_,_,_=>none
noncomputable def intop:Operator->Int->Int->Option D
 |.Add,i,j=>some (.int (i+j))
 |.Sub,i,j=>some (.int (i - j))
 |.Mult,i,j=>if MulOk i j then some (.int (i * j)) else none
 |.LShift,i,j=>if 0<=j/\j<=1000000/\i.natAbs<2 ^ 64 then some (.int (i * 2 ^ j.toNat)) else none
 |.RShift,i,j=>if 0<=j then some (.int (i / 2 ^ j.toNat)) else none
 |.BitAnd,i,j=>some (.int (Builtin.bitAnd i j))
 |.FloorDiv,i,j=>if 0<j/\j<bigJ then some (.int (i / j)) else none
 |.Mod,i,j=>if 0<j then some (.int (i % j)) else none
 |.Pow,i,j=>if JX i j then some (.int (i ^ j.toNat)) else none
 |_,_,_=>none
noncomputable def strop:Operator->Str->Str->Option D
 |.Add,x,y=>if x.length+y.length<=line then some (.str (x++y)) else none
 |_,_,_=>none
noncomputable def tupop:Operator->List D->List D->Option D
 |.Add,xs,ys=>if xs.length+ys.length<=line then some (.tup (xs++ys)) else none
 |_,_,_=>none
noncomputable def binop(S:Sto)(op:Operator)(a b:D):Option D:=match a with
 | .int i=>(match b with
  |.int j=>intop op i j
  |_=>none)
 | .str x=>(match b with
  |.str y=>strop op x y
  |_=>none)
 | .tup xs=>(match b with
  |.tup ys=>tupop op xs ys
  |_=>none)
 |.lst xs=>(JN S op (.lst xs) b).map .lst
 |.ref n=>(JN S op (.ref n) b).map .lst
 |_=>none
noncomputable def isLs:D->Bool
 |.lst _=>true
 |.ref _=>true
 |_=>false
noncomputable def ZgH(S:Sto)(d:D):Bool:=(lsOf S d).isSome
noncomputable def truth(S:Sto):D->Option Bool
 |.non=>some false
 |.bl b=>some b
 |.int i=>some (i != 0)
 |.str x=>if x.length<=line then some ((x.length:Int) != 0) else none
 |d=>(items S d).map λ ds=>!ds.isEmpty
noncomputable def Vm:D->D->Bool
 |.non,.non=>true | .non,.int _=>true | .int _,.non=>true | .non,.bl _=>true | .bl _,.non=>true | .non,.str _=>true | .str _,.non=>true
 |.int _,.int _=>true | .bl _,.bl _=>true | .str _,.str _=>true
 |.int _,.str _=>true | .str _,.int _=>true | .bl _,.str _=>true | .str _,.bl _=>true
 |_,_=>false
mutual
noncomputable def toP:D->PyData
 |.non=>.none
 |.bl b=>.bool b
 |.int i=>.int i
 |.str x=>.str x
 |.tup ds=>.tuple (toPs ds)
 |.lst ds=>.list (toPs ds)
 |.ref _=>.none
noncomputable def toPs:List D->List PyData
 |[]=>[]
 |d::ds=>toP d::toPs ds
end
mutual
noncomputable def YQ:D->Bool
 |.tup ds=>Yn ds
 |.lst ds=>Yn ds
 |.ref _=>false
 |_=>true
noncomputable def Yn:List D->Bool
 |[]=>true
 |d::ds=>YQ d&&Yn ds
end
noncomputable def okD(d:D):Bool:=YQ d&&(toP d).canLay0&&decide ((toP d).depth<=100)
mutual
noncomputable def fixD(S:Sto):Nat->D->Option D
 |0,_=>none
 |n+1,.tup ds=>(JC S n ds).map .tup
 |n+1,.lst ds=>(JC S n ds).map .lst
 |n+1,.ref m=>(items S (.ref m)).bind λ ds=>(JC S n ds).map .lst
 |_+1,d=>some d
noncomputable def JC(S:Sto):Nat->List D->Option (List D)
 |0,_=>none
 |_+1,[]=>some []
 |n+1,d::ds=>(fixD S n d).bind λ x=>(JC S n ds).map λ xs=>x::xs
end
noncomputable def empD:D->D->Bool
 |.tup _,.tup []=>true
 |_,_=>false
noncomputable def eqD(S:Sto)(a b:D):Option Bool:=
 if Vm a b then some (decide (a=b)) else if okD a&&okD b then some (PyData.eqv (toP a) (toP b)) else if empD a b then some (decide (a=.tup [])) else
  (fixD S 1000 a).bind λ a'=>(fixD S 1000 b).bind λ b'=>if okD a'&&okD b' then some (PyData.eqv (toP a') (toP b')) else none
noncomputable def Uw:D->Bool
 |.non=>true
 |.bl _=>true
 |.int _=>true
 |.str _=>true
 |_=>false
noncomputable def eqF:D->D->Bool
 |.non,.non=>true
 |.bl a,.bl b=>a==b
 |.bl a,.int b=>(if a then 1 else 0)==b
 |.int a,.bl b=>a==(if b then 1 else 0)
 |.int a,.int b=>a==b
 |.str a,.str b=>a==b
 |_,_=>false
noncomputable def inD(S:Sto)(x y:D):Option Bool:=(items S y).bind λ ys=>if Uw x&&ys.all Uw then some (ys.any λ z=>eqF z x) else
 if okD x&&decide ((toP x).depth<=50)&&ys.all okD then some (ys.any λ z=>PyData.eqv (toP z) (toP x)) else none
noncomputable def ZB:List D->Option (List Str)
 |[]=>some []
 |.str x::r=>(ZB r).map (x::·)
 |_::_=>none
noncomputable def sgn(z:Str):List Str:=z.cps.toList.map λ c=>⟨#[c]⟩
noncomputable def ordC(f:Int->Int->Bool)(g:Str->Str->Bool)(a b:D):Option Bool:=match a with
 | .int i=>(match b with
  |.int j=>some (f i j)
  |_=>none)
 | .str x=>(match b with
  |.str y=>some (g x y)
  |_=>none)
 |_=>none
noncomputable def ltC(a b:D):Option Bool:=match a with
 | .tup xs=>(match b with
  |.tup ys=>(ZB xs).bind λ l=>(ZB ys).map λ m=>TS.lexB l m
  |_=>none)
 | .int i=>(match b with
  |.int j=>some (decide (i<j))
  |_=>none)
 | .str x=>(match b with
  |.str y=>some (TS.sLt x y)
  |_=>none)
 |_=>none
noncomputable def cmpop(S:Sto)(op:CmpOp)(a b:D):Option Bool:=match op with
 |.Lt=>ltC a b
 |.LtE=>ordC (λ i j=>decide (i<=j)) (λ x y=>!TS.sLt y x) a b
 |.Gt=>ordC (λ i j=>decide (j<i)) (λ x y=>TS.sLt y x) a b
 |.GtE=>ordC (λ i j=>decide (j<=i)) (λ x y=>!TS.sLt x y) a b
 |.Eq=>eqD S a b
 |.NotEq=>(eqD S a b).map not
 |.In=>inD S a b
 |.NotIn=>(inD S a b).map not
 |_=>none
noncomputable def tyD(S:Sto):D->Option String
 |.non=>some "NoneType"
 |.bl _=>some "bool"
 |.int _=>some "int"
 |.str _=>some "str"
 |.tup _=>some "tuple"
 |.lst _=>some "list"
 | .ref n=>match S[n]? with
  |some (.lst _)=>some "list"
  |some (.dk _)=>some "dict"
  |some (.dt _)=>some "dict"
  |some (.ins _ _)=>none
  |some (.dtf _)=>none
  |none=>none
noncomputable def Yb:List (Str×String):=[("int","int"),("bool","bool"),("str","str"),("tuple","tuple"),("list","list")]
noncomputable def isiD(S:Sto)(d:D)(ty:Str):Option Bool:=(Yb.lookup ty).bind λ u=>(tyD S d).map λ t=>decide (t=u)||(decide (t="bool")&&decide (u="int"))
noncomputable def keyD:D->Option Key
 |.int i=>some (.inl i)
 |.str x=>some (.inr x)
 |.non=>some .non
 |_=>none
noncomputable def unkey:Key->D
 |.inl i=>.int i
 |.inr x=>.str x
 |.non=>.non
noncomputable def valD{κ:Type}[DecidableEq κ](kvs:List (κ×D))(k:κ):Option D:=(kvs.find? λ kv=>decide (kv.1=k)).map (·.2)
noncomputable def Z6:List D->Option (List Key)
 |[]=>some []
 |d::r=>(keyD d).bind λ k=>(Z6 r).map λ l=>k::l
noncomputable def dtRd(S:Sto):D->Option (List (List Key×D))
 | .ref n=>match S[n]? with
  |some (.dt kvs)=>some kvs
  |some (.dtf kvs)=>some kvs
  |_=>none
 |_=>none
noncomputable def subD(S:Sto)(d i:D):Option D:=
 match i with
 | .int k=>(match d with
  |.str z=>if z.length<=line then (L2.atI z.cps.toList k).map λ c=>.str ⟨#[c]⟩ else none
  |.tup ds=>L2.atI ds k
  |.lst ds=>L2.atI ds k
  |_=>(items S d).bind λ ds=>L2.atI ds k)
 |_=>none
noncomputable def cutD(ds:List D)(lo hi:Option Int):List D:=(ds.drop (HT.sIx ds.length 0 lo)).take (HT.sIx ds.length ds.length hi - HT.sIx ds.length 0 lo)
noncomputable def ZS(S:Sto)(d:D)(lo hi:Option Int):Option D:=
 match d with
 |.lst ds=>some (.lst (cutD ds lo hi))
 |.ref n=>(items S (.ref n)).map λ ds=>.lst (cutD ds lo hi)
 |.tup ds=>if HT.sIx ds.length 0 lo=0/\HT.sIx ds.length ds.length hi=ds.length then some (.tup ds) else some (.tup (cutD ds lo hi))
 |.str z=>if (StrLaws.sliceText z lo hi).length<=line then some (.str (StrLaws.sliceText z lo hi)) else none
 |_=>none
noncomputable def YR:List D->Option (List Int)
 |[]=>some []
 |.int i::ds=>(YR ds).map (i::·)
 |_::_=>none
noncomputable def biOf:List (Str×Bi):=[("len",.len),("abs",.abs),("min",.min),("max",.max),("int",.int),("tuple",.tuple),("all",.all),("any",.any),("divmod",.divmod),("bool",.bool),("str",.str)]
noncomputable def Yv:List D->Option (List Bool)
 |[]=>some []
 |.bl b::ds=>(Yv ds).map (b::·)
 |_::_=>none
noncomputable def Yo(i:Int)(r:List Int):Int:=r.foldl (λ a b=>if b<a then b else a) i
noncomputable def bi1(S:Sto)(b:Bi)(d:D):Option D:=match b with
 | .len=>(match d with
  |.str x=>if x.length<=line then some (.int x.length) else none
  | .ref n=>(match S[n]? with
   |some (.lst ds)=>some (.int ds.length)
   |some (.dt kvs)=>some (.int kvs.length)
   |_=>none)
  |d=>(items S d).map λ es=>.int es.length)
 | .abs=>(match d with
  |.int i=>some (.int (if i<0 then -i else i))
  |_=>none)
 | .int=>(match d with
  |.int i=>some (.int i)
  |.bl b=>some (.int (if b then 1 else 0))
  |_=>none)
 | .tuple=>(match d with
  |.tup ds=>some (.tup ds)
  |d=>(lsOf S d).map .tup)
 |.all=>(lsOf S d).bind λ ds=>(Yv ds).map λ bs=>.bl (bs.all id)
 |.any=>(lsOf S d).bind λ ds=>(Yv ds).map λ bs=>.bl (bs.any id)
 | .min=>(lsOf S d).bind λ ds=>(YR ds).bind λ is=>match is with
  |[]=>none
  |i::r=>some (.int (Yo i r))
 | .bool=>(match d with
  |.int i=>some (.bl (i != 0))
  |.bl b=>some (.bl b)
  |_=>none)
 | .str=>(match d with
  |.int i=>if i.natAbs<2 ^ 1900 then some (.str (toString i)) else none
  |_=>none)
 |_=>none
noncomputable def bi2(b:Bi)(i j:Int):Option D:=match b with
 |.min=>some (.int (if j<i then j else i))
 |.max=>some (.int (if j > i then j else i))
 |.divmod=>if 0<j/\j<1073741824 then some (.tup [.int (i / j),.int (i % j)]) else none
 |_=>none
noncomputable def bltD(S:Sto)(b:Bi)(ds:List D):Option D:=match ds with
 |[d]=>bi1 S b d
 | [d0,d1]=>(match d0 with
  | .int i=>(match d1 with
   |.int j=>bi2 b i j
   |_=>none)
  |_=>none)
 |_=>none
noncomputable def insI(x:Int):List Int->List Int
 |[]=>[x]
 |y::r=>if x<=y then x::y::r else y::insI x r
noncomputable def isort:List Int->List Int
 |[]=>[]
 |x::r=>insI x (isort r)
noncomputable def idxI:List Int->Int->Option Nat
 |[],_=>none
 |x::r,i=>if x=i then some 0 else (idxI r i).map (·+1)
noncomputable def Yg:List D->Option (List (List Str))
 |[]=>some []
 |.tup ds::r=>(ZB ds).bind λ l=>if l.isEmpty then none else (Yg r).map (l::·)
 |_::_=>none
noncomputable def insR(x:List Str):List (List Str)->List (List Str)
 |[]=>[x]
 |y::r=>if TS.lexB y x then y::insR x r else x::y::r
noncomputable def ZH:List (List Str)->List (List Str)
 |[]=>[]
 |x::r=>insR x (ZH r)
noncomputable def rowD(l:List Str):D:=.tup (l.map .str)
noncomputable def insS(x:Str):List Str->List Str
 |[]=>[x]
 |y::r=>if TS.sLt y x then y::insS x r else x::y::r
noncomputable def ZcZ:List Str->List Str
 |[]=>[]
 |x::r=>insS x (ZcZ r)
noncomputable def Y5(sep:Str)(l:List Str):Bool:=!Builtin.Str.tooLong (l.toArray.foldl (λ n y=>n+y.length+sep.length) 0)&&decide ((Str.join sep l).length<=line)
noncomputable def blOf:List (Str×Bl):=[("list",.list),("sorted",.sorted)]
noncomputable def bltL(S:Sto):Bl->List D->Option (List D)
 |.list,[d]=>items S d
 | .sorted,[d]=>match d with
  |.tup ds=>(Yg ds).bind λ ls=>if ls.length<64 then some ((ZH ls).map rowD) else none
  | d=>(lsOf S d).bind λ ds=>match YR ds with
   |some is=>if is.length<64 then some ((isort is).map .int) else none
   |none=>(Yg ds).bind λ ls=>if ls.length<64 then some ((ZH ls).map rowD) else none
 |_,_=>none
noncomputable def mthD(S:Sto):Mt->D->List D->Option (D×Sto)
 |.append,.ref n,[d]=>(items S (.ref n)).bind λ ds=>if ds.length<line then some (.non,S.set n (.lst (ds++[d]))) else none
 |.extend,.ref n,[x]=>(items S (.ref n)).bind λ ds=>(items S x).bind λ es=>if ds.length+es.length<=line/\x≠.ref n then some (.non,S.set n (.lst (ds++es))) else none
 | .pop,.ref n,[]=>(items S (.ref n)).bind λ ds=>match ds[ds.length - 1]? with
  |some d=>some (d,S.set n (.lst ds.dropLast))
  |none=>none
 | .pop,.ref n,[.int i]=>if i=0 then (items S (.ref n)).bind λ ds=>match ds with
  |d::r=>some (d,S.set n (.lst r))
  |[]=>none else none
 |.index,d,[.int i]=>(lsOf S d).bind λ ds=>(YR ds).bind λ is=>(idxI is i).map λ (j:Nat)=>(D.int (j:Int),S)
 |_,_,_=>none
noncomputable def putD{κ:Type}[DecidableEq κ](kvs:List (κ×D))(k:κ)(v:D):List (κ×D):=
 if (kvs.any λ kv=>decide (kv.1=k))=true then kvs.map (λ kv=>if kv.1=k then (kv.1,v) else kv) else kvs++[(k,v)]
noncomputable def Zbb(kvs more:List (Key×D)):List (Key×D):=more.foldl (λ acc kv=>putD acc kv.1 kv.2) kvs
noncomputable def Zfk{κ:Type}[DecidableEq κ](kvs more:List (κ×D)):List (κ×D):=more.foldl (λ acc kv=>putD acc kv.1 kv.2) kvs
noncomputable def dtOf(S:Sto):D->Option (List (List Key×D))
 | .ref n=>match S[n]? with
  |some (.dt kvs)=>some kvs
  |_=>none
 |_=>none
noncomputable def ZgI:D->Option (Key×D)
 |.tup [k,v]=>(keyD k).map λ k'=>(k',v)
 |_=>none
noncomputable def qe:List D->Option (List (Key×D))
 |[]=>some []
 |d::r=>(ZgI d).bind λ p=>(qe r).map λ l=>p::l
noncomputable def dkOf(S:Sto):D->Option (List (Key×D))
 | .ref n=>match S[n]? with
  |some (.dk kvs)=>some kvs
  |_=>none
 |_=>none
noncomputable def Zfl(is:List Int):Nat:=(PyProof.Rows.firstMet (λ i=>is.getD i 0) is.length).length
noncomputable def Zbc(p q:Pos):Bool:=p.endLine==q.line
noncomputable def ZC(C m:Str):Str:=C++(Str.ofString "."++m)
noncomputable def putN(f:Str)(v:D):List (Str×D)->List (Str×D)
 |[]=>[(f,v)]
 |(g,x)::r=>if g=f then (g,v)::r else (g,x)::putN f v r
structure Cl where
 fn:Str->List D->Sto->Option (D×Sto)
 gl:Str->Option D
 gd:Str->Option (List (Str×Int))
 fd:Str->Str->Bool
 mt:Str->List D->Sto->Option (D×Sto)
 nw:Str->List D->Sto->Option (D×Sto)
inductive Sr where
 |vs (ds:List D) | rf (n:Nat)
noncomputable def Sr.nx(r:Sr)(i:Nat)(S:Sto):Option (Option D):=match r with
 |.vs ds=>some ds[i]?
 |.rf n=>(items S (.ref n)).map λ ds=>ds[i]?
noncomputable def Sr.fuel:Sr->Nat
 |.vs ds=>ds.length+1
 |.rf _=>line+2
noncomputable def ZV(r:Sr)(step:D->En->Sto->Option (Option D×En×Sto)):Nat->Nat->En->Sto->List D->Option (List D×Sto)
 |0,_,_,_,_=>none
 | m+1,i,e,S,acc=>(r.nx i S).bind λ o=>match o with
  |none=>some (acc,S)
  | some d=>(step d e S).bind λ r'=>match r'.1 with
   |some x=>if acc.length<line then ZV r step m (i+1) r'.2.1 r'.2.2 (acc++[x]) else none
   |none=>ZV r step m (i+1) r'.2.1 r'.2.2 acc
noncomputable def Wu{α:Type}(r:Sr)(step:D->En->Sto->List α->Option (List α×En×Sto)):Nat->Nat->En->Sto->List α->Option (List α×En×Sto)
 |0,_,_,_,_=>none
 | m+1,i,e,S,acc=>(r.nx i S).bind λ o=>match o with
  |none=>some (acc,e,S)
  |some d=>(step d e S acc).bind λ q=>Wu r step m (i+1) q.2.1 q.2.2 q.1
noncomputable def emit1{α:Type}(f:En->Sto->Option (α×Sto)):En->Sto->List α->Option (List α×En×Sto):=λ e S acc=>(f e S).bind λ x=>if acc.length<line then some (acc++[x.1],e,x.2) else none
noncomputable def emit2{α:Type}(fI:En->Sto->Option (Sr×Sto))(step:D->En->Sto->List α->Option (List α×En×Sto)):En->Sto->List α->Option (List α×En×Sto):=λ e S acc=>(fI e S).bind λ r=>Wu r.1 step r.1.fuel 0 e r.2 acc
noncomputable def Zaf{α:Type}(fG:D->En->Sto->Option (En×Sto))(fE:En->Sto->List α->Option (List α×En×Sto)):D->En->Sto->List α->Option (List α×En×Sto):=λ d e S acc=>(fG d e S).bind λ q=>fE q.1 q.2 acc
noncomputable def ZgJ(h:Int)(fa:En->Sto->Option (D×Sto))(fv:En->Sto->Option (D×Sto)):En->Sto->Option ((List Key×D)×Sto):=λ e S=>(fa e S).bind λ x=>match x.1 with
 |.tup ds=>if 0<=h/\h<ds.length then (Z6 (ds.take h.toNat)).bind λ k=>(fv e x.2).map λ y=>((k,y.1),y.2) else none
 |_=>none
noncomputable def ZJ(own:Nat)(caps:List Nat)(env:En):En:=List.replicate own none++caps.map λ i=>(env[i]?).join
noncomputable def dcL(r:Sr)(step:D->En->Sto->Option (En×Sto)):Nat->Nat->En->Sto->Option Sto
 |0,_,_,_=>none
 | m+1,i,e,S=>(r.nx i S).bind λ o=>match o with
  |none=>some S
  |some d=>(step d e S).bind λ q=>dcL r step m (i+1) q.1 q.2
noncomputable def ZO(fG:D->En->Sto->Option (En×Sto))(fT:En->Sto->Option (Bool×Sto))(fE:En->Sto->Option (D×Sto)):D->En->Sto->Option (Option D×En×Sto):=
 λ d e S=>(fG d e S).bind λ q=>(fT q.1 q.2).bind λ b=>if b.1 then (fE q.1 b.2).map λ x=>(some x.1,q.1,x.2) else some (none,q.1,b.2)
mutual
noncomputable def ev(c:Cl):Ex->En->Sto->Option (D×Sto)
 | .var i,env,S=>match env[i]? with
  |some (some d)=>some (d,S)
  |_=>none
 |.non,_,S=>some (.non,S)
 |.bl b,_,S=>some (.bl b,S)
 |.int i,_,S=>some (.int i,S)
 |.str x,_,S=>some (.str x,S)
 |.bin op a b,env,S=>(ev c a env S).bind λ r=>(ev c b env r.2).bind λ q=>(binop q.2 op r.1 q.1).map λ d=>(d,q.2)
 | .neg a,env,S=>(ev c a env S).bind λ r=>match r.1 with
  |.int i=>some (.int (-i),r.2)
  |_=>none
 |.not a,env,S=>(ev c a env S).bind λ r=>(truth r.2 r.1).map λ b=>(.bl (!b),r.2)
 |.and a b,env,S=>(ev c a env S).bind λ r=>(truth r.2 r.1).bind λ t=>if t then ev c b env r.2 else some r
 |.or a b,env,S=>(ev c a env S).bind λ r=>(truth r.2 r.1).bind λ t=>if t then some r else ev c b env r.2
 |.ite x a b,env,S=>(ev c x env S).bind λ r=>(truth r.2 r.1).bind λ t=>if t then ev c a env r.2 else ev c b env r.2
 |.cmp op a b,env,S=>(ev c a env S).bind λ r=>(ev c b env r.2).bind λ q=>(cmpop q.2 op r.1 q.1).map λ d=>(.bl d,q.2)
 | .cmp2 op op' a b e,env,S=>(ev c a env S).bind λ r=>(ev c b env r.2).bind λ q=>(cmpop q.2 op r.1 q.1).bind λ t=>
  if t then (ev c e env q.2).bind λ p=>(cmpop p.2 op' q.1 p.1).map λ d=>(.bl d,p.2) else some (.bl false,q.2)
 |.isN a,env,S=>(ev c a env S).map λ r=>(.bl (decide (r.1=.non)),r.2)
 |.notN a,env,S=>(ev c a env S).map λ r=>(.bl (!decide (r.1=.non)),r.2)
 |.isi a ty,env,S=>(ev c a env S).bind λ r=>(isiD r.2 r.1 ty).map λ b=>(.bl b,r.2)
 | .fld a x,env,S=>(ev c a env S).bind λ r=>match r.1 with
  | .ref n=>(match r.2[n]? with
   |some (.ins C fs)=>if c.fd C x then (fs.lookup x).map λ d=>(d,r.2) else none
   |_=>none)
  |_=>none
 | .mcl o m es,env,S=>(ev c o env S).bind λ r=>match r.1 with
  | .ref n=>(match r.2[n]? with
   |some (.ins C fs)=>if (fs.lookup m).isNone then (evs c es env r.2).bind λ q=>c.mt (ZC C m) (.ref n::q.1) q.2 else none
   |_=>none)
  |_=>none
 | .new C es,env,S=>(evs c es env S).bind λ q=>(c.nw (ZC C "__init__") (.ref q.2.length::q.1) (q.2++[.ins C []])).bind λ r=>match r.1 with
  |.non=>some (.ref q.2.length,r.2)
  |_=>none
 | .gin x a,env,S=>(ev c a env S).bind λ r=>match r.1 with
  |.str y=>(c.gd x).map λ kvs=>(.bl (kvs.lookup y).isSome,r.2)
  |_=>none
 | .gsb x a,env,S=>(ev c a env S).bind λ r=>match r.1 with
  |.str y=>(c.gd x).bind λ kvs=>(kvs.lookup y).map λ i=>(.int i,r.2)
  |_=>none
 |.sub a i,env,S=>(ev c a env S).bind λ r=>(ev c i env r.2).bind λ q=>(subD q.2 r.1 q.1).map λ d=>(d,q.2)
 |.slc a lo hi,env,S=>(ev c a env S).bind λ r=>(evO c lo env r.2).bind λ l=>(evO c hi env l.2).bind λ h=>(ZS h.2 r.1 l.1 h.1).map λ d=>(d,h.2)
 |.slen a,env,S=>(ev c a env S).bind λ r=>(lsOf r.2 r.1).bind λ ds=>(YR ds).bind λ is=>if is.length<4000 then some (.int (Zfl is),r.2) else none
 |.tup es,env,S=>(evs c es env S).bind λ r=>if r.1.length<=line then some (.tup r.1,r.2) else none
 |.lv l,env,S=>(evL c l env S).map λ r=>(.lst r.1,r.2)
 |.lr l,env,S=>(evL c l env S).map λ r=>(.ref r.2.length,r.2++[.lst r.1])
 |.call f es,env,S=>(evs c es env S).bind λ r=>c.fn f r.1 r.2
 |.blt f es,env,S=>(evs c es env S).bind λ r=>(bltD r.2 f r.1).map λ d=>(d,r.2)
 |.gl x,_,S=>(c.gl x).map λ d=>(d,S)
 |.dnew,_,S=>some (.ref S.length,S++[.dt []])
 |.dlit k v,_,S=>some (.ref S.length,S++[.dk [(.inl k,.int v)]])
 |.dvar k i,env,S=>(env[i]?).join.map λ d=>(.ref S.length,S++[.dk [(.inr k,d)]])
 | .isB a b,env,S=>(ev c a env S).bind λ r=>match r.1 with
  |.bl x=>some (.bl (x==b),r.2)
  |_=>none
 | .notB a b,env,S=>(ev c a env S).bind λ r=>match r.1 with
  |.bl x=>some (.bl (!(x==b)),r.2)
  |_=>none
 | .rev a,env,S=>(ev c a env S).bind λ r=>match r.1 with
  |.tup ds=>some (.tup ds.reverse,r.2)
  |_=>none
 |.isiT a t u,env,S=>(ev c a env S).bind λ r=>(isiD r.2 r.1 t).bind λ b1=>(isiD r.2 r.1 u).map λ b2=>(.bl (b1||b2),r.2)
 |.dinT es o,env,S=>(evs c es env S).bind λ r=>if r.1.length<=line then (ev c o env r.2).bind λ q=>(dtOf q.2 q.1).bind λ kvs=>(Z6 r.1).map λ k=>(.bl (kvs.any λ kv=>decide (kv.1=k)),q.2) else none
 |.dof a,env,S=>(ev c a env S).bind λ r=>(lsOf r.2 r.1).bind λ ds=>(qe ds).map λ kvs=>(.ref r.2.length,r.2++[.dk (Zbb [] kvs)])
 | .strp a,env,S=>(ev c a env S).bind λ r=>match r.1 with
  |.str z=>if (zx z).length<=line then some (.str (zx z),r.2) else none
  |_=>none
 |.dget o es f,env,S=>(ev c o env S).bind λ q=>(dtOf q.2 q.1).bind λ _=>(evs c es env q.2).bind λ r=>if r.1.length<=line then (ev c f env r.2).bind λ z=>(dtOf z.2 q.1).bind λ kvs=>(Z6 r.1).map λ ks=>((valD kvs ks).getD z.1,z.2) else none
 |.dofT own caps t it a h v,env,S=>(evI c it env S).bind λ r=>(Wu r.1 (Zaf (λ d e S=>asg c t d e S) (emit1 (ZgJ h (λ e S=>ev c a e S) (λ e S=>ev c v e S)))) r.1.fuel 0 (ZJ own caps env) r.2 []).map λ q=>(.ref q.2.2.length,q.2.2++[.dt (Zfk [] q.1)])
 | .subK a i,env,S=>(ev c a env S).bind λ r=>(ev c i env r.2).bind λ q=>match q.1 with
  |.tup ks=>if ks.length=3 then (dtRd q.2 r.1).bind λ kvs=>(Z6 ks).bind λ k=>(valD kvs k).map λ d=>(d,q.2) else none
  |_=>none
 |.slT a,env,S=>(ev c a env S).bind λ r=>(lsOf r.2 r.1).bind λ ds=>(Yg ds).bind λ ls=>if ls.length<63 then some (.int ((SY.ddT ls).length:Int),r.2) else none
 | .slX a,env,S=>(ev c a env S).bind λ r=>match r.1 with
  |.tup ds=>(ZB ds).bind λ l=>if l.length<4000 then some (.int ((SX.ddS l).length:Int),r.2) else none
  |_=>none
 | .dgk o i f,env,S=>(ev c o env S).bind λ q=>(dtOf q.2 q.1).bind λ _=>(ev c i env q.2).bind λ r=>match r.1 with
  |.tup ks=>if ks.length=3 then (ev c f env r.2).bind λ z=>(dtOf z.2 q.1).bind λ kvs=>(Z6 ks).map λ k=>((valD kvs k).getD z.1,z.2) else none
  |_=>none
 |.join x a,env,S=>(ev c a env S).bind λ r=>(lsOf r.2 r.1).bind λ ds=>(ZB ds).bind λ l=>if Y5 x l then some (.str (Str.join x l),r.2) else none
 | .dcomp own caps t it ks v,env,S=>(evI c it env S).bind λ r=>(dcL r.1 (λ d e S=>(asg c t d e S).bind λ q=>(evs c ks q.1 q.2).bind λ kk=>if kk.1.length<=line then (Z6 kk.1).bind λ k=>(ev c v q.1 kk.2).bind λ x=>(match x.2[r.2.length]? with
   |some (.dt kvs)=>if kvs.length<line then some (q.1,x.2.set r.2.length (.dt (putD kvs k x.1))) else none
   |_=>none) else none) r.1.fuel 0 (ZJ own caps env) (r.2++[.dt []])).map λ S'=>(.ref r.2.length,S')
 |.mth o m es,env,S=>(ev c o env S).bind λ r=>if ZgH r.2 r.1 then (evs c es env r.2).bind λ q=>mthD q.2 m r.1 q.1 else none
noncomputable def evL(c:Cl):Lx->En->Sto->Option (List D×Sto)
 |.dsp es,env,S=>(evs c es env S).bind λ r=>if r.1.length<=line then some r else none
 |.bin op a b,env,S=>(ev c a env S).bind λ r=>(ev c b env r.2).bind λ q=>(JN q.2 op r.1 q.1).map λ d=>(d,q.2)
 |.blt f es,env,S=>(evs c es env S).bind λ r=>(bltL r.2 f r.1).map λ d=>(d,r.2)
 | .lrng a,env,S=>(ev c a env S).bind λ r=>match r.1 with
  |.int j=>if -(2 ^ 62)<=j/\j<=1000000 then some ((List.range j.toNat).map λ (k:Nat)=>D.int (0+(k:Int)),r.2) else none
  |_=>none
 | .lrng2 a b,env,S=>(ev c a env S).bind λ r=>(ev c b env r.2).bind λ q=>match r.1,q.1 with
  |.int i,.int j=>if -(2 ^ 62)<=i/\i<2 ^ 62/\-(2 ^ 62)<=j/\j<2 ^ 62/\j - i<=1000000 then some ((List.range (j - i).toNat).map λ (k:Nat)=>D.int (i+(k:Int)),q.2) else none
  |_,_=>none
 |.dvals a,env,S=>(ev c a env S).bind λ r=>(dkOf r.2 r.1).map λ kvs=>(kvs.map (·.2),r.2)
 |.comp own caps t it ifs elt,env,S=>(evI c it env S).bind λ r=>ZV r.1 (ZO (λ d e S=>asg c t d e S) (λ e S=>evTs c ifs e S) (λ e S=>ev c elt e S)) r.1.fuel 0 (ZJ own caps env) r.2 []
 | .wrds a,env,S=>(ev c a env S).bind λ r=>match r.1 with
  |.str z=>if z.length<=line/\(wordsOf z).length<=line then some ((wordsOf z).map .str,r.2) else none
  |_=>none
 | .lins a,env,S=>(ev c a env S).bind λ r=>match r.1 with
  |.str z=>if z.length<=line/\(linesOf z).length<=line then some ((linesOf z).map .str,r.2) else none
  |_=>none
 | .prts a b,env,S=>(ev c a env S).bind λ r=>match r.1 with
  | .str z=>(ev c b env r.2).bind λ q=>match q.1 with
   |.str y=>if ZdG z y=true/\z.length<=line/\(partsOf z y).length<=line then some ((partsOf z y).map .str,q.2) else none
   |_=>none
  |_=>none
 |.sset a,env,S=>(ev c a env S).bind λ r=>(lsOf r.2 r.1).bind λ ds=>(ZB ds).bind λ l=>if 2<=(SX.ddS l).length/\(SX.ddS l).length<64/\l.length<4000 then some ((ZcZ (SX.ddS l)).map .str,r.2) else none
 | .compD own caps t o elt,env,S=>(ev c o env S).bind λ r=>match r.1 with
  | .ref n=>(match r.2[n]? with
   | some (.dt kvs)=>(ZV (.vs (kvs.map λ kv=>D.tup (kv.1.map unkey))) (ZO (λ d e S=>asg c t d e S) (λ e S=>some (true,S)) (λ e S=>ev c elt e S)) (kvs.length+1) 0 (ZJ own caps env) (r.2.set n (.dtf kvs)) []).bind λ q=>(match q.2[n]? with
    |some (.dtf kvs')=>some (q.1,q.2.set n (.dt kvs'))
    |_=>none)
   |_=>none)
  |_=>none
 | .zip3 a b e,env,S=>(ev c a env S).bind λ r=>(ev c b env r.2).bind λ q=>(ev c e env q.2).bind λ p=>match vals r.1,vals q.1,vals p.1 with
  |some xs,some ys,some zs=>if (List.zipWith (λ x (y:D×D)=>D.tup [x,y.1,y.2]) xs (ys.zip zs)).length<=line then some (List.zipWith (λ x (y:D×D)=>D.tup [x,y.1,y.2]) xs (ys.zip zs),p.2) else none
  |_,_,_=>none
 |.comp2 own caps t it t2 it2 elt,env,S=>(evI c it env S).bind λ r=>(Wu r.1 (Zaf (λ d e S=>asg c t d e S) (emit2 (λ e S=>evI c it2 e S) (Zaf (λ d e S=>asg c t2 d e S) (emit1 (λ e S=>ev c elt e S))))) r.1.fuel 0 (ZJ own caps env) r.2 []).map λ q=>(q.1,q.2.2)
noncomputable def evs(c:Cl):Exs->En->Sto->Option (List D×Sto)
 |.nil,_,S=>some ([],S)
 |.cons e es,env,S=>(ev c e env S).bind λ r=>(evs c es env r.2).map λ q=>(r.1::q.1,q.2)
noncomputable def evO(c:Cl):Ox->En->Sto->Option (Option Int×Sto)
 |.no,_,S=>some (none,S)
 | .yes e,env,S=>(ev c e env S).bind λ r=>match r.1 with
  |.int i=>some (some i,r.2)
  |_=>none
noncomputable def evTs(c:Cl):Exs->En->Sto->Option (Bool×Sto)
 |.nil,_,S=>some (true,S)
 |.cons e es,env,S=>(ev c e env S).bind λ r=>(truth r.2 r.1).bind λ t=>if t then evTs c es env r.2 else some (false,r.2)
noncomputable def asg(c:Cl):Tg->D->En->Sto->Option (En×Sto)
 |.name i,d,env,S=>some (env.set i (some d),S)
 | .tup ts,d,env,S=>match d with
  |.tup ds=>asgs c ts ds env S
  |.lst ds=>asgs c ts ds env S
  |_=>none
 | .sub o i,d,env,S=>(ev c o env S).bind λ r=>(ev c i env r.2).bind λ q=>match r.1,q.1 with
  | .ref n,.int k=>(match q.2[n]? with
   |some (.lst ds)=>(L2.ixN ds.length k).map λ j=>(env,q.2.set n (.lst (ds.set j d)))
   |some (.dk kvs)=>if kvs.length<line then some (env,q.2.set n (.dk (putD kvs (.inl k) d))) else none
   |_=>none)
  |_,_=>none
 | .subK o i,d,env,S=>(ev c o env S).bind λ r=>(ev c i env r.2).bind λ q=>match r.1,q.1 with
  | .ref n,.tup ks=>(match q.2[n]? with
   |some (.dt kvs)=>if ks.length=3/\kvs.length<line then (Z6 ks).map λ k=>(env,q.2.set n (.dt (putD kvs k d))) else none
   |_=>none)
  |_,_=>none
 | .subT o es,d,env,S=>(ev c o env S).bind λ r=>(evs c es env r.2).bind λ q=>if q.1.length<=line then (match r.1 with
  | .ref n=>(match q.2[n]? with
   |some (.dt kvs)=>(Z6 q.1).bind λ k=>if kvs.length<line then some (env,q.2.set n (.dt (putD kvs k d))) else none
   |_=>none)
  |_=>none) else none
noncomputable def asgs(c:Cl):Tgs->List D->En->Sto->Option (En×Sto)
 |.nil,[],env,S=>some (env,S)
 |.cons t ts,d::ds,env,S=>(asg c t d env S).bind λ r=>asgs c ts ds r.1 r.2
 |_,_,_,_=>none
noncomputable def evI(c:Cl):Itx->En->Sto->Option (Sr×Sto)
 | .seq e,env,S=>(ev c e env S).bind λ r=>match r.1 with
  |.tup ds=>some (.vs ds,r.2)
  |.lst ds=>some (.vs ds,r.2)
  |.str z=>some (.vs ((sgn z).map D.str),r.2)
  |.ref n=>(items r.2 (.ref n)).map λ _=>(.rf n,r.2)
  |_=>none
 | .rng1 a,env,S=>(ev c a env S).bind λ r=>match r.1 with
  |.int j=>if -(2 ^ 62)<=j/\j<2 ^ 62 then some (.vs ((List.range j.toNat).map λ (k:Nat)=>D.int (0+(k:Int))),r.2) else none
  |_=>none
 | .rng2 a b,env,S=>(ev c a env S).bind λ r=>(ev c b env r.2).bind λ q=>match r.1,q.1 with
  |.int i,.int j=>if -(2 ^ 62)<=i/\i<2 ^ 62/\-(2 ^ 62)<=j/\j<2 ^ 62 then some (.vs ((List.range (j - i).toNat).map λ (k:Nat)=>D.int (i+(k:Int))),q.2) else none
  |_,_=>none
 | .enm e,env,S=>(ev c e env S).bind λ r=>match vals r.1 with
  |some ds=>some (.vs (ds.mapIdx λ k d=>D.tup [.int (k:Int),d]),r.2)
  |none=>none
 | .zip a b,env,S=>(ev c a env S).bind λ r=>(ev c b env r.2).bind λ q=>match vals r.1,vals q.1 with
  |some xs,some ys=>some (.vs (List.zipWith (λ x y=>D.tup [x,y]) xs ys),q.2)
  |_,_=>none
 | .dkt a,env,S=>(ev c a env S).bind λ r=>match r.1 with
  | .ref n=>(match r.2[n]? with
   |some (.dt kvs)=>some (.vs (kvs.map λ kv=>D.tup (kv.1.map unkey)),r.2.set n (.dtf kvs))
   |_=>none)
  |_=>none
 |.dkeys a,env,S=>(ev c a env S).bind λ r=>(lsOf r.2 r.1).bind λ ds=>(qe ds).map λ kvs=>(.vs ((Zbb [] kvs).map λ kv=>unkey kv.1),r.2)
end
noncomputable def evT(c:Cl)(x:Ex)(env:En)(S:Sto):Option (Bool×Sto):=(ev c x env S).bind λ r=>(truth r.2 r.1).map λ b=>(b,r.2)
inductive Fl where
 |nx (env:En) (S:Sto) | rt (d:D) (S:Sto) | bk (env:En) (S:Sto) | ct (env:En) (S:Sto)
noncomputable def forL(r:Sr)(step:D->En->Sto->Option Fl):Nat->Nat->En->Sto->Option Fl
 |0,_,_,_=>none
 | m+1,i,env,S=>(r.nx i S).bind λ o=>match o with
  |none=>some (.nx env S)
  | some d=>match step d env S with
   |some (.nx e1 S1)=>forL r step m (i+1) e1 S1
   |some (.ct e1 S1)=>forL r step m (i+1) e1 S1
   |some (.bk e1 S1)=>some (.nx e1 S1)
   |some (.rt d S1)=>some (.rt d S1)
   |none=>none
noncomputable def qf(test:En->Sto->Option (Bool×Sto))(body:En->Sto->Option Fl):Nat->En->Sto->Option Fl
 |0,_,_=>none
 | n+1,env,S=>(test env S).bind λ r=>if r.1 then (match body env r.2 with
  |some (.nx e1 S1)=>qf test body n e1 S1
  |some (.ct e1 S1)=>qf test body n e1 S1
  |some (.bk e1 S1)=>some (.nx e1 S1)
  |some (.rt d S1)=>some (.rt d S1)
  |none=>none) else some (.nx env r.2)
mutual
noncomputable def evS(c:Cl)(W:Nat):Sm->En->Sto->Option Fl
 |.asg t e,env,S=>(ev c e env S).bind λ r=>(asg c t r.1 env r.2).map λ q=>.nx q.1 q.2
 |.par i j a b,env,S=>(ev c a env S).bind λ r=>(ev c b env r.2).map λ q=>.nx ((env.set i (some r.1)).set j (some q.1)) q.2
 |.par3 i j l a b e,env,S=>(ev c a env S).bind λ r=>(ev c b env r.2).bind λ q=>(ev c e env q.2).map λ p=>.nx (((env.set i (some r.1)).set j (some q.1)).set l (some p.1)) p.2
 | .aug i op e,env,S=>(match env[i]? with
  | some (some (.int x))=>(ev c e env S).bind λ r=>(match r.1 with
   |.int y=>(augI op x y).map λ d=>.nx (env.set i (some (.int d))) r.2
   |_=>none)
  |_=>none)
 |.ex e,env,S=>(ev c e env S).map λ r=>.nx env r.2
 |.ret e,env,S=>(ev c e env S).map λ r=>.rt r.1 r.2
 |.retN,env,S=>some (.rt .non S)
 |.ifs x a b,env,S=>(evT c x env S).bind λ r=>if r.1 then evSs c W a env r.2 else evSs c W b env r.2
 |.fr t it b,env,S=>(evI c it env S).bind λ r=>forL r.1 (λ d e1 S1=>(asg c t d e1 S1).bind λ q=>evSs c W b q.1 q.2) r.1.fuel 0 env r.2
 |.whl x b,env,S=>qf (evT c x) (evSs c W b) W env S
 |.pass,env,S=>some (.nx env S)
 |.brk,env,S=>some (.bk env S)
 |.cnt,env,S=>some (.ct env S)
 |.bad,_,_=>none
 | .fas o x v,env,S=>(ev c v env S).bind λ r=>(ev c o env r.2).bind λ q=>match q.1 with
  | .ref n=>(match q.2[n]? with
   |some (.ins C fs)=>if c.fd C x=true/\fs.length<1000 then some (.nx env (q.2.set n (.ins C (putN x r.1 fs)))) else none
   |_=>none)
  |_=>none
noncomputable def evSs(c:Cl)(W:Nat):Sms->En->Sto->Option Fl
 |.nil,env,S=>some (.nx env S)
 | .cons s ss,env,S=>(evS c W s env S).bind λ r=>match r with
  |.nx e1 S1=>evSs c W ss e1 S1
  |r=>some r
end
structure FI where
 ps:Nat
 nn:Nat
 body:Sms
structure Tab where
 fns:List (Str×FI)
 gls:List (Str×D)
 gds:List (Str×List (Str×Int))
 fds:List (Str×Str)
 mts:List (Str×FI)
noncomputable def Tab.lookup(T:Tab)(f:Str):Option FI:=T.fns.lookup f
noncomputable def fin:Fl->Option (D×Sto)
 |.rt d S=>some (d,S)
 |.nx _ S=>some (.non,S)
 |_=>none
noncomputable def Yc(n:Nat)(ds:List D):En:=ds.map some++List.replicate (n - ds.length) none
noncomputable def Za(T:Tab)(W:Nat):Nat->Cl
 |0=>⟨λ _ _ _=>none,λ x=>T.gls.lookup x,λ x=>T.gds.lookup x,λ C x=>T.fds.contains (C,x),λ _ _ _=>none,λ _ _ _=>none⟩
 | k+1=>⟨λ f ds S=>(T.lookup f).bind λ fi=>if ds.length=fi.ps then (evSs (Za T W k) W fi.body (Yc fi.nn ds) S).bind fin else none,λ x=>T.gls.lookup x,λ x=>T.gds.lookup x,λ C x=>T.fds.contains (C,x),
  λ f ds S=>(T.mts.lookup f).bind λ fi=>if ds.length=fi.ps then (evSs (Za T W k) W fi.body (Yc fi.nn ds) S).bind fin else none,(Za T W k).mt⟩
noncomputable def Zz(x:Str):Bool:=!(decide (x="__debug__")||decide (x="__classdict__")||decide (x="__name__"))
noncomputable def blts:List Str:=["len","abs","min","max","int","bool","str","tuple","list","isinstance","range","enumerate","zip","all","any","divmod","sorted","set","dict","reversed","sum"]
noncomputable def slot(x:Str):List Str->Option Nat
 |[]=>none
 |y::r=>if y=x then some 0 else (slot x r).map (·+1)
theorem slot_get{x:Str}:∀ {N:List Str}{i:Nat},slot x N=some i->N[i]?=some x
 |[],i,h=>by cases h
 | y::r,i,h=>by
  rw[slot] at h;split at h
  ·rename_i e;cases h;simp[e]
  ·obtain⟨j,h1,rfl⟩:=zoM h;simpa using slot_get h1
noncomputable def notStar:Expr->Bool
 |.Starred ..=>false
 |_=>true
noncomputable def Yd:Expr->Bool
 |.Slice ..=>false
 |_=>true
noncomputable def Vn(nm:List (Str×NameKind))(x:Str):Bool:=decide (nm.lookup x=some .local)||decide (nm.lookup x=some .cell)
noncomputable def isTup:Expr->Bool
 |.Tuple ..=>true
 |_=>false
noncomputable def ownN(scope:Scope):List Str:=(scope.names.filter λ p=>decide (p.2=.local)).map (·.1)
noncomputable def Jd(scope:Scope):List Str:=(scope.names.filter λ p=>decide (p.2=.free)).map (·.1)
noncomputable def Yh(scope:Scope):List Str:=ownN scope++Jd scope
noncomputable def Y9(N:List Str)(nm:List (Str×NameKind))(scope:Scope):Bool:=
 decide (scope.kind=.function)&&scope.names.all (λ p=>decide (p.2≠.cell)&&decide (scope.names.lookup p.1=some p.2))&&decide (Yh scope).Nodup &&
  (Jd scope).all (λ y=>(decide (nm.lookup y=some .cell)||decide (nm.lookup y=some .free))&&(slot y N).isSome)
noncomputable def asL(b:Bool)(l:Lx):Ex:=if b then .lr l else .lv l
noncomputable def isOp(op:CmpOp):Bool:=decide (op=.Is)||decide (op=.IsNot)
open PySem PySem.Spec PyProof.Rows L2
inductive Nx(K:Frag)(mu:List Addr)(H H1:Hp)(S:Sto)(R:List Addr->Prop):Prop
 |mk (mu1:List Addr) (e:Ext mu H mu1 H1) (w:WR K mu1 H1 S) (r:R mu1)
inductive Ny(K:Frag)(mu:List Addr)(H H1:Hp)(S:Sto):Prop
 |mk (mu1:List Addr) (e:Ext mu H mu1 H1) (w:WR K mu1 H1 S)
inductive tE(K:Frag)(f:En->Sto->Option (D×Sto))(σ:St)(H:Hp)(Q:VK):Prop
 |mk (mu:List Addr) (env:En) (S:Sto) (he:ER K mu H env σ) (hw:WR K mu H S) (d:D) (S':Sto) (hf:f env S=some (d,S')) (k:∀ v mu' H',Ext mu H mu' H'->WR K mu' H' S'->RD K mu' H' d v->Q v H')
inductive tT(K:Frag)(f:En->Sto->Option (Bool×Sto))(σ:St)(H:Hp)(Q:Bool->Hp->Prop):Prop
 |mk (mu:List Addr) (env:En) (S:Sto) (he:ER K mu H env σ) (hw:WR K mu H S) (b:Bool) (S':Sto) (hf:f env S=some (b,S')) (k:∀ mu' H',Ext mu H mu' H'->WR K mu' H' S'->Q b H')
inductive tA(K:Frag)(f:En->Sto->Option (List D×Sto))(σ:St)(H:Hp)(Q:List V->Hp->Prop):Prop
 |mk (mu:List Addr) (env:En) (S:Sto) (he:ER K mu H env σ) (hw:WR K mu H S) (ds:List D) (S':Sto) (hf:f env S=some (ds,S')) (k:∀ vs mu' H',Ext mu H mu' H'->WR K mu' H' S'->RDs K mu' H' ds vs->Q vs H')
inductive tO(K:Frag)(f:En->Sto->Option (Option Int×Sto))(σ:St)(H:Hp)(Q:Option Int->Hp->Prop):Prop
 |mk (mu:List Addr) (env:En) (S:Sto) (he:ER K mu H env σ) (hw:WR K mu H S) (o:Option Int) (S':Sto) (hf:f env S=some (o,S')) (k:∀ mu' H',Ext mu H mu' H'->WR K mu' H' S'->Q o H')
inductive tN(K:Frag)(f:En->Sto->Option (List D×Sto))(σ:St)(H:Hp)(Q:VK):Prop
 |mk (mu:List Addr) (env:En) (S:Sto) (he:ER K mu H env σ) (hw:WR K mu H S) (ds:List D) (S':Sto) (hf:f env S=some (ds,S')) (k:∀ vs p mu' H',Ext mu H mu' H'->WR K mu' H' S'->H' p=none->RDs K mu' H' ds vs->Q (.ref p) (upd H' p (.lst vs)))
noncomputable def spOf(K:Frag)(T:Tab)(W k:Nat)(f:Str):Sp:=λ vs H Q _=>∃ mu S ds,WR K mu H S/\RDs K mu H ds vs/\(∃ fi,T.lookup f=some fi/\ds.length=fi.ps)/\∃ d S',(Za T W k).fn f ds S=some (d,S') /\
 ∀ v mu' H',Ext mu H mu' H'->WR K mu' H' S'->RD K mu' H' d v->Q v H'
noncomputable def spM(K:Frag)(T:Tab)(W k:Nat)(f:Str):Sp:=λ vs H Q _=>∃ mu S ds,WR K mu H S/\RDs K mu H ds vs/\(∃ fi,T.mts.lookup f=some fi/\ds.length=fi.ps)/\∃ d S',(Za T W k).mt f ds S=some (d,S') /\
 ∀ v mu' H',Ext mu H mu' H'->WR K mu' H' S'->RD K mu' H' d v->Q v H'
def MsF(P:Program)(w:World)(K:Frag)(mg:Str->Option Value)(base:Heap)(T:Tab)(W k:Nat):Prop:=∀ (C m:Str) (fi:FI),m≠"__init__"->T.mts.lookup (ZC C m)=some fi ->
 ∃ (Ca fa:Addr) (fd:FuncData) (ps:List Str),ps.length=fi.ps/\PySem.W.nsIn K mainGlobals C=some (some (.ref Ca))/\Cls K Ca/\Meth K Ca m fa/\Binds K fd ps []/\FnOk P w K mg base CX0 k fa fd ps (spM K T W k (ZC C m))
def MkF(P:Program)(w:World)(K:Frag)(mg:Str->Option Value)(base:Heap)(T:Tab)(W j:Nat):Prop:=∀ (C:Str) (fi:FI),T.mts.lookup (ZC C "__init__")=some fi ->
 ∃ (Ca fa:Addr) (fd:FuncData) (ps:List Str),ps.length=fi.ps/\PySem.W.nsIn K mainGlobals C=some (some (.ref Ca))/\mg C=some (.ref Ca)/\Mk K Ca fa/\Binds K fd ps []/\FnOk P w K mg base CX0 j fa fd ps (spM K T W j (ZC C "__init__"))
def GdF(K:Frag)(w:World)(mg:Str->Option Value)(x:Str)(kvs:List (Str×Int)):Prop:=
 ∃ (a:Addr) (es:Array DictEntry) (n:Nat),mg x=some (.ref a)/\K.lookup a=some ⟨.type "dict",none,.dict es n,#[]⟩/\PySem.W.KeysLit w.params es.toList/\(a==sysModules)=false /\
  ∀ y,∃ r,PySem.W.nsIn K a y=some r/\(match kvs.lookup y with
   |some i=>∃ t,r=some (.int i t)
   |none=>r=none)
def FdF(T:Tab)(K:Frag):Prop:=∀ (C x:Str) (Ca:Addr),T.fds.contains (C,x)=true->PySem.W.nsIn K mainGlobals C=some (some (.ref Ca))->Cls K Ca/\ZaN K Ca x
structure XOk(X:Cx)(T:Tab)(W k:Nat)(nm:List (Str×NameKind)):Prop where
 calm:X.calm=true
 room:Room k X.A
 nd:X.N.Nodup
 po:PassesOwn (model X.prog X.w) X.A X.env X.xe
 kv:∀ x,(nm.lookup x=some .local\/nm.lookup x=some .cell\/nm.lookup x=some .free)->Vis X.env.scope x
 kw:∀ x,Vn nm x=true->Loc X.env.scope x/\(X.fn x=true\/X.env.scope.names.lookup x=some .local)
 kg:∀ x,nm.lookup x=some .globalImplicit->X.env.scope.names.lookup x=some .globalImplicit
 kl:∀ x,nm.lookup x=some .local->X.env.scope.names.lookup x=some .local
 kc:∀ x,(nm.lookup x=some .cell\/nm.lookup x=some .free)->X.env.kindOf x=some .cell
 bl:∀ f∈blts,X.mg f=none
 fs:∀ f fi,T.lookup f=some fi->∃ (fa:Addr) (fd:FuncData) (ps:List Str),ps.length=fi.ps/\X.mg f=some (.ref fa)/\PySem.W.keepIn X.K (.ref fa)=true/\Binds X.K fd ps [] /\
  FnOk X.prog X.w X.K X.mg X.base CX0 k fa fd ps (spOf X.K T W k f)
 gs:∀ x d,T.gls.lookup x=some d->∃ u v,X.mg x=some u/\RelV v u/\∀ mu H,RD X.K mu H d v
 gd:∀ x kvs,T.gds.lookup x=some kvs->GdF X.K X.w X.mg x kvs
 cf:FdF T X.K
 ms:MsF X.prog X.w X.K X.mg X.base T W k
 mk':∀ j,k=j+1->MkF X.prog X.w X.K X.mg X.base T W j
section
variable {X:Cx}{pj:zPn}{σ:St}{H:Hp}{s:Shared}{mu:List Addr}{S:Sto}
theorem RD.tup_at{K:Frag}{ds:List D}{v:V}(h:RD K mu H (.tup ds) v):∃ a xs,v=.ref a/\SqT K H a xs/\RDs K mu H ds xs:=by
 dsimp only[RD] at h;obtain⟨a,xs,e,h,r⟩:=h;refine⟨a,xs,e,?_,r⟩
 rcases h with ⟨_,h⟩ | h
 ·exact .inl<|.inl h
 ·exact .inr h.1
theorem RD.tup3_at{K:Frag}{ds:List D}{v:V}(h:RD K mu H (.tup ds) v)(h3:ds.length=3):∃ a xs,v=.ref a/\a∉mu/\H a=some (.tup xs)/\RDs K mu H ds xs:=by
 dsimp only[RD] at h;obtain⟨a,xs,e,h,r⟩:=h
 rcases h with ⟨n,h⟩ | h
 ·exact⟨a,xs,e,n,h,r⟩
 ·exact absurd h3 h.2
theorem RD.lst_at{K:Frag}{ds:List D}{v:V}(h:RD K mu H (.lst ds) v):∃ a xs,v=.ref a/\SqL K H a xs/\RDs K mu H ds xs:=by
 dsimp only[RD] at h;obtain⟨a,xs,e,h,r⟩:=h;refine⟨a,xs,e,?_,r⟩
 rcases h with ⟨_,h⟩ | h
 ·exact .inl h
 ·exact .inr h
theorem YH{K:Frag}{d:D}{ds:List D}{v:V}(w:WR K mu H S)(h:items S d=some ds)(r:RD K mu H d v):∃ a xs,v=.ref a/\(SqL K H a xs\/SqT K H a xs)/\RDs K mu H ds xs:=by
 cases d with
 | tup es=>
  cases h
  obtain⟨a,xs,e,h,r⟩:=r.tup_at;exact⟨a,xs,e,.inr h,r⟩
 | lst es=>
  cases h
  obtain⟨a,xs,e,h,r⟩:=r.lst_at;exact⟨a,xs,e,.inl h,r⟩
 | ref n=>
  rw[items] at h;dsimp only[RD] at r;obtain⟨a,e,rfl⟩:=r;cases q:S[n]? with
  |none=>rw[q] at h;cases h
  | some o=>
   rw[q] at h;cases o with
   |dk es=>cases h
   |dt es=>cases h
   |ins _ _=>cases h
   |dtf _=>cases h
   | lst es=>
    cases h
    obtain⟨b,e1,xs,e2,r⟩:=w.get q;rw[e] at e1;cases e1
    exact⟨a,xs,rfl,.inl<|SqL.of e2,r⟩
 |_=>cases h
theorem int_at{K:Frag}{i:Int}{v:V}(r:RD K mu H (.int i) v):v=.int i:=by dsimp only[RD] at r;exact r
theorem YS{K:Frag}{i:Bool}{v:V}(r:RD K mu H (.bl i) v):v=.bl i:=by dsimp only[RD] at r;exact r
theorem ZM{K:Frag}{i:Str}{v:V}(r:RD K mu H (.str i) v):v=.str i:=by dsimp only[RD] at r;exact r
theorem Ug{K:Frag}{v:V}(r:RD K mu H .non v):v=.non:=by dsimp only[RD] at r;exact r
theorem Zs{K:Frag}{i:Int}:RD K mu H (.int i) (.int i):=by dsimp only[RD]
theorem YT{K:Frag}{i:Bool}:RD K mu H (.bl i) (.bl i):=by dsimp only[RD]
theorem Vo{K:Frag}{i:Str}:RD K mu H (.str i) (.str i):=by dsimp only[RD]
theorem qg{K:Frag}:RD K mu H .non .non:=by dsimp only[RD]
theorem ZF:sizeLine=line:=sizeLine_eq
theorem intBits_le(h:k.natAbs<2 ^ n):Builtin.Int.intBits k<=n:=by
 unfold Builtin.Int.intBits;split
 ·exact zero_le _
 ·rename_i hk;have h0:k.natAbs≠0:=by
   intro e;have:k=0:=Int.natAbs_eq_zero.1 e;exact hk (by simpa using this)
  have:k.natAbs.log2<n:=(Nat.log2_lt h0).mpr h;lia
theorem MulOk.ok(h:MulOk i j):IntMulOk i j:=by
 rcases h with ⟨h1,h2⟩ | ⟨h1,h2⟩ | ⟨h1,h2⟩
 ·exact .of_left<|intBits_le_64 h1 h2
 ·exact .of_right<|intBits_le_64 h1 h2
 ·have a:=intBits_le h1;have b:=intBits_le h2;exact .of_bits (oAq a<|by decide)<|oAq b (by decide)
def OpS(X:Cx)(f:Value->Value->Sem Value)(g:Sto->D->D->Option D):Prop:=
 ∀ (pj:zPn) (s:Shared) (σ:St) (H:Hp) (mu:List Addr) (S:Sto) (x y:V) (v u:Value) (da db d:D) (Q:VK),Inv X pj σ H s->WR X.K mu H S->RelV x v->RelV y u->RD X.K mu H da x->RD X.K mu H db y->g S da db=some d ->
  (∀ v' mu' H',Ext mu H mu' H'->WR X.K mu' H' S->RD X.K mu' H' d v'->Q v' H')->wpAny (model X.prog X.w) X.A (f v u) (EP X pj σ Q) X.xe s
theorem Zcm:OpR X (binaryOp .FloorDiv) (rI (λ _ j=>0<j/\j<bigJ) λ i j=>.int (i / j)):=opI λ i j _ _ _ _ _ hc q=>by
 have h1:(0:Int)<j:=hc.1;have h2:j<bigJ:=hc.2;refine floordiv_int (by omega) (by rw[Int.fdiv_eq_ediv_of_nonneg i (by omega)];exact q)<|.inl<|PyProof.noPylong_of_log2 ?_
 have h0:j.natAbs≠0:=by omega
 suffices z:j.natAbs<2 ^ 4000 from oAo ((Nat.log2_lt h0).mpr z) (by decide)
 have h3:((j.natAbs:Nat):Int)<((2 ^ 4000:Nat):Int):=by
  have e:((j.natAbs:Nat):Int)=j:=by omega
  rw[e];have e2:((2 ^ 4000:Nat):Int)=bigJ:=by rfl
  rw[e2];exact h2
 exact Int.ofNat_lt.1 h3
theorem ZZ{K:Frag}{d:D}{ds:List D}{v:V}(w:WR K mu H S)(h:lsOf S d=some ds)(r:RD K mu H d v):∃ a xs,v=.ref a/\SqL K H a xs/\RDs K mu H ds xs:=by
 cases d with
 | lst es=>
  cases h
  obtain⟨a,xs,e,h,r⟩:=r.lst_at;exact⟨a,xs,e,h,r⟩
 | ref n=>
  replace h:items S (.ref n)=some ds:=h;rw[items] at h;dsimp only[RD] at r;obtain⟨a,e,rfl⟩:=r;cases q:S[n]? with
  |none=>rw[q] at h;cases h
  | some o=>
   rw[q] at h;cases o with
   |dk es=>cases h
   |dt es=>cases h
   |ins _ _=>cases h
   |dtf _=>cases h
   | lst es=>
    cases h
    obtain⟨b,e1,xs,e2,r⟩:=w.get q;rw[e] at e1;cases e1
    exact⟨a,xs,rfl,SqL.of e2,r⟩
 |_=>cases h
theorem RDs.rep{K:Frag}{ds:List D}{xs:List V}(h:RDs K mu H ds xs):∀ k:Nat,RDs K mu H (List.replicate k ds).flatten (List.replicate k xs).flatten
 |0=>by simp;exact .nil
 | k+1=>by
  rw[replicate_succ,replicate_succ,flatten_cons,flatten_cons];exact h.append<|RDs.rep h k
def OpN(X:Cx)(f:Value->Value->Sem Value)(g:Sto->D->D->Option (List D)):Prop:=
 ∀ (pj:zPn) (s:Shared) (σ:St) (H:Hp) (mu:List Addr) (S:Sto) (x y:V) (v u:Value) (da db:D) (ds:List D) (Q:VK),Inv X pj σ H s->WR X.K mu H S->RelV x v->RelV y u->RD X.K mu H da x->RD X.K mu H db y->g S da db=some ds ->
  (∀ vs p,H p=none->RDs X.K mu H ds vs->Q (.ref p) (upd H p (.lst vs)))->wpAny (model X.prog X.w) X.A (f v u) (EP X pj σ Q) X.xe s
theorem Zcn(I:Inv X pj σ H s)(hl:SqL X.K H l xs)(hb:SqL X.K H b ys)(hz:xs.length+ys.length<=sizeLine)(q:∀ p,H p=none->Q (.ref p) (upd H p (.lst (xs++ys)))) :
  wpAny (model X.prog X.w) X.A (binaryOp .Add (.ref l) (.ref b)) (EP X pj σ Q) X.xe s:=by
 obtain⟨i1,r1,⟨⟨c1,d1,t1,s1⟩,n1,e1,a1,_,b1⟩,_⟩:=I.list hl;obtain⟨i2,r2,⟨⟨c2,d2,t2,s2⟩,n2,e2,a2,_,b2⟩,_⟩:=I.list hb;cases a1;cases b1;cases a2;cases b2
 refine concat_meets ⟨_,e1,rfl⟩ ⟨_,e2,rfl⟩ noFill_list_add seq_list_add PySem.F.slot_list_add PySem.F.entry_list_add (PySem.F.args_list_add_2 _ _)
  (list_addW l b i1.toArray i2.toArray n1 n2 d1 d2 s1 s2<|by rw[size_toArray,size_toArray,<-r1.length,<-r2.length];exact hz) ⟨e1,e2,?_⟩
 have ea:i1.toArray++i2.toArray=(i1++i2).toArray:=by simp
 rw[ea];exact⟨.ref _,_,I.lnew (t':=s.toks) (r1.append r2) (by rw[length_append];exact hz),rfl,q _ I.fresh⟩
theorem Zco(I:Inv X pj σ H s)(hl:SqL X.K H l xs)(h1:-(2 ^ 62)<k)(h2:k<2 ^ 62)(hz:xs.length * k.toNat<=sizeLine)(q:∀ p,H p=none->Q (.ref p) (upd H p (.lst (List.replicate k.toNat xs).flatten))) :
  wpAny (model X.prog X.w) X.A (binaryOp .Mult (.ref l) (.int k t)) (EP X pj σ Q) X.xe s:=by
 obtain⟨i1,r1,⟨⟨c1,d1,t1,s1⟩,n1,e1,a1,_,b1⟩,_⟩:=I.list hl;cases a1;cases b1
 have hsz:i1.toArray.size * k.toNat<=sizeLine:=by rw[size_toArray,<-r1.length];exact hz
 have hsl:sizeLine=16777216:=ZF;have hsz2:i1.length * k.toNat<=sizeLine:=by rw[<- r1.length];exact hz
 refine wpAny_binaryOp_repeat_ref (T:="list") (U:="int") (by decide) ⟨_,e1,rfl⟩ (λ s'=>typeIs_int s' k t) noFill_list_mul PySem.F.fills_int_mul PySem.F.slot_int_rmul repeat_list PySem.F.slot_int_index.lookup
  (call_meets PySem.F.slot_int_rmul (typeIs_int s k t) PySem.F.entry_int_rmul (PySem.F.args_int_rmul_2 _ _) (lm_int_rmul_list_any k t l i1.toArray n1 d1 s1)
   ⟨e1,rfl,⟨_,e1,rfl⟩,call_meets PySem.F.slot_list_mul ⟨_,e1,rfl⟩ PySem.F.entry_list_mul (PySem.F.args_list_mul_2 _ _)
    (lm_list_mul_any l i1.toArray n1 d1 s1 k t (by simp[Builtin.List.listFitsIndex];lia) (by lia)<|by simp[Builtin.List.listTooLong,sizeLine];lia) ⟨e1,?_⟩⟩)
 rw[listMul_foldl_if];exact⟨.ref _,_,I.lnew (t':=s.toks) (ys:=(List.replicate k.toNat xs).flatten) (its:=(List.replicate k.toNat i1).flatten) (by simpa using r1.rep k.toNat) (by rw[len_rep,Nat.mul_comm];exact hz),rfl,q _ I.fresh⟩
theorem Zbd(op:Operator):OpN X (binaryOp op) (λ S=>JN S op):=by
 intro pj s σ H mu S x y v u da db ds Q I w rx ry ra rb h k;have hsl:=ZF;cases op with
 | Add=>
  replace h:((lsOf S da).bind λ xs=>(lsOf S db).bind λ ys=>if xs.length+ys.length<=line then some (xs++ys) else none)=some ds:=h;obtain⟨xs,h1,h⟩:=bO h;obtain⟨ys,h2,h⟩:=bO h;split at h
  ·rename_i hz;cases h
   obtain⟨a,vs,rfl,q1,r1⟩:=ZZ w h1 ra;obtain⟨b,us,rfl,q2,r2⟩:=ZZ w h2 rb;cases rx;cases ry
   exact Zcn I q1 q2 (by rw[hsl,<-r1.length,<-r2.length];exact hz) λ p hp=>k _ p hp<|r1.append r2
  ·cases h
 | Mult=>
  cases db with
  | int j=>
   replace h:((lsOf S da).bind λ xs=>if j<2 ^ 62/\-(2 ^ 62)<j/\xs.length * j.toNat<=line then some (List.replicate j.toNat xs).flatten else none)=some ds:=h;obtain⟨xs,h1,h⟩:=bO h;split at h
   ·rename_i hz;cases h
    obtain⟨a,vs,rfl,q1,r1⟩:=ZZ w h1 ra;cases rx
    cases int_at rb
    obtain⟨t,rfl⟩:=ry;exact Zco I q1 hz.2.1 hz.1 (by rw[hsl,<-r1.length];exact hz.2.2) λ p hp=>k _ p hp<|r1.rep _
   ·cases h
  |_=>cases da<;>cases h
 |_=>cases h
theorem RDs.cases_of_nil{K:Frag}{ds:List D}(h:RDs K mu H ds []):ds=[]:=by
 have:=h.length;cases ds with
 |nil=>rfl
 |cons _ _=>simp at this
theorem Zcp{xs ys:List D}{x y:V}{v u:Value}{Q:VK}(I:Inv X pj σ H s)(w:WR X.K mu H S)(rx:RelV x v)(ry:RelV y u)(ra:RD X.K mu H (.tup xs) x)(rb:RD X.K mu H (.tup ys) y)(hz:xs.length+ys.length<=line)
  (k:∀ v' mu' H',Ext mu H mu' H'->WR X.K mu' H' S->RD X.K mu' H' (.tup (xs++ys)) v'->Q v' H'):wpAny (model X.prog X.w) X.A (binaryOp .Add v u) (EP X pj σ Q) X.xe s:=by
 obtain⟨a,vs,rfl,q1,r1⟩:=ra.tup_at;obtain⟨b,us,rfl,q2,r2⟩:=rb.tup_at;have hsl:=ZF;by_cases hx:vs=[]
 ·subst hx;cases r1.cases_of_nil
  cases rx;cases ry
  obtain⟨i1,v1,⟨⟨c1,d1,t1,s1⟩,e1,a1,n1,b1⟩,_⟩:=I.tuple q1;obtain⟨i2,v2,⟨⟨c2,d2,t2,s2⟩,e2,a2,n2,b2⟩,_⟩:=I.tuple q2;cases v1
  cases a1;cases b1;cases a2;cases b2
  exact concat_meets ⟨_,e1,rfl⟩ ⟨_,e2,rfl⟩ noFill_tuple_add seq_tuple_add PySem.F.slot_tuple_add PySem.F.entry_tuple_add (PySem.F.args_tuple_add_2 _ _)
   (tuple_addW0 a b _ _ n1 n2 d1 d2 s1 s2<|by simp) ⟨e1,e2,⟨.ref b,H,I,rfl,k _ mu H .refl w rb⟩⟩
 ·refine Zdt pj s σ H _ _ v u Q I rx ry ⟨a,b,vs,us,rfl,rfl,q1,q2,hx,by rw[hsl,<-r1.length,<-r2.length];exact hz,λ hy=>?_,λ hy p hp=>?_⟩
  ·subst hy;cases r2.cases_of_nil
   rw[append_nil] at k;exact k _ mu H .refl w ra
  ·refine k _ mu _ (Ext.new w hp) (w.keep hp) ?_;dsimp only[RD];exact⟨p,_,rfl,.inl ⟨w.fresh hp,Zo⟩,RDs.mono (Ext.new w hp) _ _<|r1.append r2⟩
theorem JX.ok(h:JX i j):0<=j/\(Builtin.Int.intBits i:Int) * j<=2 ^ 27:=by
 obtain⟨h0,⟨h1,h2⟩ | ⟨h1,h2⟩⟩:=h
 ·refine⟨h0,?_⟩;have b:=intBits_le h2;have:(Builtin.Int.intBits i:Int) * j<=64 * 1000000:=Int.mul_le_mul (by lia) h1 h0 (by decide);lia
 ·refine⟨h0,?_⟩;have b:=intBits_le h2;have:(Builtin.Int.intBits i:Int) * j<=1000 * 100000:=Int.mul_le_mul (by lia) h1 h0 (by decide);lia
theorem Zcq(op:Operator):OpS X (binaryOp op) (λ S=>binop S op):=by
 intro pj s σ H mu S x y v u da db d Q I w rx ry ra rb h k;have lst:∀ ds,JN S op da db=some ds->d=.lst ds->wpAny (model X.prog X.w) X.A (binaryOp op v u) (EP X pj σ Q) X.xe s:=λ ds hb e=>by
  refine Zbd op pj s σ H mu S x y v u da db ds Q I w rx ry ra rb hb λ vs p hp rs=>k _ mu _ (Ext.new w hp) (w.keep hp) ?_;rw[e];dsimp only[RD]
  exact⟨p,vs,rfl,.inl ⟨w.fresh hp,.inl Zo⟩,RDs.mono (Ext.new w hp) _ _ rs⟩
 by_cases hl:isLs da=true
 ·have h':(JN S op da db).map D.lst=some d:=by
   cases da<;>first | (exact absurd hl oAg) | exact h
  obtain⟨ds,h1,h2⟩:=bM h';exact lst ds h1 h2.symm
 cases da with
 |lst _=>exact absurd rfl hl
 |ref _=>exact absurd rfl hl
 |non=>cases h
 |bl _=>cases h
 | tup xs=>
  cases db with
  | tup ys=>
   cases op with
   | Add=>
    replace h:(if xs.length+ys.length<=line then some (D.tup<|xs++ys) else none)=some d:=h;split at h
    ·rename_i hz;cases h
     exact Zcp I w rx ry ra rb hz k
    ·cases h
   |_=>cases h
  |_=>cases h
 | str i=>
  cases db with
  | str j=>
   cases op with
   | Add=>
    replace h:(if i.length+j.length<=line then some (D.str<|i++j) else none)=some d:=h;split at h
    ·rename_i hz;cases h;cases ZM ra;cases ZM rb
     exact z3 pj s σ H _ _ v u Q I rx ry ⟨i,j,rfl,rfl,by rw[ZF];exact hz,k _ mu H .refl w Vo⟩
    ·cases h
   |_=>cases h
  |_=>cases h
 | int i=>
  cases db with
  | int j=>
   cases int_at ra;cases int_at rb
   cases op with
   |Add=>cases h;exact ZeO pj s σ H _ _ v u Q I rx ry ⟨i,j,rfl,rfl,k _ mu H .refl w Zs⟩
   |Sub=>cases h;exact ZeP pj s σ H _ _ v u Q I rx ry ⟨i,j,rfl,rfl,k _ mu H .refl w Zs⟩
   |BitAnd=>cases h;exact ZeT pj s σ H _ _ v u Q I rx ry ⟨i,j,rfl,rfl,k _ mu H .refl w Zs⟩
   | Mult=>
    replace h:(if MulOk i j then some (D.int<|i * j) else none)=some d:=h;split at h
    ·rename_i hz;cases h
     obtain⟨t,rfl⟩:=rx;obtain⟨t',rfl⟩:=ry;exact mul_int ⟨.int _,H,I.tok _,⟨_,rfl⟩,k _ mu H .refl w Zs⟩ hz.ok
    ·cases h
   | Mod=>
    replace h:(if 0<j then some (D.int<|i % j) else none)=some d:=h;split at h
    ·rename_i hz;cases h
     exact ZeQ pj s σ H _ _ v u Q I rx ry ⟨i,j,rfl,rfl,hz,k _ mu H .refl w Zs⟩
    ·cases h
   | Pow=>
    replace h:(if JX i j then some (D.int<|i ^ j.toNat) else none)=some d:=h;split at h
    ·rename_i hz;cases h
     obtain⟨t,rfl⟩:=rx;obtain⟨t',rfl⟩:=ry;exact PyProof.Rows.pow_int hz.ok.1 hz.ok.2 ⟨.int _,H,I.tok _,⟨_,rfl⟩,k _ mu H .refl w Zs⟩
    ·cases h
   | LShift=>
    replace h:(if 0<=j/\j<=1000000/\i.natAbs<2 ^ 64 then some (D.int<|i * 2 ^ j.toNat) else none)=some d:=h;split at h
    ·rename_i hz;cases h
     exact ZeR pj s σ H _ _ v u Q I rx ry ⟨i,j,rfl,rfl,hz,k _ mu H .refl w Zs⟩
    ·cases h
   | RShift=>
    replace h:(if 0<=j then some (D.int<|i / 2 ^ j.toNat) else none)=some d:=h;split at h
    ·rename_i hz;cases h
     exact ZeS pj s σ H _ _ v u Q I rx ry ⟨i,j,rfl,rfl,hz,k _ mu H .refl w Zs⟩
    ·cases h
   | FloorDiv=>
    replace h:(if 0<j/\j<bigJ then some (D.int<|i / j) else none)=some d:=h;split at h
    ·rename_i hz;cases h
     exact Zcm pj s σ H _ _ v u Q I rx ry ⟨i,j,rfl,rfl,hz,k _ mu H .refl w Zs⟩
    ·cases h
   |_=>cases h
  |_=>cases h
theorem ZdL{K:Frag}{a b:D}{x y:V}(h:Vm a b=true)(ra:RD K mu H a x)(rb:RD K mu H b y):scal x y=true/\decide (x=y)=decide (a=b):=by
 cases a<;>cases b<;>first
  |(exact absurd h (show ¬ (false=true) from oAg))
  |(dsimp only[RD] at ra;dsimp only[RD] at rb;subst ra;subst rb;exact⟨rfl,by simp⟩)
theorem Ux{op:CmpOp}{p:Int->Int->Bool}(rule:∀ (i j:Int) (t u:Tok) (Q:zVP) (s:Shared),Q (.bool (p i j)) s->wpAny (model X.prog X.w) X.A (compareOp op (.int i t) (.int j u)) Q X.xe s)
  {i j:Int}{x y:V}{v u:Value}{Q:VK}(I:Inv X pj σ H s)(w:WR X.K mu H S)(rx:RelV x v)(ry:RelV y u)(ra:RD X.K mu H (.int i) x)(rb:RD X.K mu H (.int j) y)(k:Q (.bl (p i j)) H) :
  wpAny (model X.prog X.w) X.A (compareOp op v u) (EP X pj σ Q) X.xe s:=by
 cases int_at ra;cases int_at rb
 obtain⟨t,rfl⟩:=rx;obtain⟨t',rfl⟩:=ry;exact rule i j t t' _ _ ⟨.bl _,H,I,rfl,k⟩
mutual
theorem Js(I:Inv X pj σ H s):∀ (d:D) (x:V) (u:Value),RD X.K mu H d x->RelV x u->YQ d=true->∃ as,Reads s.heap u (toP d) as
 | .non,x,u,r,rx,_=>by
  cases Ug r;cases rx;exact⟨_,.none⟩
 | .bl b,x,u,r,rx,_=>by
  cases YS r;cases rx;exact⟨_,.bool b⟩
 | .int i,x,u,r,rx,_=>by
  cases int_at r;obtain⟨t,rfl⟩:=rx;exact⟨_,.int i t⟩
 | .str y,x,u,r,rx,_=>by
  cases ZM r;obtain⟨t,rfl⟩:=rx;exact⟨_,.str y t⟩
 | .tup ds,x,u,r,rx,hp=>by
  obtain⟨a,xs,rfl,hq,rs⟩:=r.tup_at;cases rx
  obtain⟨its,rv,⟨o,h1,h2,n,h3⟩,_⟩:=I.tuple hq;obtain⟨as,ra⟩:=Uh I ds xs its rs rv (by rw[YQ] at hp;exact hp)
  exact⟨as,.tuple h1 h2 h3<|by simpa using ra⟩
 | .lst ds,x,u,r,rx,hp=>by
  obtain⟨a,xs,rfl,hq,rs⟩:=r.lst_at;cases rx
  obtain⟨its,rv,⟨o,n,h1,h2,_,h3⟩,_⟩:=I.list hq;obtain⟨as,ra⟩:=Uh I ds xs its rs rv (by rw[YQ] at hp;exact hp)
  exact⟨_,.list h1 h2 h3<|by simpa using ra⟩
 |.ref n,x,u,r,rx,hp=>by rw[YQ] at hp;cases hp
theorem Uh(I:Inv X pj σ H s):∀ (ds:List D) (xs:List V) (us:List Value),RDs X.K mu H ds xs->Vals xs us->Yn ds=true->∃ as,ReadsAll s.heap us (toPs ds) as
 | [],xs,us,r,rv,_=>by
  cases r.cases_nil;cases rv;exact⟨_,.nil⟩
 | d::ds,xs,us,r,rv,hp=>by
  obtain⟨x,xr,rfl,rd,rs⟩:=r.cases_cons;rw[Yn,and_eq_true] at hp;cases rv with
  | cons r1 r2=>
   obtain⟨as,h1⟩:=Js I d x _ rd r1 hp.1;obtain⟨bs,h2⟩:=Uh I ds xr _ rs r2 hp.2;exact⟨_,.cons h1 h2⟩
end
theorem ZN(h:okD d=true):YQ d=true/\(toP d).canLay0=true/\(toP d).depth<=100:=by
 unfold okD at h;rw[and_eq_true,and_eq_true] at h;exact⟨h.1.1,h.1.2,oAj h.2⟩
mutual
theorem Ui(I:Inv X pj σ H s)(w:WR X.K mu H S):∀ (n:Nat) (d d':D) (x:V) (u:Value),RD X.K mu H d x->RelV x u->fixD S n d=some d'->∃ as,Reads s.heap u (toP d') as
 |0,_,_,_,_,_,_,h=>by rw[fixD.eq_def] at h;cases h
 | n+1,.non,d',x,u,r,rx,h=>by
  rw[fixD.eq_def] at h;dsimp only at h;cases h
  cases Ug r;cases rx;exact⟨_,.none⟩
 | n+1,.bl b,d',x,u,r,rx,h=>by
  rw[fixD.eq_def] at h;dsimp only at h;cases h
  cases YS r;cases rx;exact⟨_,.bool b⟩
 | n+1,.int i,d',x,u,r,rx,h=>by
  rw[fixD.eq_def] at h;dsimp only at h;cases h
  cases int_at r;obtain⟨t,rfl⟩:=rx;exact⟨_,.int i t⟩
 | n+1,.str y,d',x,u,r,rx,h=>by
  rw[fixD.eq_def] at h;dsimp only at h;cases h
  cases ZM r;obtain⟨t,rfl⟩:=rx;exact⟨_,.str y t⟩
 | n+1,.tup ds,d',x,u,r,rx,h=>by
  rw[fixD.eq_def] at h;dsimp only at h
  obtain⟨es,h1,rfl⟩:=bM h;obtain⟨a,xs,rfl,hq,rs⟩:=r.tup_at;cases rx
  obtain⟨its,rv,⟨o,h1',h2,m,h3⟩,_⟩:=I.tuple hq;obtain⟨as,ra⟩:=Je I w n ds es xs its rs rv h1;exact⟨as,.tuple h1' h2 h3<|by simpa using ra⟩
 | n+1,.lst ds,d',x,u,r,rx,h=>by
  rw[fixD.eq_def] at h;dsimp only at h
  obtain⟨es,h1,rfl⟩:=bM h;obtain⟨a,xs,rfl,hq,rs⟩:=r.lst_at;cases rx
  obtain⟨its,rv,⟨o,m,h1',h2,_,h3⟩,_⟩:=I.list hq;obtain⟨as,ra⟩:=Je I w n ds es xs its rs rv h1;exact⟨_,.list h1' h2 h3<|by simpa using ra⟩
 | n+1,.ref k,d',x,u,r,rx,h=>by
  rw[fixD.eq_def] at h;dsimp only at h
  obtain⟨ds,h0,h⟩:=bO h;obtain⟨es,h1,rfl⟩:=bM h;obtain⟨a,xs,rfl,hq,rs⟩:=ZZ (d:=.ref k) w h0 r;cases rx
  obtain⟨its,rv,⟨o,m,h1',h2,_,h3⟩,_⟩:=I.list hq;obtain⟨as,ra⟩:=Je I w n ds es xs its rs rv h1;exact⟨_,.list h1' h2 h3<|by simpa using ra⟩
theorem Je(I:Inv X pj σ H s)(w:WR X.K mu H S):∀ (n:Nat) (ds es:List D) (xs:List V) (us:List Value),RDs X.K mu H ds xs->Vals xs us->JC S n ds=some es->∃ as,ReadsAll s.heap us (toPs es) as
 |0,_,_,_,_,_,_,h=>by rw[JC.eq_def] at h;cases h
 | n+1,[],es,xs,us,r,rv,h=>by
  rw[JC.eq_def] at h;dsimp only at h;cases h
  cases r.cases_nil;cases rv;exact⟨_,.nil⟩
 | n+1,d::ds,es,xs,us,r,rv,h=>by
  rw[JC.eq_def] at h;dsimp only at h
  obtain⟨e,h1,h⟩:=bO h;obtain⟨es',h2,rfl⟩:=bM h;obtain⟨x,xr,rfl,rd,rs⟩:=r.cases_cons;cases rv with
  | cons r1 r2=>
   obtain⟨as,h3⟩:=Ui I w n d e x _ rd r1 h1;obtain⟨bs,h4⟩:=Je I w n ds es' xr _ rs r2 h2;exact⟨_,.cons h3 h4⟩
end
theorem zE{K:Frag}{d d2:D}{x x2:V}(f:Uw d=true)(f2:Uw d2=true)(r:RD K mu H d x)(r2:RD K mu H d2 x2):YM x=true/\eqV x x2=eqF d d2:=by
 cases d<;>first | (exact absurd f oAg) | (cases d2<;>first | (exact absurd f2 oAg) | (dsimp only[RD] at r;dsimp only[RD] at r2;subst r;subst r2;exact⟨rfl,rfl⟩))
theorem qh{K:Frag}{d:D}{x:V}(f:Uw d=true)(r:RD K mu H d x):∀ {ds:List D}{xs:List V},RDs K mu H ds xs->ds.all Uw=true->xs.all YM=true/\inV x xs=ds.any λ z=>eqF z d
 |[],xs,rs,_=>by cases rs.cases_nil;exact⟨rfl,rfl⟩
 | e::es,xs,rs,h=>by
  obtain⟨y,ys,rfl,r1,r2⟩:=rs.cases_cons;rw[all_cons,and_eq_true] at h;obtain⟨a,b⟩:=qh f r r2 h.2;obtain⟨c1,c2⟩:=zE h.1 f r1 r;refine⟨by rw[all_cons,c1,a];rfl,?_⟩
  unfold inV at b ⊢;rw[any_cons,any_cons,b,c2]
noncomputable def rdF(h:Heap)(da:PyData)(u:Value):Bool:=by
 classical exact if z:∃ d as,Reads h u d as/\d.canLay0=true then PyData.eqv z.choose da else false
theorem Zfm{h:Heap}{da d:PyData}{u:Value}{as:List Addr}(r:Reads h u d as)(hc:d.canLay0=true):rdF h da u=PyData.eqv d da:=by
 have z:∃ d as,Reads h u d as/\d.canLay0=true:=⟨d,as,r,hc⟩;unfold rdF;rw[dif_pos z];obtain⟨as',r',_⟩:=z.choose_spec;rw[<- SeqAt.Reads.unique d z.choose u as as' hc r r']
theorem qi(I:Inv X pj σ H s){A:Around}{a:D}{v:Value}{bs:List Addr}(hb:Reads s.heap v (toP a) bs)(hc:(toP a).canLay0=true)(hu:A.units+(toP a).depth<cLine):∀ {ds:List D}{xs:List V}{us:List Value},RDs X.K mu H ds xs->Vals xs us->ds.all okD=true ->
  (∀ u∈us,SeqAt.EqAt A s u v (rdF s.heap (toP a) u))/\us.any (rdF s.heap (toP a))=ds.any λ z=>PyData.eqv (toP z) (toP a)
 | [],xs,us,r,rv,_=>by
  cases r.cases_nil;cases rv;exact⟨λ u hu=>(by cases hu),rfl⟩
 | d::ds,xs,us,r,rv,ok=>by
  obtain⟨x,xs,rfl,rd,r⟩:=r.cases_cons;cases rv with
  | cons r1 rv=>
   rw[all_cons,and_eq_true] at ok;obtain⟨as,ra⟩:=Js I d x _ rd r1 (ZN ok.1).1;have ca:=(ZN ok.1).2.1;obtain⟨e1,e2⟩:=qi I hb hc hu r rv ok.2;have e0:=Zfm (da:=toP a) ra ca;refine⟨λ u hu'=>?_,by rw[any_cons,any_cons,e0,e2]⟩
   rcases List.mem_cons.1 hu' with rfl | z
   ·rw[e0];exact SeqAt.eqAt_reads _ _ A s _ _ as bs ra hb ca hc<|Nat.lt_of_le_of_lt (Nat.add_le_add_left (Nat.min_le_right _ _) _) hu
   ·exact e1 u z
theorem Zc0(hu:X.A.units+100<cLine){a b:D}{t:Bool}{x y:V}{v u:Value}{Q:VK}(neg:Bool)(I:Inv X pj σ H s)(w:WR X.K mu H S)(rx:RelV x v)(ry:RelV y u)(ra:RD X.K mu H a x)(rb:RD X.K mu H b y)(h:inD S a b=some t)
  (k:Q (.bl (if neg then !t else t)) H):wpAny (model X.prog X.w) X.A (compareOp (if neg then .NotIn else .In) v u) (EP X pj σ Q) X.xe s:=by
 unfold inD at h;obtain⟨ds,h1,h⟩:=bO h;split at h
 ·rename_i hc;rw[and_eq_true] at hc;cases h
  obtain⟨p,xs,rfl,hq,rs⟩:=YH w h1 rb;obtain⟨f1,f2⟩:=qh hc.1 ra rs hc.2;have fx:YM x=true:=(zE hc.1 hc.1 ra ra).1;rw[<- f2] at k;cases neg with
  |false=>exact ZaR pj s σ H x _ v u Q I rx ry ⟨p,xs,rfl,hq,fx,f1,k⟩
  |true=>exact WT pj s σ H x _ v u Q I rx ry ⟨p,xs,rfl,hq,fx,f1,k⟩
 ·split at h
  ·rename_i hc;simp only[and_eq_true,decide_eq_true_eq] at hc;obtain⟨⟨h2,h3⟩,h4⟩:=hc;cases h
   obtain⟨p,xs,rfl,hq,rs⟩:=YH w h1 rb;obtain⟨bs,r1⟩:=Js I a x v ra rx (ZN h2).1;have hu1:X.A.in1.units+(toP a).depth<cLine:=by show X.A.units+1+_ < _;lia
   cases ry
   rcases hq with hq | hq
   ·obtain⟨its,r,pl,hz⟩:=I.list hq;obtain⟨e1,e2⟩:=qi I (A:=X.A.in1) r1 (ZN h2).2.1 hu1 rs r h4;have e3:its.toArray.any (rdF s.heap<|toP a)=ds.any λ z=>PyData.eqv (toP z) (toP a):=by rw[<- e2];simp
    rw[<- e3] at k;cases neg with
    |false=>exact SeqAt.in_listAt _ pl.isList (λ z hz=>e1 z<|by simpa using hz) ⟨.bl _,H,I,rfl,k⟩
    |true=>exact SeqAt.notIn_listAt _ pl.isList (λ z hz=>e1 z<|by simpa using hz) ⟨.bl _,H,I,rfl,k⟩
   ·obtain⟨its,r,pl,hz⟩:=I.tuple hq;obtain⟨e1,e2⟩:=qi I (A:=X.A.in1) r1 (ZN h2).2.1 hu1 rs r h4;have e3:its.toArray.any (rdF s.heap<|toP a)=ds.any λ z=>PyData.eqv (toP z) (toP a):=by rw[<- e2];simp
    rw[<- e3] at k;cases neg with
    |false=>exact SeqAt.in_tupleAt _ pl (λ z hz=>e1 z<|by simpa using hz) ⟨.bl _,H,I,rfl,k⟩
    |true=>exact SeqAt.notIn_tupleAt _ pl (λ z hz=>e1 z<|by simpa using hz) ⟨.bl _,H,I,rfl,k⟩
  ·cases h
theorem Zc1(hu:X.A.units+100<cLine){a b:D}{t:Bool}{x y:V}{v u:Value}{Q:VK}(neg:Bool)(I:Inv X pj σ H s)(w:WR X.K mu H S)(rx:RelV x v)(ry:RelV y u)(ra:RD X.K mu H a x)(rb:RD X.K mu H b y)(h:eqD S a b=some t)
  (k:Q (.bl (if neg then !t else t)) H):wpAny (model X.prog X.w) X.A (compareOp (if neg then .NotEq else .Eq) v u) (EP X pj σ Q) X.xe s:=by
 have units:∀ {da db:D},okD da=true->okD db=true->X.A.units+min (toP da).depth (toP db).depth<cLine:=λ {da db} h1 h2=>by
  have a1:=(ZN h1).2.2;have:=Nat.min_le_left (toP da).depth (toP db).depth;omega
 unfold eqD at h;split at h
 ·rename_i hz;cases h
  obtain⟨h1,h2⟩:=ZdL hz ra rb;rw[<- h2] at k;cases neg with
  |false=>exact Zgu pj s σ H x y v u Q I rx ry ⟨h1,k⟩
  |true=>exact Zgv pj s σ H x y v u Q I rx ry ⟨h1,k⟩
 ·split at h
  ·rename_i hz;rw[and_eq_true] at hz;cases h
   obtain⟨as,r1⟩:=Js I a x v ra rx (ZN hz.1).1;obtain⟨bs,r2⟩:=Js I b y u rb ry (ZN hz.2).1;cases neg with
   |false=>exact SeqAt.compareEq_reads r1 r2 (ZN hz.1).2.1 (ZN hz.2).2.1 (units hz.1 hz.2) ⟨.bl _,H,I,rfl,k⟩
   |true=>exact SeqAt.compareNe_reads r1 r2 (ZN hz.1).2.1 (ZN hz.2).2.1 (units hz.1 hz.2) ⟨.bl _,H,I,rfl,k⟩
  ·split at h
   ·rename_i hz;cases h
    obtain⟨ds,rfl,rfl⟩:∃ ds,a=.tup ds/\b=.tup []:=by
     unfold empD at hz;split at hz
     ·exact⟨_,rfl,rfl⟩
     ·cases hz
    obtain⟨ad,xs,rfl,hq,rs⟩:=ra.tup_at;obtain⟨bd,ys,rfl,hq2,rs2⟩:=rb.tup_at;cases rx;cases ry
    cases rs2.cases_nil
    obtain⟨its,rv,pa,_⟩:=I.tuple hq;obtain⟨its2,rv2,pb,_⟩:=I.tuple hq2;cases rv2
    have e:(its.toArray.size==(#[]:Array Value).size)=decide (D.tup ds=.tup []):=by
     have e1:=rv.length;have e2:=rs.length;cases ds with
     | nil=>cases xs with
      | nil=>cases its with
       |nil=>rfl
       |cons _ _=>cases e1
      |cons _ _=>cases e2
     | cons _ _=>cases xs with
      |nil=>cases e2
      | cons _ _=>cases its with
       |nil=>cases e1
       |cons _ _=>simp
    have e0:((List.range<|min its.toArray.size (#[]:Array Value).size).all (λ _=>true)&&its.toArray.size==(#[]:Array Value).size)=decide (D.tup ds=.tup []):=by
     rw[e,List.all_eq_true.2<|λ _ _=>rfl,Bool.true_and]
    cases neg with
    |false=>exact SeqAt.eq_tupleAt (e:=λ _=>true) (show s.heap.IsTuple ad its.toArray from pa) (show s.heap.IsTuple bd #[] from pb) (by omega) (λ j h1 h2=>absurd h2<|by simp) ⟨.bl _,H,I,by rw[e0];rfl,k⟩
    |true=>exact SeqAt.RcNeAt.tuples (e:=λ _=>true) (show s.heap.IsTuple ad its.toArray from pa) (show s.heap.IsTuple bd #[] from pb) (by omega) (λ j h1 h2=>absurd h2<|by simp) _ _ _ _ ⟨.bl _,H,I,by rw[e0];rfl,k⟩
   obtain⟨a',e1,h⟩:=bO h;obtain⟨b',e2,h⟩:=bO h;split at h
   ·rename_i hz;rw[and_eq_true] at hz;cases h
    obtain⟨as,r1⟩:=Ui I w _ a a' x v ra rx e1;obtain⟨bs,r2⟩:=Ui I w _ b b' y u rb ry e2;cases neg with
    |false=>exact SeqAt.compareEq_reads r1 r2 (ZN hz.1).2.1 (ZN hz.2).2.1 (units hz.1 hz.2) ⟨.bl _,H,I,rfl,k⟩
    |true=>exact SeqAt.compareNe_reads r1 r2 (ZN hz.1).2.1 (ZN hz.2).2.1 (units hz.1 hz.2) ⟨.bl _,H,I,rfl,k⟩
   ·cases h
theorem Uy{op:CmpOp}{p:Str->Str->Bool}(rule:∀ (i j:Str) (t u:Tok) (Q:zVP) (s:Shared),Q (.bool (p i j)) s->wpAny (model X.prog X.w) X.A (compareOp op (.str i t) (.str j u)) Q X.xe s)
  {i j:Str}{x y:V}{v u:Value}{Q:VK}(I:Inv X pj σ H s)(w:WR X.K mu H S)(rx:RelV x v)(ry:RelV y u)(ra:RD X.K mu H (.str i) x)(rb:RD X.K mu H (.str j) y)(k:Q (.bl (p i j)) H) :
  wpAny (model X.prog X.w) X.A (compareOp op v u) (EP X pj σ Q) X.xe s:=by
 cases ZM ra;cases ZM rb
 obtain⟨t,rfl⟩:=rx;obtain⟨t',rfl⟩:=ry;exact rule i j t t' _ _ ⟨.bl _,H,I,rfl,k⟩
theorem Uz{K:Frag}:∀ {ds:List D}{l:List Str}{xs:List V},ZB ds=some l->RDs K mu H ds xs->xs=l.map V.str
 |[],l,xs,h,r=>by cases h;dsimp only[RDs] at r;exact r
 | d::ds,l,xs,h,r=>by
  dsimp only[RDs] at r;obtain⟨x,t,rfl,rx,rt⟩:=r;cases d with
  | str z=>
   obtain⟨l',h1,rfl⟩:=bM (show (ZB ds).map (z::·)=some l from h);dsimp only[RD] at rx;rw[rx,Uz h1 rt];rfl
  |_=>cases h
theorem Zfn(hu:X.A.units<cLine){xs ys:List D}{l m:List Str}{x y:V}{v u:Value}{Q:VK}(I:Inv X pj σ H s)(rx:RelV x v)(ry:RelV y u)(ra:RD X.K mu H (.tup xs) x)(rb:RD X.K mu H (.tup ys) y)
  (h1:ZB xs=some l)(h2:ZB ys=some m)(k:Q (.bl (TS.lexB l m)) H):wpAny (model X.prog X.w) X.A (compareOp .Lt v u) (EP X pj σ Q) X.xe s:=by
 obtain⟨a,vs,rfl,qa,r1⟩:=ra.tup_at;obtain⟨b,us,rfl,qb,r2⟩:=rb.tup_at;cases rx;cases ry
 cases Uz h1 r1
 cases Uz h2 r2
 obtain⟨its,rv,pa,_⟩:=I.tuple qa;obtain⟨its2,rv2,pb,_⟩:=I.tuple qb;exact Ze8 hu (show s.heap.IsTuple a its.toArray from pa) (show s.heap.IsTuple b its2.toArray from pb) (by simpa using Vi rv) (by simpa using Vi rv2) ⟨.bl _,H,I,rfl,k⟩
theorem Jt(hu:X.A.units+100<cLine)(op:CmpOp):OpS X (compareOp op) (λ S a b=>(cmpop S op a b).map D.bl):=by
 intro pj s σ H mu S x y v u da db d Q I w rx ry ra rb h k;replace h:(cmpop S op da db).map D.bl=some d:=h;obtain⟨b,h0,rfl⟩:=bM h;clear h;have fin:∀ {b':Bool},b'=b->Q (.bl b') H:=λ e=>by subst e;exact k _ mu H .refl w YT
 cases op with
 | Eq=>
  replace h0:eqD S da db=some b:=h0;exact Zc1 hu false I w rx ry ra rb h0<|fin rfl
 | NotEq=>
  replace h0:(eqD S da db).map not=some b:=h0;obtain⟨c,h1,h2⟩:=bM h0;exact Zc1 hu true I w rx ry ra rb h1<|fin h2
 | In=>
  replace h0:inD S da db=some b:=h0;exact Zc0 hu false I w rx ry ra rb h0<|fin rfl
 | NotIn=>
  replace h0:(inD S da db).map not=some b:=h0;obtain⟨c,h1,h2⟩:=bM h0;exact Zc0 hu true I w rx ry ra rb h1<|fin h2
 | Lt=>
  replace h0:ltC da db=some b:=h0;cases da<;>cases db<;>first | (cases h0;done) | skip
  ·exact Ux (λ _ _ _ _ _ _ h=>lt_int h) I w rx ry ra rb<|fin<|oAk h0
  ·exact Uy (p:=λ x y=>TS.sLt x y) (λ _ _ _ _ _ _ h=>PySem.P.lt_str h) I w rx ry ra rb<|fin<|oAk h0
  ·obtain⟨l,h1,h2⟩:=bO (show ((ZB _).bind λ l=>(ZB _).map λ m=>TS.lexB l m)=some b from h0);obtain⟨m,h3,h4⟩:=bM h2;exact Zfn (by omega) I rx ry ra rb h1 h3<|fin h4
 | LtE=>
  replace h0:ordC _ _ da db=some b:=h0;cases da<;>cases db<;>first | (cases h0;done) | skip
  ·exact Ux (λ _ _ _ _ _ _ h=>le_int h) I w rx ry ra rb<|fin<|oAk h0
  ·exact Uy (p:=λ x y=>!TS.sLt y x) (λ _ _ _ _ _ _ h=>PySem.P.le_str h) I w rx ry ra rb<|fin<|oAk h0
 | Gt=>
  replace h0:ordC _ _ da db=some b:=h0;cases da<;>cases db<;>first | (cases h0;done) | skip
  ·exact Ux (λ _ _ _ _ _ _ h=>gt_int h) I w rx ry ra rb<|fin<|oAk h0
  ·exact Uy (p:=λ x y=>TS.sLt y x) (λ _ _ _ _ _ _ h=>PySem.P.gt_str h) I w rx ry ra rb<|fin<|oAk h0
 | GtE=>
  replace h0:ordC _ _ da db=some b:=h0;cases da<;>cases db<;>first | (cases h0;done) | skip
  ·exact Ux (λ _ _ _ _ _ _ h=>ge_int h) I w rx ry ra rb<|fin<|oAk h0
  ·exact Uy (p:=λ x y=>!TS.sLt x y) (λ _ _ _ _ _ _ h=>PySem.P.ge_str h) I w rx ry ra rb<|fin<|oAk h0
 |Is=>cases h0
 |IsNot=>cases h0
theorem Zcr{K:Frag}{d:D}{b:Bool}{x:V}(w:WR K mu H S)(h:truth S d=some b)(r:RD K mu H d x):TruV K x H b:=by
 have seq:∀ ds,items S d=some ds->b=!ds.isEmpty->TruV K x H b:=λ ds hi e=>by
  obtain⟨a,xs,rfl,h,r⟩:=YH w hi r;have e2:(!ds.isEmpty)=!xs.isEmpty:=by
   have:=r.length;cases ds<;>cases xs<;>simp_all
  rcases h with h | h
  ·exact .inl ⟨xs,h,e.trans e2⟩
  ·exact .inr<|.inl ⟨xs,h,e.trans e2⟩
 cases d with
 |non=>cases Ug r;exact(oAk h).symm
 |bl c=>cases YS r;exact(oAk h).symm
 |int i=>cases int_at r;exact(oAk h).symm
 | str y=>
  cases ZM r
  simp only[truth] at h;split at h
  ·rename_i hz;exact⟨by rw[ZF];exact hz,(oAk h).symm⟩
  ·cases h
 | tup ds=>
  replace h:(items S<|.tup ds).map (λ ds=>!ds.isEmpty)=some b:=h;obtain⟨es,h1,h2⟩:=bM h;exact seq es h1 h2.symm
 | lst ds=>
  replace h:(items S<|.lst ds).map (λ ds=>!ds.isEmpty)=some b:=h;obtain⟨es,h1,h2⟩:=bM h;exact seq es h1 h2.symm
 | ref n=>
  obtain⟨es,h1,h2⟩:=bM h;exact seq es h1 h2.symm
theorem Ja{Q:Bool->Hp->Prop}(I:Inv X pj σ H s)(w:WR X.K mu H S)(h:truth S d=some b)(r:RD X.K mu H d x)(rx:RelV x v)(k:Q b H) :
  wpAny (model X.prog X.w) X.A (truthy v) (TP X pj σ Q) X.xe s:=ZeU pj s σ H x v Q I rx ⟨b,Zcr w h r,k⟩
end
open PySem PySem.Spec PyProof.Rows L2
section
variable {X:Cx}{T:Tab}{W k:Nat}{pj:zPn}{σ:St}{H:Hp}{s:Shared}{mu:List Addr}{S:Sto}
theorem two(he:ER X.K mu H env σ)(hw:WR X.K mu H S)(h1:fa env S=some (da,S1))(h2:fb env S1=some (db,S2)) :
  tE X.K fa σ H λ x H1=>tE X.K fb σ H1 λ y H2=>Nx X.K mu H H2 S2 λ mu2=>RD X.K mu2 H2 da x/\RD X.K mu2 H2 db y:=
 ⟨mu,env,S,he,hw,da,S1,h1,λ x mu1 H1 e1 w1 r1=>⟨mu1,env,S1,he.mono e1,w1,db,S2,h2,λ y mu2 H2 e2 w2 r2=>⟨mu2,e1.trans e2,w2,RD.mono e2 _ _ r1,r2⟩⟩⟩
theorem ZgK(ha:PE X a (tE X.K (ev c xa)))(hb:PE X b (tE X.K (ev c xb))):PE X (.BinOp a op b pos) (tE X.K (ev c (.bin op xa xb))):=by
 intro pj s σ H Q I ⟨mu,env,S,he,hw,d,S',hf,k⟩;dsimp only[ev] at hf;obtain⟨da,S1,h1,hf⟩:=bP hf;obtain⟨db,S2,h2,hf⟩:=bP hf;obtain⟨d',h3,e⟩:=bM hf;cases e
 refine wpAny_BinOp<|binT ha hb I (two he hw h1 h2) λ v u s2 x y H2 I2 rx ry ⟨mu2,e2,w2,r1,r2⟩=>?_;exact Zcq op pj s2 σ H2 mu2 S2 x y v u da db d Q I2 w2 rx ry r1 r2 h3 λ v' mu' H' e w r=>k v' mu' H' (e2.trans e) w r
theorem ZgL(ha:PE X a (tE X.K (ev c xa))):PE X (.UnaryOp .USub a pos) (tE X.K (ev c (.neg xa))):=by
 intro pj s σ H Q I ⟨mu,env,S,he,hw,d,S',hf,k⟩;dsimp only[ev] at hf;obtain⟨da,S1,h1,hf⟩:=bP hf;cases da with
 | int i=>
  cases hf
  refine ZcT ZaI ha pj s σ H Q I ⟨mu,env,S,he,hw,_,_,h1,λ v mu1 H1 e1 w1 r1=>?_⟩;cases int_at r1
  exact⟨i,rfl,k _ mu1 H1 e1 w1 Zs⟩
 |_=>cases hf
theorem ZdM(ha:PE X a (tE X.K (ev c xa)))(hp:∀ whole,isTrue a X.env whole=(do let v<-whole;standAt a.pos;holding [v] (truthy v))):PT X a (tT X.K (evT c xa)):=by
 intro pj s σ H Q I ⟨mu,env,S,he,hw,d,S',hf,k⟩;dsimp only[evT] at hf;obtain⟨da,S1,h1,hf⟩:=bP hf;obtain⟨b,h2,e⟩:=bM hf;cases e
 refine isTrue_plain (thn (ha pj s σ H _ I ⟨mu,env,S,he,hw,da,S1,h1,λ v mu1 H1 e1 w1 r1=>(⟨mu1,e1,w1,r1⟩:Nx X.K mu H H1 S1 λ mu1=>RD X.K mu1 H1 da v)⟩) λ v s1 ⟨x,H1,I1,r1,mu1,e1,w1,r⟩=>?_)<|hp _;exact Ja I1 w1 h2 r r1<|k mu1 H1 e1 w1
theorem ZgM(ha:PE X a (tE X.K (ev c xa))):PE X (.UnaryOp .Not a pos) (tE X.K (ev c (.not xa))):=by
 intro pj s σ H Q I ⟨mu,env,S,he,hw,d,S',hf,k⟩;dsimp only[ev] at hf;obtain⟨da,S1,h1,hf⟩:=bP hf;obtain⟨b,h2,e⟩:=bM hf;cases e
 refine UnaryOp_<|thn (ha pj s σ H _ I ⟨mu,env,S,he,hw,da,S1,h1,λ v mu1 H1 e1 w1 r1=>(⟨mu1,e1,w1,r1⟩:Nx X.K mu H H1 S1 λ mu1=>RD X.K mu1 H1 da v)⟩) λ v s1 ⟨x,H1,I1,r1,mu1,e1,w1,r⟩=>?_;refine not_of<|thn (Ja (Q:=λ b' H'=>b'=b/\H'=H1) I1 w1 h2 r r1 ⟨rfl,rfl⟩) λ b' s2 ⟨H2,I2,q⟩=>?_;obtain⟨rfl,rfl⟩:=q;exact⟨.bl<|!b',H2,I2,rfl,k _ mu1 _ e1 w1 YT⟩
theorem Zfo(ha:PT X a (tT X.K (evT c xa))):PT X (.UnaryOp .Not a pos) (tT X.K (evT c (.not xa))):=by
 intro pj s σ H Q I ⟨mu,env,S,he,hw,d,S',hf,k⟩;dsimp only[evT,ev] at hf;obtain⟨db,S2,h1,hf⟩:=bP hf;obtain⟨da,S1,h0,h1⟩:=bP h1;obtain⟨b,h2,e⟩:=bM h1;cases e
 obtain⟨b',h3,e⟩:=bM hf;cases e
 cases h3
 refine isTrue_not<|thn (ha pj s σ H (λ c H1=>Q (!c) H1) I ⟨mu,env,S,he,hw,b,S1,?_,λ mu1 H1 e1 w1=>k mu1 H1 e1 w1⟩) λ _ _ ⟨H1,i,q⟩=>⟨H1,i,q⟩;dsimp only[evT];rw[h0]
 show (truth S1 da).map _=_;rw[h2];rfl
theorem ZgN(ha:PE X a (tE X.K (ev c xa)))(hb:PE X (.BoolOp .And (b::r) pos) (tE X.K (ev c xb))):PE X (.BoolOp .And (a::b::r) pos) (tE X.K (ev c (.and xa xb))):=by
 intro pj s σ H Q I ⟨mu,env,S,he,hw,d,S',hf,k⟩;dsimp only[ev] at hf;obtain⟨da,S1,h1,hf⟩:=bP hf;obtain⟨t,h2,hf⟩:=bO hf;refine BoolOp_and<|thn (ha pj s σ H _ I ⟨mu,env,S,he,hw,da,S1,h1,λ v mu1 H1 e1 w1 r1=>(⟨mu1,e1,w1,r1⟩:Nx X.K mu H H1 S1 λ mu1=>RD X.K mu1 H1 da v)⟩) λ v s1 ⟨x,H1,I1,r1,mu1,e1,w1,r⟩=>?_;refine thn (Ja (Q:=λ b' H'=>b'=t/\H'=H1) I1 w1 h2 r r1 ⟨rfl,rfl⟩) λ b' s2 ⟨H2,I2,q⟩=>?_;obtain⟨rfl,rfl⟩:=q;cases b' with
 |true=>exact hb pj s2 σ H2 Q I2 ⟨mu1,env,S1,he.mono e1,w1,d,S',hf,λ v' mu' H' e w r=>k v' mu' H' (e1.trans e) w r⟩
 | false=>
  cases hf
  exact⟨x,H2,I2,r1,k x mu1 H2 e1 w1 r⟩
theorem s_or(ha:PE X a (tE X.K (ev c xa)))(hb:PE X (.BoolOp .Or (b::r) pos) (tE X.K (ev c xb))):PE X (.BoolOp .Or (a::b::r) pos) (tE X.K (ev c (.or xa xb))):=by
 intro pj s σ H Q I ⟨mu,env,S,he,hw,d,S',hf,k⟩;dsimp only[ev] at hf;obtain⟨da,S1,h1,hf⟩:=bP hf;obtain⟨t,h2,hf⟩:=bO hf;refine BoolOp_or<|thn (ha pj s σ H _ I ⟨mu,env,S,he,hw,da,S1,h1,λ v mu1 H1 e1 w1 r1=>(⟨mu1,e1,w1,r1⟩:Nx X.K mu H H1 S1 λ mu1=>RD X.K mu1 H1 da v)⟩) λ v s1 ⟨x,H1,I1,r1,mu1,e1,w1,r⟩=>?_;refine thn (Ja (Q:=λ b' H'=>b'=t/\H'=H1) I1 w1 h2 r r1 ⟨rfl,rfl⟩) λ b' s2 ⟨H2,I2,q⟩=>?_;obtain⟨rfl,rfl⟩:=q;cases b' with
 |false=>exact hb pj s2 σ H2 Q I2 ⟨mu1,env,S1,he.mono e1,w1,d,S',hf,λ v' mu' H' e w r=>k v' mu' H' (e1.trans e) w r⟩
 | true=>
  cases hf
  exact⟨x,H2,I2,r1,k x mu1 H2 e1 w1 r⟩
theorem Yw(h:ev c x env S=some (d,S1))(h2:truth S1 d=some b):evT c x env S=some (b,S1):=by
 dsimp only[evT];rw[h]
 show (truth S1 d).map _=_;rw[h2];rfl
theorem Zfp(ha:PT X a (tT X.K (evT c xa)))(hb:PW X (.BoolOp .And (b::r) pos) (tT X.K (evT c xb))):PW X (.BoolOp .And (a::b::r) pos) (tT X.K (evT c (.and xa xb))):=by
 intro wh pj s σ H Q I ⟨mu,env,S,he,hw,d,S',hf,k⟩;dsimp only[evT,ev] at hf;obtain⟨db,S2,h1,hf⟩:=bP hf;obtain⟨da,S1,h0,h1⟩:=bP h1;obtain⟨t,h2,h1⟩:=bO h1;obtain⟨b',h3,e⟩:=bM hf;cases e
 refine isTrue_and<|thn (ha pj s σ H (λ b' H'=>b'=t/\Ny X.K mu H H' S1) I ⟨mu,env,S,he,hw,t,S1,Yw h0 h2,λ mu1 H1 e1 w1=>⟨rfl,mu1,e1,w1⟩⟩) λ b' s1 ⟨H1,I1,q1⟩=>?_;obtain⟨rfl,mu1,e1,w1⟩:=q1;cases b' with
 |true=>exact hb wh pj s1 σ H1 Q I1 ⟨mu1,env,S1,he.mono e1,w1,d,S2,Yw h1 h3,λ mu' H' e w=>k mu' H' (e1.trans e) w⟩
 | false=>
  cases h1
  rw[h2] at h3;cases h3
  exact⟨H1,I1,k mu1 H1 e1 w1⟩
theorem ZgO(ha:PT X a (tT X.K (evT c xa)))(hb:PW X (.BoolOp .Or (b::r) pos) (tT X.K (evT c xb))):PW X (.BoolOp .Or (a::b::r) pos) (tT X.K (evT c (.or xa xb))):=by
 intro wh pj s σ H Q I ⟨mu,env,S,he,hw,d,S',hf,k⟩;dsimp only[evT,ev] at hf;obtain⟨db,S2,h1,hf⟩:=bP hf;obtain⟨da,S1,h0,h1⟩:=bP h1;obtain⟨t,h2,h1⟩:=bO h1;obtain⟨b',h3,e⟩:=bM hf;cases e
 refine isTrue_or<|thn (ha pj s σ H (λ b' H'=>b'=t/\Ny X.K mu H H' S1) I ⟨mu,env,S,he,hw,t,S1,Yw h0 h2,λ mu1 H1 e1 w1=>⟨rfl,mu1,e1,w1⟩⟩) λ b' s1 ⟨H1,I1,q1⟩=>?_;obtain⟨rfl,mu1,e1,w1⟩:=q1;cases b' with
 |false=>exact hb wh pj s1 σ H1 Q I1 ⟨mu1,env,S1,he.mono e1,w1,d,S2,Yw h1 h3,λ mu' H' e w=>k mu' H' (e1.trans e) w⟩
 | true=>
  cases h1
  rw[h2] at h3;cases h3
  exact⟨H1,I1,k mu1 H1 e1 w1⟩
theorem ZgP(ht:PT X t (tT X.K (evT c xt)))(ha:PE X a (tE X.K (ev c xa)))(hb:PE X b (tE X.K (ev c xb))):PE X (.IfExp t a b pos) (tE X.K (ev c (.ite xt xa xb))):=by
 intro pj s σ H Q I ⟨mu,env,S,he,hw,d,S',hf,k⟩;dsimp only[ev] at hf;obtain⟨da,S1,h1,hf⟩:=bP hf;obtain⟨b',h2,hf⟩:=bO hf;refine wpAny_IfExp<|thn (ht pj s σ H (λ b'' H'=>b''=b'/\Ny X.K mu H H' S1) I ⟨mu,env,S,he,hw,b',S1,Yw h1 h2,λ mu1 H1 e1 w1=>⟨rfl,mu1,e1,w1⟩⟩) λ b'' s1 ⟨H1,I1,q1⟩=>?_;obtain⟨rfl,mu1,e1,w1⟩:=q1;cases b'' with
 |true=>exact ha pj s1 σ H1 Q I1 ⟨mu1,env,S1,he.mono e1,w1,d,S',hf,λ v' mu' H' e w r=>k v' mu' H' (e1.trans e) w r⟩
 |false=>exact hb pj s1 σ H1 Q I1 ⟨mu1,env,S1,he.mono e1,w1,d,S',hf,λ v' mu' H' e w r=>k v' mu' H' (e1.trans e) w r⟩
theorem Uj{d:D}(h:cmpop S op da db=some b):(cmpop S op da db).map D.bl=some (.bl b):=by rw[h];rfl
theorem s_pc(hu:X.A.units+100<cLine)(ha:PE X a (tE X.K (ev c xa)))(hb:PE X b (tE X.K (ev c xb))):PC X op a b (tE X.K (ev c (.cmp op xa xb))):=by
 intro pj s σ H Q I ⟨mu,env,S,he,hw,d,S',hf,k⟩;dsimp only[ev] at hf;obtain⟨da,S1,h1,hf⟩:=bP hf;obtain⟨db,S2,h2,hf⟩:=bP hf;obtain⟨b,h3,e⟩:=bM hf;cases e
 refine binT ha hb I (two he hw h1 h2) λ v u s2 x y H2 I2 rx ry ⟨mu2,e2,w2,r1,r2⟩=>?_;exact Jt hu op pj s2 σ H2 mu2 S2 x y v u da db _ Q I2 w2 rx ry r1 r2 (Uj (d:=.non) h3) λ v' mu' H' e w r=>k v' mu' H' (e2.trans e) w r
theorem qj(h:PC X op a b (tE X.K (ev c x)))(hb:behindInMarks op b=false):PT X (.Compare a [op] [b] pos) (tT X.K (evT c x)):=by
 intro pj s σ H Q I ⟨mu,env,S,he,hw,d,S',hf,k⟩;dsimp only[evT] at hf;obtain⟨da,S1,h1,hf⟩:=bP hf;obtain⟨b',h2,e⟩:=bM hf;cases e
 refine wpAny_isTrue_Compare1 (thn (h pj s σ H _ I ⟨mu,env,S,he,hw,da,S1,h1,λ v mu1 H1 e1 w1 r1=>(⟨mu1,e1,w1,r1⟩:Nx X.K mu H H1 S1 λ mu1=>RD X.K mu1 H1 da v)⟩) λ v s1 q1=>thn q1 λ u s2 q2=>thn q2 λ c s3 ⟨x,H1,I1,r1,mu1,e1,w1,r⟩=>?_) hb;exact Ja I1 w1 h2 r r1<|k mu1 H1 e1 w1
end
open PySem PySem.Spec PyProof.Rows L2
section
variable {X:Cx}{T:Tab}{W k:Nat}{pj:zPn}{σ:St}{H:Hp}{s:Shared}{mu:List Addr}{S:Sto}{c:Cl}
theorem ZT(h:Zz x=true):(x==("__debug__":Str))=false/\(x==("__classdict__":Str))=false/\x≠"__name__":=by
 unfold Zz at h;simp only[not_eq_true',Bool.or_eq_false_iff,decide_eq_false_iff_not] at h;refine⟨?_,?_,h.2⟩
 ·exact beq_eq_false_iff_ne.2 h.1.1
 ·exact beq_eq_false_iff_ne.2 h.1.2
theorem ZgQ(hn:Zz x=true)(hi:slot x X.N=some i)(hv:Vis X.env.scope x):PE X (.Name x pos) (tE X.K (ev c (.var i))):=by
 intro pj s σ H Q I ⟨mu,env,S,he,hw,d,S',hf,k⟩;dsimp only[ev] at hf;obtain⟨h1,h2,_⟩:=ZT hn;refine ZaD (slot_get hi) hv h1 h2 pj s σ H Q I ?_;cases q:env[i]? with
 |none=>rw[q] at hf;cases hf
 | some o=>
  rw[q] at hf;cases o with
  |none=>cases hf
  | some d'=>
   cases hf
   obtain⟨v,h1,h2⟩:=he.get i _ q;exact⟨v,h1,k v mu H .refl hw h2⟩
theorem ZdN(h:(match cc with
        |.none=>some Ex.non
        |.bool b=>some (.bl b)
        |.int i=>some (.int i)
        |.str x=>some (.str x)
        |_=>none)=some x):PE X (.Constant cc j pos) (tE X.K (ev c x)):=by
  intro pj s σ H Q I ⟨mu,env,S,he,hw,d,S',hf,k⟩;cases cc<;>first | contradiction | skip
  · cases h;dsimp only[ev] at hf;cases hf
    exact ZeF pj s σ H Q I<|k _ mu H .refl hw qg
  · cases h;dsimp only[ev] at hf;cases hf
    exact Zgn pj s σ H Q I<|k _ mu H .refl hw YT
  · cases h;dsimp only[ev] at hf;cases hf
    exact ZaE pj s σ H Q I<|k _ mu H .refl hw Zs
  · cases h;dsimp only[ev] at hf;cases hf
    exact WN pj s σ H Q I<|k _ mu H .refl hw Vo
theorem Zfq(hu:X.A.units+100<cLine)(ha:PE X a (tE X.K (ev c xa)))(hb:PE X b (tE X.K (ev c xb)))(he':PE X e (tE X.K (ev c xe)))
  (hm:lastMarks [op,op'] [b,e]=false):PE X (.Compare a [op,op'] [b,e] pos) (tE X.K (ev c (.cmp2 op op' xa xb xe))):=by
 intro pj s σ H Q I ⟨mu,env,S,he,hw,d,S',hf,k⟩;dsimp only[ev] at hf;obtain⟨da,S1,h1,hf⟩:=bP hf;obtain⟨db,S2,h2,hf⟩:=bP hf;obtain⟨t,h3,hf⟩:=bO hf;refine Compare_chain (thn (ha pj s σ H _ I<|two he hw h1 h2) λ v s1 ⟨x,H1,I1,r1,q1⟩=>chain_link (thn (hb pj s1 σ H1 _ I1 q1) λ u s2 ⟨y,H2,I2,r2,mu2,e2,w2,ra,rb⟩=>
  thn (Jt hu op pj s2 σ H2 mu2 S2 x y v u da db _ (λ z H3=>z=.bl t/\Ny X.K mu2 H2 H3 S2) I2 w2 r1 r2 ra rb (Uj (d:=.non) h3) λ v' mu' H' e w r=>⟨YS r,mu',e,w⟩) λ d s3 ⟨z,H3,I3,r3,ez,mu3,e3,w3⟩=>?_)) hm
 subst ez;cases r3
 refine wpAny_truthy_bool ?_;cases t with
 | false=>
  cases hf
  exact ite_ff ⟨.bl false,H3,I3,rfl,k _ mu3 H3 (e2.trans e3) w3 YT⟩
 | true=>
  rw[if_pos rfl] at hf;obtain⟨dc,S3,h4,hf⟩:=bP hf;obtain⟨b',h5,e⟩:=bM hf;cases e
  refine ite_tt<|chain_last<|thn (he' pj s3 σ H3 _ I3 ⟨mu3,env,S2,he.mono<|e2.trans e3,w3,dc,S3,h4,λ v mu4 H4 e4 w4 r4=>(⟨mu4,e4,w4,r4⟩:Nx X.K mu3 H3 H4 S3 λ mu4=>RD X.K mu4 H4 dc v)⟩) λ w' s4 ⟨z',H4,I4,r4,mu4,e4,w4,rc⟩=>?_;exact Jt hu op' pj s4 σ H4 mu4 S3 y z' u w' db dc _ Q I4 w4 r2 r4 (RD.mono (e3.trans e4) _ _ rb) rc (Uj (d:=.non) h5) λ v' mu' H' e w r=>k v' mu' H' ((e2.trans e3).trans<|e4.trans e) w r
theorem ZdO(hu:X.A.units+100<cLine)(ha:PE X a (tE X.K (ev c xa)))(hb:PE X b (tE X.K (ev c xb)))(he':PE X e (tE X.K (ev c xe)))
  (hm:lastMarks [op,op'] [b,e]=false):PT X (.Compare a [op,op'] [b,e] pos) (tT X.K (evT c (.cmp2 op op' xa xb xe))):=by
 intro pj s σ H Q I ⟨mu,env,S,he,hw,d,S',hf,k⟩;dsimp only[evT,ev] at hf;obtain⟨dz,S5,hf,hz⟩:=bP hf;obtain⟨da,S1,h1,hf⟩:=bP hf;obtain⟨db,S2,h2,hf⟩:=bP hf;obtain⟨t,h3,hf⟩:=bO hf;obtain⟨b9,hz,e⟩:=bM hz;cases e
 refine isTrue_chain (thn (ha pj s σ H _ I<|two he hw h1 h2) λ v s1 ⟨x,H1,I1,r1,q1⟩=>test_link (thn (hb pj s1 σ H1 _ I1 q1) λ u s2 ⟨y,H2,I2,r2,mu2,e2,w2,ra,rb⟩=>
  thn (Jt hu op pj s2 σ H2 mu2 S2 x y v u da db _ (λ z H3=>z=.bl t/\Ny X.K mu2 H2 H3 S2) I2 w2 r1 r2 ra rb (Uj (d:=.non) h3) λ v' mu' H' e w r=>⟨YS r,mu',e,w⟩) λ d s3 ⟨z,H3,I3,r3,ez,mu3,e3,w3⟩=>?_)) hm
 subst ez;cases r3
 refine wpAny_truthy_bool ?_;cases t with
 | false=>
  cases hf
  cases hz
  exact ite_ff ⟨H3,I3,k mu3 H3 (e2.trans e3) w3⟩
 | true=>
  rw[if_pos rfl] at hf;obtain⟨dc,S3,h4,hf⟩:=bP hf;obtain⟨b',h5,e⟩:=bM hf;cases e
  cases hz
  refine ite_tt (test_last (thn (he' pj s3 σ H3 _ I3 ⟨mu3,env,S2,he.mono<|e2.trans e3,w3,dc,S3,h4,λ v mu4 H4 e4 w4 r4=>(⟨mu4,e4,w4,r4⟩:Nx X.K mu3 H3 H4 S3 λ mu4=>RD X.K mu4 H4 dc v)⟩) λ w' s4 ⟨z',H4,I4,r4,mu4,e4,w4,rc⟩=>
   thn (Jt hu op' pj s4 σ H4 mu4 S3 y z' u w' db dc _ (λ z H5=>z=.bl d/\Ny X.K mu4 H4 H5 S3) I4 w4 r2 r4 (RD.mono (e3.trans e4) _ _ rb) rc (Uj (d:=.non) h5) λ v' mu' H' e w r=>⟨YS r,mu',e,w⟩) λ d' s5 ⟨z2,H5,I5,r5,ez,mu5,e5,w5⟩=>?_))
  subst ez;cases r5
  exact wpAny_truthy_bool ⟨H5,I5,k mu5 H5 ((e2.trans e3).trans<|e4.trans e5) w5⟩
theorem Zfr{K:Frag}{ds:List D}{xs:List V}{i:Int}{d:D}(r:RDs K mu H ds xs)(h:atI ds i=some d):∃ v,atI xs i=some v/\RD K mu H d v:=by
 unfold atI at h ⊢;obtain⟨j,h1,h2⟩:=bO h;obtain⟨v,h3,h4⟩:=r.get h2;exact⟨v,by rw[<- r.length,h1];exact h3,h4⟩
theorem Jf(h:Yd i=true):Zdu i:=by
 intro o v;cases i<;>first | rfl | (exact absurd h (show ¬ (false=true) from oAg))
theorem ZgR{a i:Expr}{pos:Pos}{xa xi:Ex}(ha:PE X a (tE X.K (ev c xa)))(hi:PE X i (tE X.K (ev c xi)))(hp:Yd i=true):PE X (.Subscript a i pos) (tE X.K (ev c (.sub xa xi))):=by
 intro pj s σ H Q I ⟨mu,env,S,he,hw,d,S',hf,k⟩;dsimp only[ev] at hf;obtain⟨da,S1,h1,hf⟩:=bP hf;obtain⟨db,S2,h2,hf⟩:=bP hf;obtain⟨d',h3,e⟩:=bM hf;cases e
 refine Subscript_<|binT ha hi I (two he hw h1 h2) λ v u s2 x y H2 I2 rx ry ⟨mu2,e2,w2,r1,r2⟩=>?_;cases db with
 | int i0=>
  by_cases hst:∃ z,da=.str z
  ·obtain⟨z,rfl⟩:=hst;replace h3:(if z.length<=line then (L2.atI z.cps.toList i0).map λ c=>D.str ⟨#[c]⟩ else none)=some d:=h3;split at h3
   ·rename_i hz;obtain⟨cc,h4,rfl⟩:=bM h3;cases ZM r1
    cases int_at r2
    exact Ze0 a i pj s2 σ H2 _ _ v u Q I2 rx ry ⟨z,i0,cc,rfl,rfl,by rw[ZF];exact hz,h4,k _ mu2 H2 e2 w2<|by dsimp only[RD]⟩<|Jf hp _ _
   ·cases h3
  have h3':(items S2 da).bind (λ ds=>L2.atI ds i0)=some d:=by
   cases da with
   |str z=>exact absurd ⟨z,rfl⟩ hst
   |_=>exact h3
  obtain⟨ds,h4,h5⟩:=bO h3';obtain⟨p,xs,rfl,hq,rs⟩:=YH w2 h4 r1;obtain⟨z,h6,h7⟩:=Zfr rs h5;cases int_at r2
  rcases hq with hq | hq
  ·exact Zdv a i pj s2 σ H2 _ _ v u Q I2 rx ry ⟨p,xs,i0,z,rfl,rfl,hq,h6,k z mu2 H2 e2 w2 h7⟩<|Jf hp _ _
  ·exact ZeZ a i pj s2 σ H2 _ _ v u Q I2 rx ry ⟨p,xs,i0,z,rfl,rfl,hq,h6,k z mu2 H2 e2 w2 h7⟩<|Jf hp _ _
 |_=>cases h3
theorem Uk(w:WR X.K mu H S)(hp:H p=none)(r:RDs X.K mu H ds xs):RD X.K mu (upd H p (.tup xs)) (.tup ds) (.ref p):=by
 dsimp only[RD];exact⟨p,xs,rfl,.inl ⟨w.fresh hp,Zo⟩,RDs.mono (Ext.new w hp) _ _ r⟩
theorem qk(w:WR X.K mu H S)(hp:H p=none)(r:RDs X.K mu H ds xs):RD X.K mu (upd H p (.lst xs)) (.lst ds) (.ref p):=by
 dsimp only[RD];exact⟨p,xs,rfl,.inl ⟨w.fresh hp,.inl Zo⟩,RDs.mono (Ext.new w hp) _ _ r⟩
theorem ql(w:WR X.K mu H S):RD X.K (mu++[p]) (upd H p o) (.ref S.length) (.ref p):=by
 dsimp only[RD];exact⟨p,by rw[<- w.len];simp,rfl⟩
theorem Zbe{K:Frag}{ds:List D}{xs:List V}(lo hi:Option Int)(r:RDs K mu H ds xs):RDs K mu H (cutD ds lo hi) (cutV xs lo hi):=by
 unfold cutD cutV;rw[r.length];exact(r.drop _).take _
theorem ZgS(h:PA X es (tA X.K (evs c xs))):PE X (.Tuple es x1 pos) (tE X.K (ev c (.tup xs))):=by
 intro pj s σ H Q I ⟨mu,env,S,he,hw,d,S',hf,k⟩;dsimp only[ev] at hf;obtain⟨ds,S1,h1,hf⟩:=bP hf;split at hf
 ·rename_i hz;cases hf
  refine ZeV h pj s σ H Q I ⟨mu,env,S,he,hw,ds,_,h1,λ vs mu1 H1 e1 w1 r1=>⟨by rw[ZF,<-r1.length];exact hz,λ p hp=>?_⟩⟩
  exact k _ mu1 _ (e1.trans<|Ext.new w1 hp) (w1.keep hp)<|Uk w1 hp r1
 ·cases hf
theorem s_lv(h:PE X e (tN X.K f)):PE X e (tE X.K (λ env S=>(f env S).map λ r=>(.lst r.1,r.2))):=by
 intro pj s σ H Q I ⟨mu,env,S,he,hw,d,S',hf,k⟩;obtain⟨⟨ds,S1⟩,h1,e'⟩:=bM hf;cases e'
 exact h pj s σ H Q I ⟨mu,env,S,he,hw,ds,_,h1,λ vs p mu1 H1 e1 w1 hp r1=>k _ mu1 _ (e1.trans<|Ext.new w1 hp) (w1.keep hp)<|qk w1 hp r1⟩
theorem s_lr(h:PE X e (tN X.K f)):PE X e (tE X.K (λ env S=>(f env S).map λ r=>(.ref r.2.length,r.2++[.lst r.1]))):=by
 intro pj s σ H Q I ⟨mu,env,S,he,hw,d,S',hf,k⟩;obtain⟨⟨ds,S1⟩,h1,e'⟩:=bM hf;cases e'
 exact h pj s σ H Q I ⟨mu,env,S,he,hw,ds,_,h1,λ vs p mu1 H1 e1 w1 hp r1=>k _ _ _ (e1.trans<|Ext.alloc w1 hp) (w1.alloc hp r1)<|ql w1⟩
theorem Vp(b:Bool)(h:PE X e (tN X.K (evL c l))):PE X e (tE X.K (ev c (asL b l))):=by
 cases b with
 | false=>
  have e1:(λ env S=>(evL c l env S).map λ r=>(D.lst r.1,r.2))=ev c (asL false l):=by funext env S;show _=ev c (.lv l) env S;dsimp only[ev]
  rw[<- e1];exact s_lv h
 | true=>
  have e1:(λ env S=>(evL c l env S).map λ r=>(D.ref r.2.length,r.2++[Ob.lst r.1]))=ev c (asL true l):=by funext env S;show _=ev c (.lr l) env S;dsimp only[ev]
  rw[<- e1];exact s_lr h
theorem Zc2(h:PA X es (tA X.K (evs c xs))):PE X (.List es pos) (tN X.K (evL c (.dsp xs))):=by
 intro pj s σ H Q I ⟨mu,env,S,he,hw,ds,S',hf,k⟩;dsimp only[evL] at hf;obtain⟨ds,S1,h1,hf⟩:=bP hf;split at hf
 ·rename_i hz;cases hf
  exact ZeW h pj s σ H Q I ⟨mu,env,S,he,hw,ds,_,h1,λ vs mu1 H1 e1 w1 r1=>⟨by rw[ZF,<-r1.length];exact hz,λ p hp=>k vs p mu1 H1 e1 w1 hp r1⟩⟩
 ·cases hf
theorem s_gl(hn:Zz x=true)(hg:X.env.scope.names.lookup x=some .globalImplicit)(hm:X.mg x=some u)(rv:RelV v u)(rd:∀ mu H,RD X.K mu H d v)(hc:c.gl x=some d):PE X (.Name x pos) (tE X.K (ev c (.gl x))):=by
 intro pj s σ H Q I ⟨mu,env,S,he,hw,d',S',hf,k⟩;dsimp only[ev] at hf;rw[hc] at hf
 cases hf
 have nm:=ZT hn;exact Jj I hg hm ⟨v,H,I,rv,k v mu H .refl hw<|rd mu H⟩ nm.1
theorem Zc3(hn:Zz x=true)(hg:X.env.scope.names.lookup x=some .globalImplicit)(g:GdF X.K X.w X.mg x kvs)(hc:c.gd x=some kvs)(ha:PE X a (tE X.K (ev c xa))) :
  PC X .In a (.Name x p) (tE X.K (ev c (.gin x xa))):=by
 intro pj s σ H Q I ⟨mu,env,S,he,hw,d,S',hf,k⟩;dsimp only[ev] at hf;obtain⟨da,S1,h1,hf⟩:=bP hf;cases da with
 | str y=>
  replace hf:(c.gd x).map (λ kvs=>(D.bl (kvs.lookup y).isSome,S1))=some (d,S'):=hf;rw[hc] at hf;cases hf
  obtain⟨b,es,n,hm,hl,hk,hs,hy⟩:=g;obtain⟨r,e1,e2⟩:=hy y;refine thn (ha pj s σ H (λ x H1=>Nx X.K mu H H1 S' λ mu1=>RD X.K mu1 H1 (.str y) x) I ⟨mu,env,S,he,hw,_,_,h1,λ v mu1 H1 e1 w1 r1=>⟨mu1,e1,w1,r1⟩⟩) λ v s1 ⟨xv,H1,I1,rx,mu1,ex1,w1,r1⟩=>?_;cases ZM r1
  obtain⟨t,rfl⟩:=rx;refine Jj I1 hg hm ?_ (ZT hn).1;refine wpAny_in_of (strKind_is X.prog X.w y t) hs (PySem.W.mapOf_K (prog:=X.prog) I1.kIn hl hk) ?_;rw[PySem.W.find_K hl e1];have er:r.isSome=(kvs.lookup y).isSome:=by
   cases q:kvs.lookup y with
   |none=>rw[q] at e2;have e3:r=none:=e2;rw[e3];rfl
   |some i=>rw[q] at e2;obtain⟨t,e⟩:=e2;rw[e];rfl
  rw[er];exact⟨.bl _,H1,I1.tok _,rfl,k _ mu1 H1 ex1 w1 YT⟩
 |_=>cases hf
theorem Zbf(hn:Zz x=true)(hg:X.env.scope.names.lookup x=some .globalImplicit)(g:GdF X.K X.w X.mg x kvs)(hc:c.gd x=some kvs)(ha:PE X a (tE X.K (ev c xa))) :
  PC X .NotIn a (.Name x p) (tE X.K (ev c (.not (.gin x xa)))):=by
 intro pj s σ H Q I ⟨mu,env,S,he,hw,d,S',hf,k⟩;dsimp only[ev] at hf;obtain⟨d1,S0,h0,hf⟩:=bP hf
 skip
 obtain⟨da,S1,h1,h0⟩:=bP h0;cases da with
 | str y=>
  replace h0:(c.gd x).map (λ kvs=>(D.bl (kvs.lookup y).isSome,S1))=some (d1,S0):=h0;rw[hc] at h0;cases h0
  cases hf
  obtain⟨b,es,n,hm,hl,hk,hs,hy⟩:=g;obtain⟨r,e1,e2⟩:=hy y;refine thn (ha pj s σ H (λ x H1=>Nx X.K mu H H1 S0 λ mu1=>RD X.K mu1 H1 (.str y) x) I ⟨mu,env,S,he,hw,_,_,h1,λ v mu1 H1 e1 w1 r1=>⟨mu1,e1,w1,r1⟩⟩) λ v s1 ⟨xv,H1,I1,rx,mu1,ex1,w1,r1⟩=>?_;cases ZM r1
  obtain⟨t,rfl⟩:=rx;refine Jj I1 hg hm ?_ (ZT hn).1;refine wpAny_notIn_of (strKind_is X.prog X.w y t) hs (PySem.W.mapOf_K (prog:=X.prog) I1.kIn hl hk) ?_;rw[PySem.W.find_K hl e1];have er:r.isSome=(kvs.lookup y).isSome:=by
   cases q:kvs.lookup y with
   |none=>rw[q] at e2;have e3:r=none:=e2;rw[e3];rfl
   |some i=>rw[q] at e2;obtain⟨t,e⟩:=e2;rw[e];rfl
  rw[er];exact⟨.bl _,H1,I1.tok _,rfl,k _ mu1 H1 ex1 w1 YT⟩
 |_=>cases h0
theorem ZgT(hn:Zz x=true)(hg:X.env.scope.names.lookup x=some .globalImplicit)(g:GdF X.K X.w X.mg x kvs)(hc:c.gd x=some kvs)(ha:PE X a (tE X.K (ev c xa)))(hp:Yd a=true) :
  PE X (.Subscript (.Name x p) a pos) (tE X.K (ev c (.gsb x xa))):=by
 intro pj s σ H Q I ⟨mu,env,S,he,hw,d,S',hf,k⟩;dsimp only[ev] at hf;obtain⟨da,S1,h1,hf⟩:=bP hf;cases da with
 | str y=>
  replace hf:((c.gd x).bind λ kvs=>(kvs.lookup y).map λ i=>(D.int i,S1))=some (d,S'):=hf;rw[hc] at hf;replace hf:(kvs.lookup y).map (λ i=>(D.int i,S1))=some (d,S'):=hf;obtain⟨i,hi,e⟩:=bM hf;cases e
  obtain⟨b,es,n,hm,hl,hk,hs,hy⟩:=g;obtain⟨r,e1,e2⟩:=hy y;rw[hi] at e2;obtain⟨t2,rfl⟩:=e2;refine Subscript_ ?_;refine Jj I hg hm ?_ (ZT hn).1;refine thn (ha pj s σ H (λ x H1=>Nx X.K mu H H1 S' λ mu1=>RD X.K mu1 H1 (.str y) x) I ⟨mu,env,S,he,hw,_,_,h1,λ v mu1 H1 e1 w1 r1=>⟨mu1,e1,w1,r1⟩⟩) λ v s1 ⟨xv,H1,I1,rx,mu1,ex1,w1,r1⟩=>?_;cases ZM r1
  obtain⟨t,rfl⟩:=rx;have hm':=PySem.W.mapOf_K (prog:=X.prog) (w:=X.w) I1.kIn hl hk;refine tail_any hm'.typeIs slot_dict_getitem.lookup (wpAny_getItem_of (strKind_is X.prog X.w y t) hm' (PySem.W.find_K hl e1) ?_)<|Jf hp _ _;exact⟨.int i,H1,I1.tok _,⟨t2,rfl⟩,k _ mu1 H1 ex1 w1 Zs⟩
 |_=>cases hf
theorem Zx(h:notStar e=true):starEach (e::es) env=(false,eval e env)::starEach es env:=by
 cases e<;>first | rfl | (exact absurd h (show ¬ (false=true) from oAg))
theorem ZgU:PA X [] (tA X.K (evs c .nil)):=by
 intro pos pj s σ H Q I ⟨mu,env,S,he,hw,d,S',hf,k⟩;dsimp only[evs] at hf;cases hf
 exact JH pos pj s σ H Q I<|k _ mu H .refl hw .nil
theorem Zfs(ha:PE X e (tE X.K (ev c x)))(hb:PA X es (tA X.K (evs c xs)))(hs:notStar e=true):PA X (e::es) (tA X.K (evs c (.cons x xs))):=by
 intro pos pj s σ H Q I ⟨mu,env,S,he,hw,d,S',hf,k⟩;dsimp only[evs] at hf;obtain⟨da,S1,h1,hf⟩:=bP hf;obtain⟨⟨ds,S2⟩,h2,e⟩:=bM hf;cases e
 exact Ys ha hb (Zx hs) pos pj s σ H Q I ⟨mu,env,S,he,hw,da,S1,h1,λ x mu1 H1 e1 w1 r1=>⟨mu1,env,S1,he.mono e1,w1,ds,S2,h2,λ vs mu2 H2 e2 w2 r2=>k _ mu2 H2 (e1.trans e2) w2<|.cons (RD.mono e2 _ _ r1) r2⟩⟩
theorem s_no:PO X none (tO X.K (evO c .no)):=by
 intro pj s σ H Q I ⟨mu,env,S,he,hw,d,S',hf,k⟩;dsimp only[evO] at hf;cases hf
 exact Zdr pj s σ H Q I<|k mu H .refl hw
theorem ZgV(ha:PE X e (tE X.K (ev c x))):PO X (some e) (tO X.K (evO c (.yes x))):=by
 intro pj s σ H Q I ⟨mu,env,S,he,hw,d,S',hf,k⟩;dsimp only[evO] at hf;obtain⟨da,S1,h1,hf⟩:=bP hf;cases da with
 | int i=>
  cases hf
  refine Zds ha pj s σ H Q I ⟨mu,env,S,he,hw,_,_,h1,λ x mu1 H1 e1 w1 r1=>?_⟩;cases int_at r1
  exact⟨i,rfl,k mu1 H1 e1 w1⟩
 |_=>cases hf
theorem Z0{pos:Pos}{env:Env}:∀ {es:List Expr},es.all notStar=true->(backTo pos (starEach es env)).any (·.1)=false
 |[],_=>rfl
 | e::es,h=>by
  rw[all_cons,and_eq_true] at h;rw[Zx h.1];have:=Z0 (pos:=pos) (env:=env) h.2;simpa [backTo] using this
end
open PySem PySem.Spec PyProof.Rows L2
section
variable {X:Cx}{T:Tab}{W k:Nat}{nm:List (Str×NameKind)}{pj:zPn}{σ:St}{H:Hp}{s:Shared}{mu:List Addr}{S:Sto}{c:Cl}
theorem YU(K:Frag)(ht:t="NoneType"\/t="bool"\/t="int"\/t="str"\/t="tuple"\/t="list"\/t="dict")(hu:u="int"\/u="bool"\/u="str"\/u="tuple"\/u="list") :
  PySem.W.kitOne K (.type t) (.type u)=some (decide (t=u)||(decide (t="bool")&&decide (u="int"))):=by
 rcases ht with rfl | rfl | rfl | rfl | rfl | rfl | rfl<;>rcases hu with rfl | rfl | rfl | rfl | rfl<;>first | rfl | (with_unfolding_all rfl)
theorem Zft(I:Inv X pj σ H s)(w:WR X.K mu H S)(h:tyD S d=some t)(r:RD X.K mu H d x)(rx:RelV x v)(hu:u="int"\/u="bool"\/u="str"\/u="tuple"\/u="list")
  (k:Q (.bl (decide (t=u)||(decide (t="bool")&&decide (u="int")))) H):wpAny (model X.prog X.w) X.A (call (.builtin "isinstance") [v,.type u]) (EP X pj σ Q) X.xe s:=by
 have fin:∀ {b:Bool},b=(decide (t=u)||(decide (t="bool")&&decide (u="int")))->∀ tk,EP X pj σ Q (.bool b) { s with toks:=tk }:=λ e tk=>by subst e;exact⟨.bl _,H,I.tok _,rfl,k⟩
 cases d with
 |non=>cases h;cases Ug r;exact YI I rx .non (YU X.K (by decide) hu)<|fin rfl
 |bl y=>cases h;cases YS r;exact YI I rx (.bl y) (YU X.K (by decide) hu)<|fin rfl
 |int y=>cases h;cases int_at r;exact YI I rx (.int y) (YU X.K (by decide) hu)<|fin rfl
 |str y=>cases h;cases ZM r;exact YI I rx (.str y) (YU X.K (by decide) hu)<|fin rfl
 | tup ds=>
  cases h
  obtain⟨a,xs,rfl,hq,_⟩:=r.tup_at;cases (show v=Value.ref a from rx)
  obtain⟨its,_,⟨o,h1,h2,_⟩,_⟩:=I.tuple hq;exact PySem.W.kia_one PySem.W.kitx_tuple I.kIn ⟨o,h1,h2⟩ (YU X.K (by decide) hu) (λ z=>nomatch z)<|fin rfl
 | lst ds=>
  cases h
  obtain⟨a,xs,rfl,hq,_⟩:=r.lst_at;cases (show v=Value.ref a from rx)
  obtain⟨its,_,⟨o,n,h1,h2,_,_⟩,_⟩:=I.list hq;exact PySem.W.kia_one PySem.W.kitx_list I.kIn ⟨o,h1,h2⟩ (YU X.K (by decide) hu) (λ z=>nomatch z)<|fin rfl
 | ref n=>
  rw[tyD] at h;cases q:S[n]? with
  |none=>rw[q] at h;cases h
  | some o=>
   rw[q] at h;cases o with
   | dk es=>
    cases h
    obtain⟨a,e1,xs,e2,_⟩:=w.get q;dsimp only[RD] at r;obtain⟨b,e3,rfl⟩:=r;rw[e1] at e3;cases e3
    exact YI I rx (.dK e2) (YU X.K (by decide) hu)<|fin rfl
   | dt es=>
    cases h
    obtain⟨a,e1,xs,e2,_⟩:=w.get q;dsimp only[RD] at r;obtain⟨b,e3,rfl⟩:=r;rw[e1] at e3;cases e3
    exact YI I rx (.dT e2) (YU X.K (by decide) hu)<|fin rfl
   |ins _ _=>cases h
   |dtf _=>cases h
   | lst es=>
    cases h
    obtain⟨a,e1,xs,e2,_⟩:=w.get q;dsimp only[RD] at r;obtain⟨b,e3,rfl⟩:=r;rw[e1] at e3;cases e3
    cases (show v=Value.ref a from rx)
    obtain⟨its,_,⟨o,n,h1,h2,_,_⟩,_⟩:=I.list<|SqL.of e2;exact PySem.W.kia_one PySem.W.kitx_list I.kIn ⟨o,h1,h2⟩ (YU X.K (by decide) hu) (λ z=>nomatch z)<|fin rfl
theorem Zfu{Q:zVP}(I:Inv X pj σ H s)(hn:Zz x=true)(hg:X.env.scope.names.lookup x=some .globalImplicit)(hm:X.mg x=none)(hv:bootBuiltins x=some u)(h:Q u s) :
  wpAny (model X.prog X.w) X.A (eval (.Name x pos) X.env) Q X.xe s:=YK I hg hm hv h (ZT hn).2.2 (ZT hn).1
theorem UX:bootBuiltins "isinstance"=some (.builtin "isinstance"):=by decide +kernel
theorem ZdP:bootBuiltins "int"=some (.type "int")/\bootBuiltins "bool"=some (.type "bool")/\bootBuiltins "str"=some (.type "str")/\bootBuiltins "tuple"=some (.type "tuple")/\bootBuiltins "list"=some (.type "list"):=by
 refine⟨?_,?_,?_,?_,?_⟩<;>decide +kernel
theorem Zbg(h:Yb.lookup ty=some u):ty∈blts/\Zz ty=true/\bootBuiltins ty=some (.type u)/\(u="int"\/u="bool"\/u="str"\/u="tuple"\/u="list"):=by
 have hm:=PySem.mem_of_lookup h;obtain⟨b1,b2,b3,b4,b5⟩:=ZdP;simp only[Yb,mem_cons,Prod.mk.injEq,not_mem_nil,or_false] at hm
 rcases hm with ⟨rfl,rfl⟩ | ⟨rfl,rfl⟩ | ⟨rfl,rfl⟩ | ⟨rfl,rfl⟩ | ⟨rfl,rfl⟩
 ·exact⟨by decide +kernel,by decide +kernel,b1,by decide⟩
 ·exact⟨by decide +kernel,by decide +kernel,b2,by decide⟩
 ·exact⟨by decide +kernel,by decide +kernel,b3,by decide⟩
 ·exact⟨by decide +kernel,by decide +kernel,b4,by decide⟩
 ·exact⟨by decide +kernel,by decide +kernel,b5,by decide⟩
theorem ZgW(ok:XOk X T W k nm)(ha:PE X a (tE X.K (ev c xa)))(hs:notStar a=true)(hg:X.env.scope.names.lookup ("isinstance":Str)=some .globalImplicit)
  (hg2:X.env.scope.names.lookup ty=some .globalImplicit)(hu:Yb.lookup ty=some u):PE X (.Call (.Name "isinstance" p) [a,.Name ty p2] [] pos) (tE X.K (ev c (.isi xa ty))):=by
 obtain⟨h1,h2,h3,h4⟩:=Zbg hu;have pty:PE X (.Name ty p2) (λ _ H Q=>Q (.ty u) H):=λ pj s σ H Q I q=>Zfu I h2 hg2 (ok.bl ty h1) h3 ⟨.ty u,H,I,rfl,q⟩;intro pj s σ H Q I ⟨mu,env,S,he,hw,d,S',hf,k⟩;dsimp only[ev] at hf;obtain⟨da,S1,e1,hf⟩:=bP hf;obtain⟨b,e2,e⟩:=bM hf;cases e
 rw[isiD,hu] at e2;obtain⟨t,e2,e3⟩:=bM (show (tyD S1 da).map _=some b from e2);have cr:Z5 X (.builtin "isinstance") (λ xs H Q=>∃ x mu1,xs=[x,.ty u]/\WR X.K mu1 H S1/\RD X.K mu1 H da x/\Q (.bl b) H):=by
  intro pj s σ H xs us Q I r q;obtain⟨x,mu1,rfl,w1,r1,q⟩:=q;obtain⟨v,w',rfl,rx,rt⟩:=vals2 r;cases (show w'=Value.type u from rt)
  exact Zft I w1 e2 r1 rx h4 (by rw[e3];exact q)
 refine UR cr hg (ok.bl _<|by decide +kernel) UX (Ys ha (Ys pty JH rfl)<|Zx hs) (by decide) (by decide) (Zx hs) rfl pj s σ H Q I ?_;exact⟨mu,env,S,he,hw,da,S1,e1,λ x mu1 H1 x1 w1 r1=>⟨x,mu1,rfl,w1,r1,k _ mu1 H1 x1 w1 YT⟩⟩
theorem V8:∀ (r:List Int) (i:Int),Yo i r∈i::r/\∀ a∈i::r,Yo i r<=a
 |[],i=>⟨by simp[Yo],by simp[Yo]⟩
 | b::r,i=>by
  have e:Yo i (b::r)=Yo (if b<i then b else i) r:=rfl;obtain⟨h1,h2⟩:=V8 r (if b<i then b else i);rw[e];refine⟨?_,λ a ha=>?_⟩
  ·rcases List.mem_cons.1 h1 with h | h
   ·rw[h];split<;>simp
   ·exact oAm _<|oAm _ h
  ·have h3:=h2 _<|oAn;have h4:(if b<i then b else i)<=i/\(if b<i then b else i)<=b:=by split<;>lia
   rcases List.mem_cons.1 ha with h | h
   ·subst h;exact Int.le_trans h3 h4.1
   ·rcases List.mem_cons.1 h with h | h
    ·subst h;exact Int.le_trans h3 h4.2
    ·exact h2 a<|oAm _ h
theorem Zbh(h:M∈i::r)(h2:∀ a∈i::r,M<=a):M=Yo i r:=by
 obtain⟨a,b⟩:=V8 r i;have:=h2 _ a;have:=b _ h;lia
theorem UY{K:Frag}:∀ {ds:List D}{is:List Int}{xs:List V},YR ds=some is->RDs K mu H ds xs->xs=is.map V.int
 |[],is,xs,h,r=>by cases h;rw[r.cases_nil];rfl
 | d::ds,is,xs,h,r=>by
  obtain⟨x,xr,rfl,r1,r2⟩:=r.cases_cons;cases d with
  | int i=>
   obtain⟨js,h1,rfl⟩:=bM h;cases int_at r1
   rw[UY h1 r2];rfl
  |_=>cases h
theorem Ul{K:Frag}:∀ {ds:List D}{bs:List Bool}{xs:List V},Yv ds=some bs->RDs K mu H ds xs->xs=bs.map V.bl
 |[],is,xs,h,r=>by cases h;rw[r.cases_nil];rfl
 | d::ds,is,xs,h,r=>by
  obtain⟨x,xr,rfl,r1,r2⟩:=r.cases_cons;cases d with
  | bl i=>
   obtain⟨js,h1,rfl⟩:=bM h;cases YS r1
   rw[Ul h1 r2];rfl
  |_=>cases h
theorem Vq:∀ {bs:List Bool}{us:List Value},Vals (bs.map V.bl) us->us=bs.map Value.bool
 |[],_,h=>by cases h;rfl
 | b::bs,_,h=>by
  cases h with
  |cons r t=>rw[Vq t];cases r;rfl
theorem all_range(bs:List Bool):∀ (g:Nat->Bool),(∀ (i:Nat) (h:i<bs.length),g i=bs[i])->(List.range bs.length).all g=bs.all id/\(List.range bs.length).any g=bs.any id:=by
 intro g hg;have e:(List.range bs.length).map g=bs:=by
  apply List.ext_getElem
  ·simp
  ·intro i h1 h2;simp at h1 ⊢;exact hg i h1
 constructor
 ·have:((List.range bs.length).map g).all id=(List.range bs.length).all g:=by rw[all_map];rfl
  rw[<- this,e]
 ·have:((List.range bs.length).map g).any id=(List.range bs.length).any g:=by rw[List.any_map];rfl
  rw[<- this,e]
theorem UL(calm:X.calm=true){l:Addr}{bs:List Bool}{Q:VK}(I:Inv X pj σ H s)(hq:SqL X.K H l (bs.map V.bl)) :
  (Q (.bl (bs.all id)) H->wpAny (model X.prog X.w) X.A (call (.builtin "all") [.ref l]) (EP X pj σ Q) X.xe s)/\(Q (.bl (bs.any id)) H->wpAny (model X.prog X.w) X.A (call (.builtin "any") [.ref l]) (EP X pj σ Q) X.xe s):=by
 obtain⟨its,rv,pl,hz⟩:=I.list hq;have ei:=Vq rv;subst ei;have hl:=pl.isList;have hne:l≠s.heap.objs.size:=by obtain⟨o,e,_⟩:=hl;exact oAp<|oAf e
 have hlen:(bs.map Value.bool).toArray.size=bs.length:=by simp
 have old:∀ h':Heap,(∀ b o,b∉[s.heap.objs.size]->(s.heap.push { cls:=.type "list_iterator",data:=.fields #[.ref l,.int 0 0] }).get? b=some o->h'.get? b=some o)->∀ b o,s.heap.get? b=some o->h'.get? b=some o:=
  λ h' hk b o e=>hk b o (by simpa using oAp (oAf e))<|oAd _ e
 have tr:TruthOf X.prog X.w X.A.in1 (λ i v=>(bs.map Value.bool).toArray[i]?=some v) (λ i=>(bs[i]?).getD false):=λ i v s Q E hp hQ=>by
  simp only[List.getElem?_toArray,getElem?_map] at hp;obtain⟨b,h1,h2⟩:=bM hp;subst h2;have e:(λ i=>(bs[i]?).getD false) i=b:=by show (bs[i]?).getD false=b;rw[h1];rfl
  rw[e] at hQ;exact wpAny_truthy_bool hQ
 obtain⟨r1,r2⟩:=all_range bs (λ i=>(bs[i]?).getD false) (λ i h=>by simp[h]);have st0:(s.heap.push { cls:=.type "list_iterator",data:=.fields #[.ref l,.int 0 0] }).IsListIter s.heap.objs.size l 0/\(s.heap.push { cls:=.type "list_iterator",data:=.fields #[.ref l,.int 0 0] }).IsList l (bs.map Value.bool).toArray:=⟨⟨_,oAe _ rfl,rfl,rfl⟩,hl.push _⟩;refine⟨λ q=>?_,λ q=>?_⟩
 ·refine call_all_walk<|wpAny_pyIter_list hl ⟨_,_,_,_,_,_,_,rfl,Walks.list (A:=X.A.in1) (I.ok.hd calm) _ l hne _,st0,tr,λ h' tk hk=>?_⟩;rw[hlen,r1];exact⟨.bl _,H,I.kept<|old h' hk,rfl,q⟩
 ·refine call_any_walk<|wpAny_pyIter_list hl ⟨_,_,_,_,_,_,_,rfl,Walks.list (A:=X.A.in1) (I.ok.hd calm) _ l hne _,st0,tr,λ h' tk hk=>?_⟩;rw[hlen,r2];exact⟨.bl _,H,I.kept<|old h' hk,rfl,q⟩
theorem Zbi(calm:X.calm=true)(I:Inv X pj σ H s)(hq:SqL X.K H l ((i::r).map V.int))(q:Q (.int (Yo i r)) H):wpAny (model X.prog X.w) X.A (call (.builtin "min") [.ref l]) (EP X pj σ Q) X.xe s:=by
  obtain⟨its,rv,pl,hz⟩:=I.list hq;have hi:IntsAre its (i::r):=intsAre_of rv;obtain⟨xs,e⟩:=hi.allInts.items;have hns:(i::r)=xs.toList.map (·.1):=by rw[<- hi.numsOf,<-nums_intItems,<-e]
  have hsz:0<xs.size:=by
    have h3:=congrArg List.length hns;rw[length_cons,length_map] at h3;simp only[length_toList] at h3;omega
  have hl:=pl.isList;rw[e] at hl;refine min_intList (I.ok.hd calm) hl hsz λ v h' tk hv hk=>?_;obtain⟨t,rfl⟩:=intItems_at hv;obtain⟨h1,h2⟩:=argBest_lt (numAt xs)<|xs.size - 1;refine⟨.int _,H,I.kept (t':=tk) hk,⟨t,rfl⟩,?_⟩;have key:numAt xs (argBest (λ i j=>decide<|numAt xs i<numAt xs j)<|xs.size - 1)=Yo i r:=by
   refine Zbh (i:=i) (r:=r) ?_ λ a ha=>?_
   · rw[hns,numAt_eq];exact getD_mem (by rw[length_map,length_toList];omega)
   · rw[hns] at ha;obtain⟨j,hj,rfl⟩:=mem_getD ha;rw[length_map,length_toList] at hj;rw[<- numAt_eq];exact h2 j (by omega)
  rw[key];exact q
noncomputable def biV:Bi->Value
 |.len=>.builtin "len"
 |.abs=>.builtin "abs"
 |.min=>.builtin "min"
 |.max=>.builtin "max"
 |.int=>.type "int"
 |.tuple=>.type "tuple"
 |.all=>.builtin "all"
 |.any=>.builtin "any"
 |.divmod=>.builtin "divmod"
 |.bool=>.type "bool"
 |.str=>.type "str"
theorem ZdQ(h:biOf.lookup f=some b):bootBuiltins f=some (biV b)/\f∈blts:=by
 have hm:=PySem.mem_of_lookup h;simp only[biOf,mem_cons,Prod.mk.injEq,not_mem_nil,or_false] at hm
 rcases hm with ⟨rfl,rfl⟩ | ⟨rfl,rfl⟩ | ⟨rfl,rfl⟩ | ⟨rfl,rfl⟩ | ⟨rfl,rfl⟩ | ⟨rfl,rfl⟩ | ⟨rfl,rfl⟩ | ⟨rfl,rfl⟩ | ⟨rfl,rfl⟩ | ⟨rfl,rfl⟩ | ⟨rfl,rfl⟩<;>exact⟨by decide +kernel,by decide +kernel⟩
theorem ZgX(b:Bi):(∃ i,biV b=.builtin i)\/∃ t,biV b=.type t:=by
 cases b<;>first | exact .inl ⟨_,rfl⟩ | exact .inr ⟨_,rfl⟩
theorem Zfv(calm:X.calm=true){b:Bi}{ds:List D}{d:D}(h:bltD S b ds=some d) :
  Z5 X (biV b) (λ xs H Q=>∃ mu1,WR X.K mu1 H S/\RDs X.K mu1 H ds xs/\∀ v mu' H',Ext mu1 H mu' H'->WR X.K mu' H' S->RD X.K mu' H' d v->Q v H'):=by
 intro pj s σ H xs us Q I r ⟨mu1,w,rs,q⟩;have q0:∀ v,RD X.K mu1 H d v->Q v H:=λ v rv=>q v mu1 H .refl w rv;have lenS:∀ {d0:D}{ls:List D},ds=[d0]->items S d0=some ls->d=.int ls.length->wpAny (model X.prog X.w) X.A (call (.builtin "len") us) (EP X pj σ Q) X.xe s:=λ {d0 ls} e0 hi e=>by
  subst e0;obtain⟨x,r',rfl,rx,rn⟩:=rs.cases_cons;cases rn.cases_nil
  obtain⟨a,ys,rfl,hq,r2⟩:=YH w hi rx;refine WU pj s σ H _ us Q I r ⟨a,ys,rfl,hq,q0 _ ?_⟩;rw[e,r2.length];exact Zs
 have one:∀ {d0:D},ds=[d0]->∃ x u,xs=[x]/\us=[u]/\RD X.K mu1 H d0 x/\RelV x u:=λ {d0} e=>by
  subst e;obtain⟨x,r',rfl,rx,rn⟩:=rs.cases_cons;cases rn.cases_nil
  obtain⟨u,rfl,ru⟩:=vals1 r;exact⟨x,u,rfl,rfl,rx,ru⟩
 have ints2:∀ {i j:Int},ds=[.int i,.int j]->xs=[.int i,.int j]:=λ {i j} e=>by
  subst e;obtain⟨x,r',rfl,rx,rn⟩:=rs.cases_cons;obtain⟨y,r',rfl,ry,rn⟩:=rn.cases_cons;cases rn.cases_nil
  cases int_at rx
  cases int_at ry
  rfl
 match ds with
 |[]=>cases h
 | [d0,d1]=>
  match d0,d1 with
  | .int i,.int j=>
   cases ints2 rfl
   cases b<;>first | (exfalso;cases h;done) | skip
   ·cases h;exact ZaL calm pj s σ H _ us Q I r ⟨i,j,rfl,q0 _ Zs⟩
   ·cases h;exact ZaK calm pj s σ H _ us Q I r ⟨i,j,rfl,q0 _ Zs⟩
   ·replace h:(if 0<j/\j<1073741824 then some (D.tup [.int<|i / j,.int<|i % j]) else none)=some d:=h;split at h
    ·rename_i hz;cases h
     exact qU pj s σ H _ us Q I r ⟨i,j,rfl,hz,λ p hp=>q _ mu1 _ (Ext.new w hp) (w.keep hp)<|Uk w hp<|.cons Zs<|.cons Zs .nil⟩
    ·cases h
  |.int i,.non=>cases h
  |.int i,.bl _=>cases h
  |.int i,.str _=>cases h
  |.int i,.tup _=>cases h
  |.int i,.lst _=>cases h
  |.int i,.ref _=>cases h
  |.non,_=>cases h
  |.bl _,_=>cases h
  |.str _,_=>cases h
  |.tup _,_=>cases h
  |.lst _,_=>cases h
  |.ref _,_=>cases h
 |d0::d1::d2::r3=>cases h
 | [d0]=>
  obtain⟨x,u,rfl,rfl,rx,ru⟩:=one rfl;cases b with
  | len=>
   cases d0 with
   | str y=>
    replace h:(if y.length<=line then some (D.int y.length) else none)=some d:=h;cases ZM rx
    split at h
    ·rename_i hz;cases h
     exact WV pj s σ H _ _ Q I r ⟨y,rfl,by rw[ZF];exact hz,q0 _ Zs⟩
    ·cases h
   |tup l=>cases h;exact lenS rfl rfl rfl
   |lst l=>cases h;exact lenS rfl rfl rfl
   | ref l=>
    replace h:(match S[l]? with
     |some (.lst ds)=>some<|D.int ds.length
     |some (.dt kvs)=>some<|D.int kvs.length
     |_=>none)=some d:=h
    cases q9:S[l]? with
    |none=>rw[q9] at h;cases h
    | some ob=>
     rw[q9] at h;cases ob with
     |ins _ _=>cases h
     |dtf _=>cases h
     | lst ls=>
      cases h
      exact lenS rfl (by rw[items,q9]) rfl
     | dt kvs=>
      cases h
      obtain⟨a,e3,us,e4,ek,_⟩:=w.get q9;dsimp only[RD] at rx;obtain⟨a',e5,rfl⟩:=rx;rw[e3] at e5;cases e5
      cases ru
      have hl:us.length=kvs.length:=by have:=congrArg List.length ek;simpa using this
      refine Ze4 I e4<|λ t s' I'=>⟨.int us.length,H,I',⟨t,rfl⟩,?_⟩;rw[hl];exact q0 _ Zs
     |dk kvs=>cases h
   |_=>cases h
  | abs=>
   cases d0 with
   | int i=>
    cases h
    cases int_at rx
    exact Zb1 pj s σ H _ _ Q I r ⟨i,rfl,q0 _ Zs⟩
   |_=>cases h
  |max=>cases d0<;>cases h
  |divmod=>cases d0<;>cases h
  | str=>
   cases d0 with
   | int i=>
    replace h:(if i.natAbs<2 ^ 1900 then some (D.str<|toString i) else none)=some d:=h;cases int_at rx
    split at h
    ·rename_i hz;cases h
     refine WP pj s σ H _ _ Q I r ⟨i,rfl,?_,q0 _ Vo⟩;by_cases h0:i.natAbs=0
     ·rw[h0];decide
     ·have:=(Nat.log2_lt h0).mpr hz;omega
    ·cases h
   |_=>cases h
  | int=>
   cases d0 with
   | int i=>
    cases h
    cases int_at rx
    exact VU pj s σ H _ _ Q I r<|.inl ⟨i,rfl,q0 _ Zs⟩
   | bl i=>
    cases h
    cases YS rx
    exact VU pj s σ H _ _ Q I r<|.inr ⟨i,rfl,q0 _ Zs⟩
   |_=>cases h
  | bool=>
   cases d0 with
   | int i=>
    cases h
    cases int_at rx
    exact Vb pj s σ H _ _ Q I r<|.inl ⟨i,rfl,q0 _ YT⟩
   | bl i=>
    cases h
    cases YS rx
    exact Vb pj s σ H _ _ Q I r<|.inr ⟨i,rfl,q0 _ YT⟩
   |_=>cases h
  | tuple=>
   by_cases ht:∃ es,d0=.tup es
   ·obtain⟨es,rfl⟩:=ht;cases h
    obtain⟨a,ys,rfl,hq,r2⟩:=id rx.tup_at;exact J8 pj s σ H _ _ Q I r ⟨a,ys,rfl,.inr ⟨hq,q0 _ rx⟩⟩
   ·replace h:(lsOf S d0).map D.tup=some d:=by
     cases d0<;>first | exact h | (exact absurd ⟨_,rfl⟩ ht)
    obtain⟨ls,h1,h2⟩:=bM h;subst h2;obtain⟨a,ys,rfl,hq,r2⟩:=ZZ w h1 rx;exact J8 pj s σ H _ _ Q I r ⟨a,ys,rfl,.inl ⟨hq,λ l hl=>q _ mu1 _ (Ext.new w hl) (w.keep hl)<|Uk w hl r2⟩⟩
  | min=>
   replace h:((lsOf S d0).bind λ ds=>(YR ds).bind λ is=>match is with
    |[]=>none
    |i::r=>some<|D.int<|Yo i r)=some d:=by cases d0<;>exact h
   obtain⟨ls,h1,h⟩:=bO h;obtain⟨is,h2,h⟩:=bO h;obtain⟨a,ys,rfl,hq,r2⟩:=ZZ w h1 rx;cases ru
   rw[UY h2 r2] at hq;cases is with
   |nil=>cases h
   |cons i r=>cases h;exact Zbi calm I hq<|q0 _ Zs
  | all=>
   replace h:((lsOf S d0).bind λ ds=>(Yv ds).map λ bs=>D.bl<|bs.all id)=some d:=by cases d0<;>exact h
   obtain⟨ls,h1,h⟩:=bO h;obtain⟨bs,h2,h3⟩:=bM h;rw[<- h3] at q0;obtain⟨a,ys,rfl,hq,r2⟩:=ZZ w h1 rx;cases ru
   rw[Ul h2 r2] at hq;exact(UL calm I hq).1 (q0 _ YT)
  | any=>
   replace h:((lsOf S d0).bind λ ds=>(Yv ds).map λ bs=>D.bl<|bs.any id)=some d:=by cases d0<;>exact h
   obtain⟨ls,h1,h⟩:=bO h;obtain⟨bs,h2,h3⟩:=bM h;rw[<- h3] at q0;obtain⟨a,ys,rfl,hq,r2⟩:=ZZ w h1 rx;cases ru
   rw[Ul h2 r2] at hq;exact(UL calm I hq).2 (q0 _ YT)
noncomputable def blV:Bl->Value
 |.list=>.type "list"
 |.sorted=>.builtin "sorted"
theorem ZdR(h:blOf.lookup f=some b):bootBuiltins f=some (blV b)/\f∈blts:=by
 have hm:=PySem.mem_of_lookup h;simp only[blOf,mem_cons,Prod.mk.injEq,not_mem_nil,or_false] at hm
 rcases hm with ⟨rfl,rfl⟩ | ⟨rfl,rfl⟩<;>exact⟨by decide +kernel,by decide +kernel⟩
theorem insI_perm(x:Int):∀ l:List Int,(insI x l).Perm (x::l)
 |[]=>.refl _
 | y::r=>by
  rw[insI];split
  ·exact .refl _
  ·exact((insI_perm x r).cons y).trans (.swap x y r)
theorem Vr:∀ l:List Int,(isort l).Perm l
 |[]=>.refl _
 | x::r=>by
  rw[isort];exact(insI_perm x _).trans ((Vr r).cons x)
theorem UM(x:Int):∀ l:List Int,l.Pairwise (·<=·)->(insI x l).Pairwise (·<=·)
 |[],_=>by rw[insI];simp
 | y::r,h=>by
  rw[insI];rw[pairwise_cons] at h;split
  ·rename_i hx;rw[pairwise_cons,pairwise_cons];refine⟨λ z hz=>?_,h⟩
   rcases List.mem_cons.1 hz with rfl | hz
   ·exact hx
   ·exact Int.le_trans hx<|h.1 z hz
  ·rename_i hx;rw[pairwise_cons];refine⟨λ z hz=>?_,UM x r h.2⟩;have:=(insI_perm x r).mem_iff.1 hz
   rcases List.mem_cons.1 this with rfl | hz
   ·lia
   ·exact h.1 z hz
theorem Um:∀ l:List Int,(isort l).Pairwise (·<=·)
 |[]=>.nil
 |x::r=>by rw[isort];exact UM x _<|Um r
theorem qm{K:Frag}:∀ l:List Int,RDs K mu H (l.map D.int) (l.map V.int)
 |[]=>.nil
 |x::l=>.cons Zs<|qm l
theorem Uo(x:List Str):∀ l,(insR x l).Perm (x::l)
 |[]=>.refl _
 | y::r=>by
  rw[insR];split
  ·exact((Uo x r).cons y).trans (List.Perm.swap x y r)
  ·exact .refl _
theorem Yt:∀ l,(ZH l).Perm l
 |[]=>.refl _
 |x::r=>by rw[ZH];exact(Uo x _).trans ((Yt r).cons x)
theorem UN(x:List Str):∀ l:List (List Str),(l.Pairwise λ a b=>TS.lexB b a=false)->(insR x l).Pairwise λ a b=>TS.lexB b a=false
 |[],_=>by rw[insR];exact List.pairwise_singleton _ _
 | y::r,h=>by
  rw[insR];rw[pairwise_cons] at h;split
  ·rename_i hy;rw[pairwise_cons];refine⟨λ z hz=>?_,UN x r h.2⟩
   rcases List.mem_cons.1 ((Uo x r).mem_iff.1 hz) with rfl | hz
   ·cases q:TS.lexB z y with
    |false=>rfl
    |true=>have:=TS.Y8 hy q;rw[TS.Y4] at this;cases this
   ·exact h.1 z hz
  ·rename_i hy;have hy':TS.lexB y x=false:=by simpa using hy
   rw[pairwise_cons,pairwise_cons];refine⟨λ z hz=>?_,h.1,h.2⟩
   rcases List.mem_cons.1 hz with rfl | hz
   ·exact hy'
   ·cases q:TS.lexB z x with
    |false=>rfl
    | true=>
     have hzy:=h.1 z hz;cases q2:TS.lexB x y with
     |true=>rw[TS.Y8 q q2] at hzy;cases hzy
     |false=>rw[TS.JK hy' q2,q] at hzy;cases hzy
theorem Ye:∀ l,(ZH l).Pairwise λ a b=>TS.lexB b a=false
 |[]=>List.Pairwise.nil
 |x::r=>by rw[ZH];exact UN x _<|Ye r
theorem Uq:∀ {l m:List (List Str)},l.Perm m->(l.Pairwise λ a b=>TS.lexB b a=false)->(m.Pairwise λ a b=>TS.lexB b a=false)->l=m
 |[],m,p,_,_=>(List.Perm.nil_eq p)
 |x::l,[],p,_,_=>absurd p.length_eq (by simp)
 | x::l,y::m,p,h,g=>by
  rw[pairwise_cons] at h g;have e:x=y:=by
   have hx:x∈y::m:=p.mem_iff.1<|oAn ..;have hy:y∈x::l:=p.mem_iff.2<|oAn ..
   rcases List.mem_cons.1 hx with e | hx
   ·exact e
   ·rcases List.mem_cons.1 hy with e | hy
    ·exact e.symm
    ·exact TS.JK (g.1 x hx)<|h.1 y hy
  subst e;rw[Uq (List.Perm.cons_inv p) h.2 g.2]
theorem UZ{K:Frag}:∀ {ds:List D}{l:List Str}{xs:List V},ZB ds=some l->RDs K mu H ds xs->xs=l.map V.str/\ds=l.map D.str
 |[],l,xs,h,r=>by cases h;rw[r.cases_nil];exact⟨rfl,rfl⟩
 | d::ds,l,xs,h,r=>by
  obtain⟨x,t,rfl,rx,rt⟩:=r.cases_cons;cases d with
  | str z=>
   obtain⟨l',h1,rfl⟩:=bM (show (ZB ds).map (z::·)=some l from h);obtain⟨e1,e2⟩:=UZ h1 rt;dsimp only[RD] at rx;rw[rx,e1,e2];exact⟨rfl,rfl⟩
  |_=>cases h
theorem JY{K:Frag}:∀ {ds:List D}{ls:List (List Str)}{xs:List V},Yg ds=some ls->RDs K mu H ds xs->Rows (λ p l=>SqT K H p (l.map V.str)/\RD K mu H (rowD l) (.ref p)) xs ls
 |[],ls,xs,h,r=>by cases h;rw[r.cases_nil];exact .nil
 | d::ds,ls,xs,h,r=>by
  obtain⟨x,t,rfl,rx,rt⟩:=r.cases_cons;cases d with
  | tup es=>
   obtain⟨l,h1,h⟩:=bO (show ((ZB es).bind λ l=>if l.isEmpty then none else (Yg ds).map (l::·))=some ls from h);split at h
   ·cases h
   ·rename_i hne;obtain⟨ls',h2,rfl⟩:=bM h;obtain⟨a,xs',e,hq,rs⟩:=rx.tup_at;obtain⟨e1,e2⟩:=UZ h1 rs;subst e e1 e2;exact .cons ⟨hq,rx⟩ (λ z=>hne<|by rw[z];rfl)<|JY h2 rt
  |_=>cases h
theorem U0{G:Addr->List Str->Prop}:∀ {xs:List V}{ls:List (List Str)},Rows G xs ls->xs.length=ls.length
 |_,_,.nil=>rfl
 |_,_,.cons _ _ t=>by rw[length_cons,length_cons,U0 t]
theorem U1{K:Frag}:∀ {xs:List V}{ls:List (List Str)},Rows (λ p l=>SqT K H p (l.map V.str)/\RD K mu H (rowD l) (.ref p)) xs ls->RDs K mu H (ls.map rowD) xs
 |_,_,.nil=>.nil
 |_,_,.cons a _ t=>.cons a.2<|U1 t
theorem ZdS{b:Bl}{ds es:List D}(h:bltL S b ds=some es) :
  Z5 X (blV b) (λ xs H Q=>∃ mu1,WR X.K mu1 H S/\RDs X.K mu1 H ds xs/\∀ vs p,H p=none->RDs X.K mu1 H es vs->Q (.ref p) (upd H p (.lst vs))):=by
 intro pj s σ H xs us Q I r ⟨mu1,w,rs,q⟩;cases b with
 | list=>
  match ds with
  |[]=>cases h
  |_::_::_=>cases h
  | [d0]=>
   obtain⟨x,r',rfl,rx,rn⟩:=rs.cases_cons;cases rn.cases_nil
   obtain⟨a,ys,rfl,hq,r2⟩:=YH w (show items S d0=some es from h) rx;exact WW pj s σ H _ us Q I r ⟨a,ys,rfl,hq,λ l hl=>q _ l hl r2⟩
 | sorted=>
  match ds with
  |[]=>cases h
  |_::_::_=>cases h
  | [d0]=>
   obtain⟨x,r',rfl,rx,rn⟩:=rs.cases_cons;cases rn.cases_nil
   by_cases ht:∃ ts,d0=.tup ts
   ·obtain⟨ts,rfl⟩:=ht;obtain⟨ms,h3,h⟩:=bO (show ((Yg ts).bind λ ls=>if ls.length<64 then some ((ZH ls).map rowD) else none)=some es from h);split at h
    ·rename_i hz;cases h
     obtain⟨a,ys,rfl,hq,r2⟩:=rx.tup_at;obtain⟨u,rfl,ru⟩:=vals1 r;cases ru
     have rr:=JY h3 r2;refine qX (λ p l g=>g.1) I hq rr (by rw[U0 rr];exact hz)<|λ p zs ns hp e1 e2 e3 e4=>q zs p hp ?_
     rw[<- Uq (e3.trans (Yt ms).symm) e4 (Ye ms)];exact U1 e2
    ·cases h
   obtain⟨ls,h1,h⟩:=bO (show ((lsOf S d0).bind λ ds=>match YR ds with
    |some is=>if is.length<64 then some ((isort is).map D.int) else none
    | none=>(Yg ds).bind λ ls=>if ls.length<64 then some ((ZH ls).map rowD) else none)=some es from by
     cases d0 with
     |tup ts=>exact absurd ⟨ts,rfl⟩ ht
     |_=>exact h)
   obtain⟨a,ys,rfl,hq,r2⟩:=ZZ w h1 rx;obtain⟨u,rfl,ru⟩:=vals1 r;cases ru
   cases h2:YR ls with
   | some is=>
    rw[h2] at h;dsimp only at h;split at h
    ·rename_i hz;cases h
     rw[UY h2 r2] at hq;exact ZaY I hq hz (λ p hp=>q _ p hp<|qm _) (Vr is)<|Um is
    ·cases h
   | none=>
    rw[h2] at h;dsimp only at h;obtain⟨ms,h3,h⟩:=bO h;split at h
    ·rename_i hz;cases h
     have rr:=JY h3 r2;refine Zac (λ p l g=>g.1) I hq rr (by rw[U0 rr];exact hz)<|λ p zs ns hp e1 e2 e3 e4=>q zs p hp ?_
     rw[<- Uq (e3.trans (Yt ms).symm) e4 (Ye ms)];exact U1 e2
    ·cases h
end
end PF
namespace HT
open PySem PyProof.Rows
section
variable {prog:Program}{w:World}{A:Around}{E:zVP}{s:Shared}
theorem Wn{Q:Bool->Shared->Prop}(ht:IsTup s.heap t items)(h:Q true s):wpAny (model prog w) A (Builtin.Tuple.tupleIsExact (.ref t)) Q E s:=by
 unfold Builtin.Tuple.tupleIsExact;exact oAa<|wpAny_typeOf ht.typeIs<|oAb h
theorem Ub{t sl:Addr}{items:Array Value}{vl vu:Value}{lo hi:Option Int}{Q:zVP}(ht:IsTup s.heap t items)(hs:s.heap.IsSliceOf sl vl vu .none)(pl:IsPart vl lo)(pu:IsPart vu hi)
  (hw:sIx items.size 0 lo=0/\sIx items.size items.size hi=items.size)(h:Q (.ref t) s):wpAny (model prog w) A (getItem (.ref t) (.ref sl)) Q E s:=by
 obtain⟨os,hos,hcs,hds⟩:=id hs;have hTs:s.TypeIs (.ref sl) "slice":=⟨os,hos,hcs⟩;unfold getItem
 try with_reducible refine wpAny_holding ?_
 first | refine oAa (oAb ?_) | skip
 refine oAa<|wpAny_sequenceKey ht.typeIs (by decide) ?_;refine oAa (wpAny_callSpecial?_slot (name:=Str.ofString "__getitem__") ht.typeIs PyProof.Rows.slot_tuple_getitem
  (wpAny_call_entry PyProof.Rows.slot_tuple_getitem ht.typeIs entry_tuple_getitem ?_<|args_tuple_getitem _ _))
 show wpAny _ _ (Builtin.Tuple.tupleItemsOf (.ref t)>>=_) _ _ s;refine oAa<|tupleItemsOf_ ht ?_;refine oAa<|wpAny_typeOf hTs ?_;rw[if_pos (by decide)];refine oAa<|Jn hs pl pu ?_;have hyes:(((sIx items.size 0 lo:Nat):Int)==0&&(1:Int)==1&&(sIx items.size items.size hi - sIx items.size 0 lo)==items.size)=true:=by
  rw[hw.1,hw.2];simp
 show wpAny _ _ (if (((sIx items.size 0 lo:Nat):Int)==0&&(1:Int)==1&&(sIx items.size items.size hi - sIx items.size 0 lo)==items.size)=true then _ else _) _ _ s;rw[if_pos hyes];refine oAa<|Wn ht ?_;rw[if_pos rfl];exact oAa<|wpAny_rule<|oAb ⟨_,rfl,oAb h⟩
end
end HT
namespace PF
open PySem PySem.Spec PyProof.Rows L2
section
variable {X:Cx}{T:Tab}{W k:Nat}{nm:List (Str×NameKind)}{pj:zPn}{σ:St}{H:Hp}{s:Shared}{mu:List Addr}{S:Sto}{c:Cl}
theorem Zcs:SlR X (λ x lo hi H Q=>∃ mu1,WR X.K mu1 H S/\RD X.K mu1 H da x/\ZS S da lo hi=some d/\∀ v mu' H',Ext mu1 H mu' H'->WR X.K mu' H' S->RD X.K mu' H' d v->Q v H'):=by
 intro pj s σ H x v vl vu lo hi sl Q I rx hs pl pu ⟨mu1,w,r,h,q⟩;have lst:∀ {a:Addr}{xs:List V}{ds:List D},x=.ref a->SqL X.K H a xs->RDs X.K mu1 H ds xs->d=.lst (cutD ds lo hi)->∃ T id,typeLookup (.type T) "__getitem__"=pure (some<|.builtin id)/\s.TypeIs v T/\wpAny (model X.prog X.w) X.A (getItem v<|.ref sl) (EP X pj σ Q) X.xe s:=λ {a xs ds} ex hq rs ed=>by
  refine Zdw pj s σ H x v vl vu lo hi sl Q I rx hs pl pu ⟨a,xs,ex,hq,λ p hp=>?_⟩;subst ed;exact q _ mu1 _ (Ext.new w hp) (w.keep hp)<|qk w hp<|Zbe lo hi rs
 cases da with
 | lst ds=>
  obtain⟨a,xs,e,hq,rs⟩:=r.lst_at;exact lst e hq rs (oAk h).symm
 | ref n=>
  obtain⟨ds,h1,h2⟩:=bM (show (items S<|.ref n).map _=some d from h);obtain⟨a,xs,e,hq,rs⟩:=YH w h1 r
  rcases hq with hq | hq
  ·exact lst e hq rs h2.symm
  ·-- a list of the store is no tuple
   dsimp only[RD] at r;obtain⟨b,e1,e2⟩:=r;rw[e] at e2;cases e2
   rw[items] at h1;cases q9:S[n]? with
   |none=>rw[q9] at h1;cases h1
   | some o=>
    rw[q9] at h1;cases o with
    |dk es=>cases h1
    |dt es=>cases h1
    |ins _ _=>cases h1
    |dtf _=>cases h1
    | lst es=>
     cases h1
     obtain⟨b,e3,ys,e4,rs'⟩:=w.get q9;rw[e1] at e3;cases e3
     exact lst e (SqL.of e4) rs' h2.symm
 | tup ds=>
  obtain⟨a,xs,e,hq,rs⟩:=r.tup_at;simp only[ZS] at h;split at h
  ·rename_i hz;cases h
   subst e;cases rx
   obtain⟨its,rv,ht,hz2⟩:=I.tuple hq;have hlen:its.toArray.size=ds.length:=by rw[size_toArray,rs.length];exact rv.length.symm
   refine⟨"tuple",_,PyProof.Rows.slot_tuple_getitem.lookup,ht.typeIs,?_⟩;refine HT.Ub ht hs pl pu (by rw[hlen];exact hz) ?_
   exact⟨.ref a,H,I,rfl,q _ mu1 H .refl w r⟩
  ·rename_i hz;cases h
   refine ZeY pj s σ H x v vl vu lo hi sl Q I rx hs pl pu ⟨a,xs,e,hq,by rw[<- rs.length];exact hz,λ p hp=>?_⟩
   exact q _ mu1 _ (Ext.new w hp) (w.keep hp)<|Uk w hp<|Zbe lo hi rs
 | str z=>
  simp only[ZS] at h;split at h
  ·rename_i hz;cases h
   cases ZM r
   obtain⟨t,rfl⟩:=(show ∃ t,v=Value.str z t from rx);have part:∀ {u:Value}{o:Option Int},IsPart u o->∃ p:Option (Int×Tok),u=partValue p/\p.map (·.1)=o:=λ {u o} hp=>by
    cases hp with
    |none=>exact⟨none,rfl,rfl⟩
    |int i t=>exact⟨some (i,t),rfl,rfl⟩
   obtain⟨pl',rfl,el⟩:=part pl;obtain⟨pu',rfl,eu⟩:=part pu;obtain⟨o,ho,hc,hd⟩:=hs;refine⟨"str",_,slot_str_getitem.lookup,typeIs_str s z t,wpAny_getItem_str_slice (l:=pl') (u:=pu') (st:=none) ⟨o,ho,hc,hd⟩ rfl ?_⟩;have ep:slicePicked z pl' pu' none=Builtin.Str.strSliceIndices lo hi 1 z.length:=by
    unfold slicePicked;rw[el,eu];rfl
   unfold sliceMade;rw[ep];unfold StrLaws.sliceText at q hz;by_cases c1:((1:Int)==1&&(Builtin.Str.strSliceIndices lo hi 1 z.length).length==z.length)=true
   ·rw[if_pos c1] at q hz;rw[if_pos (show (((Option.map (λ x:Int×Tok=>x.fst) none).getD 1==1)&&(Builtin.Str.strSliceIndices lo hi 1 z.length).length==z.length)=true from c1)];exact⟨.str z,H,I,⟨t,rfl⟩,q _ mu1 H .refl w<|by dsimp only[RD]⟩
   ·rw[if_neg c1] at q hz;rw[if_neg (show ¬ (((Option.map (λ x:Int×Tok=>x.fst) none).getD 1==1)&&(Builtin.Str.strSliceIndices lo hi 1 z.length).length==z.length)=true from c1)];exact⟨by rw[ZF];exact hz,.str _,H,I.tok _,⟨_,rfl⟩,q _ mu1 H .refl w<|by dsimp only[RD]⟩
  ·cases h
 |_=>cases h
theorem ZgY{a:Expr}{lo hi:Option Expr}{pos p2:Pos}{xa:Ex}{xl xh:Ox}(ha:PE X a (tE X.K (ev c xa)))(hl:PO X lo (tO X.K (evO c xl)))(hh:PO X hi (tO X.K (evO c xh))) :
  PE X (.Subscript a (.Slice lo hi none p2) pos) (tE X.K (ev c (.slc xa xl xh))):=by
 intro pj s σ H Q I ⟨mu,env,S,he,hw,d,S',hf,k⟩;dsimp only[ev] at hf;obtain⟨da,S1,h1,hf⟩:=bP hf;obtain⟨l,S2,h2,hf⟩:=bP hf;obtain⟨u,S3,h3,hf⟩:=bP hf;obtain⟨d',h4,e⟩:=bM hf;cases e
 refine Zb4 (Zcs (S:=S3) (da:=da) (d:=d)) ha hl hh pj s σ H Q I ?_;exact⟨mu,env,S,he,hw,da,S1,h1,λ x mu1 H1 e1 w1 r1=>⟨mu1,env,S1,he.mono e1,w1,l,S2,h2,λ mu2 H2 e2 w2=>⟨mu2,env,S2,he.mono<|e1.trans e2,w2,u,S3,h3,λ mu3 H3 e3 w3=>
  ⟨mu3,w3,RD.mono (e2.trans e3) _ _ r1,h4,λ v mu' H' e w r=>k v mu' H' ((e1.trans e2).trans<|e3.trans e) w r⟩⟩⟩⟩
theorem ZgZ(ok:XOk X T W k nm)(hn:Zz f=true)(hg:X.env.scope.names.lookup f=some .globalImplicit)(hf:biOf.lookup f=some b)(hs:(e::es).all notStar=true)
  (ha:PA X (e::es) (tA X.K (evs c xs))):PE X (.Call (.Name f p) (e::es) [] pos) (tE X.K (ev c (.blt b xs))):=by
 intro pj s σ H Q I ⟨mu,env,S,he,hw,d,S',h,k⟩;dsimp only[ev] at h;obtain⟨ds,S1,h1,h⟩:=bP h;obtain⟨d',h2,e'⟩:=bM h;cases e'
 have hs1:notStar e=true:=by rw[all_cons,and_eq_true] at hs;exact hs.1
 have hs2:es.all notStar=true:=by rw[all_cons,and_eq_true] at hs;exact hs.2
 obtain⟨hb,hm⟩:=ZdQ hf;have cr:=Zfv (X:=X) ok.calm h2;have arg:tA X.K (evs c xs) σ H λ vs H1=>∃ mu1,WR X.K mu1 H1 S1/\RDs X.K mu1 H1 ds vs/\∀ v mu' H',Ext mu1 H1 mu' H'->WR X.K mu' H' S1->RD X.K mu' H' d v->Q v H':=
  ⟨mu,env,S,he,hw,ds,S1,h1,λ vs mu1 H1 e1 w1 r1=>⟨mu1,w1,r1,λ v mu' H' e2 w2 r=>k v mu' H' (e1.trans e2) w2 r⟩⟩
 have nm:=ZT hn
 rcases ZgX b with ⟨i,hv⟩ | ⟨t,hv⟩
 ·rw[hv] at cr hb;exact UR cr hg (ok.bl f hm) hb ha nm.2.2 nm.1 (Zx hs1) (Z0 hs2) pj s σ H Q I arg
 ·rw[hv] at cr hb;exact V0 cr hg (ok.bl f hm) hb ha nm.2.2 nm.1 (Zx hs1) (Z0 hs2) pj s σ H Q I arg
theorem boot_set:bootBuiltins "set"=some (.type "set"):=by decide +kernel
theorem V9{prog:Program}{w:World}:∀ {l:List Str}{us:List Value},Vals (l.map V.str) us->PySem.ItemsAre (PySem.strKind prog w) l us
 |[],us,h=>by cases h;exact .nil
 | x::l,us,h=>by
  cases h with
  | cons a t=>
   obtain⟨tk,rfl⟩:=(show ∃ t,_=Value.str x t from a);exact .cons (SX.str_is x tk)<|V9 t
theorem Zbj:∀ {l:List Str}{us:List Value},Vals (l.map V.str) us->SX.TxV us l
 |[],us,h=>by cases h;exact .nil
 | x::l,us,h=>by
  cases h with
  |cons a t=>exact .cons (show ∃ t,_=Value.str x t from a)<|Zbj t
theorem ZdT{K:Frag}{mu:List Addr}{H:Hp}{ds:List D}{l:List Str}{xs:List V}{us:List Value}(h:ZB ds=some l)(r:RDs K mu H ds xs)(v:Vals xs us):SX.TxV us l:=by
 rw[Uz h r] at v;exact Zbj v
theorem ZdU(l:List Str):(SX.ddS l).length<=l.length:=by
 have:∀ (xs acc:List Str),(xs.foldl SX.dd1 acc).length<=acc.length+xs.length:=by
  intro xs
  induction xs with
  |nil=>intro acc;exact oAl _
  |cons x xs ih=>intro acc;have:=ih<|SX.dd1 acc x;have:=SX.JL acc x;rw[foldl_cons,length_cons];omega
 have:=this l [];unfold SX.ddS;rw[length_nil] at this;omega
theorem zF{X:Cx}{pj:zPn}{σ:St}{H:Hp}{s:Shared}{mu:List Addr}(I:Inv X pj σ H s):∀ {xs:List V}{ls:List (List Str)}{its:List Value},Rows (λ p l=>SqT X.K H p (l.map V.str)/\RD X.K mu H (rowD l) (.ref p)) xs ls->Vals xs its->SY.Tv (PySem.strKind X.prog X.w) s.heap its ls
 |_,_,_,.nil,.nil=>⟨rfl,λ i e y z=>by cases z⟩
 | _,_,_,.cons (p:=p) (l:=l) g _ t,.cons rv rt=>by
  have ih:=zF I t rt;cases (show _=Value.ref p from rv)
  obtain⟨its,rv2,⟨o,ho,hc,n,hd⟩,_⟩:=I.tuple g.1;refine⟨congrArg Nat.succ ih.len,λ i e y he hy=>?_⟩;cases i with
  | zero=>
   cases he;cases hy
   exact⟨p,rfl,o,its.toArray,n,ho,hc,hd,V9 rv2⟩
  |succ i=>exact ih.get i e y he hy
theorem Zg0
  {a:Expr}{p p2 pos pos2:Pos}{xa:Ex}(ok:XOk X T W k nm)(hg:X.env.scope.names.lookup ("len":Str)=some .globalImplicit)(hg2:X.env.scope.names.lookup ("set":Str)=some .globalImplicit)(hs:notStar a=true)
  (ha:PE X a (tE X.K (ev c xa))):PE X (.Call (.Name "len" p) [.Call (.Name "set" p2) [a] [] pos2] [] pos) (tE X.K (ev c (.slT xa))):=by
 intro pj s σ H Q I ⟨mu,env,S,he,hw,d,S',h,k⟩;dsimp only[ev] at h;obtain⟨d1,S1,h1,h⟩:=bP h;obtain⟨ds,h2,h⟩:=bO h;obtain⟨ls,h3,h⟩:=bO h;split at h
 ·rename_i hlen;cases h
  have m1:("len":Str)∈blts:=by decide +kernel
  have m2:("set":Str)∈blts:=by decide +kernel
  refine wpAny_Call_Name_kw<|YK I hg (ok.bl _ m1) PySem.boot_len ?_ (by decide) (by decide);refine PyProof.Rows.callWith_builtin1 ?_ rfl rfl;refine Calls.spliced_cons ?_;refine wpAny_Call_Name_kw<|YK I hg2 (ok.bl _ m2) boot_set ?_ (by decide) (by decide);refine PyProof.Rows.callWith_type1 ?_ (Zx hs) rfl;have st:starEach [a] X.env=(false,eval a X.env)::starEach [] X.env:=Zx hs;rw[st];refine Calls.spliced_cons<|thn (ha pj s σ H (λ v H1=>∃ mu1,WR X.K mu1 H1 S1/\RD X.K mu1 H1 d1 v/\∀ v mu' H',Ext mu1 H1 mu' H'->WR X.K mu' H' S1->RD X.K mu' H' (.int ((SY.ddT ls).length:Int)) v->Q v H') I ⟨mu,env,S,he,hw,d1,S1,h1,λ v mu1 H1 e1 w1 r1=>⟨mu1,w1,r1,λ v mu' H' e2 w2 r=>k v mu' H' (e1.trans e2) w2 r⟩⟩) λ u s1 ⟨x,H1,I1,r1,mu1,w1,rd1,q1⟩=>?_;refine Calls.spliced_nil ?_;obtain⟨ad,xs,rfl,hq,rs⟩:=ZZ w1 h2 rd1;cases r1
  obtain⟨its,rv,pl,hz⟩:=I1.list hq;have rr:=JY h3 rs;have tv:=zF I1 rr rv;refine SY.ZgG (knd:=PySem.strKind X.prog X.w) (by have:=ok.room.un;omega) (I1.ok.hd ok.calm) pl.isList tv (by rw[tv.len];exact hlen)<|λ h' tk hset hkeep=>?_
  refine Calls.spliced_nil ?_;have I2:Inv X pj σ H1 { s1 with heap:=h',toks:=tk }:=I1.kept (t':=tk) λ b o e=>hkeep b o (oAf e) e;obtain⟨o,es,ep,t,ho,hex,hd,T,hr,nd,ys,hen,hpm⟩:=hset;have hfit:t.fits es.size=true:=by have:=SY.Uv T;rw[length_toList] at this;exact this
  have hn2:es.size=(SY.ddT ls).length:=by rw[<- length_toList,hen.len,hpm.length_eq]
  have hmk:es.size<=127:=by
   have:=T.few;rw[length_toList] at this
   rcases T.km with g | g | g<;>rw[g] at this<;>omega
  refine PySem.call_len_set ho hex hd hfit (by omega) ?_;exact⟨.int ((SY.ddT ls).length:Int),H1,(I2.tok _),⟨_,by rw[hn2]⟩,q1 _ mu1 H1 .refl w1<|by dsimp only[RD]⟩
 ·cases h
theorem Zg1
  {a:Expr}{p p2 pos pos2:Pos}{xa:Ex}(ok:XOk X T W k nm)(hg:X.env.scope.names.lookup ("len":Str)=some .globalImplicit)(hg2:X.env.scope.names.lookup ("set":Str)=some .globalImplicit)(hs:notStar a=true)
  (ha:PE X a (tE X.K (ev c xa))):PE X (.Call (.Name "len" p) [.Call (.Name "set" p2) [a] [] pos2] [] pos) (tE X.K (ev c (.slX xa))):=by
 intro pj s σ H Q I ⟨mu,env,S,he,hw,d,S',h,k⟩;dsimp only[ev] at h;obtain⟨d1,S1,h1,h⟩:=bP h;cases d1 with
 | tup ds=>
  dsimp only at h;obtain⟨l,h3,h⟩:=bO h;split at h
  ·rename_i hlen;cases h
   have m1:("len":Str)∈blts:=by decide +kernel
   have m2:("set":Str)∈blts:=by decide +kernel
   refine wpAny_Call_Name_kw<|YK I hg (ok.bl _ m1) PySem.boot_len ?_ (by decide) (by decide);refine PyProof.Rows.callWith_builtin1 ?_ rfl rfl;refine Calls.spliced_cons ?_;refine wpAny_Call_Name_kw<|YK I hg2 (ok.bl _ m2) boot_set ?_ (by decide) (by decide);refine PyProof.Rows.callWith_type1 ?_ (Zx hs) rfl;have st:starEach [a] X.env=(false,eval a X.env)::starEach [] X.env:=Zx hs;rw[st];refine Calls.spliced_cons<|thn (ha pj s σ H (λ v H1=>∃ mu1,WR X.K mu1 H1 S'/\RD X.K mu1 H1 (.tup ds) v/\∀ v mu' H',Ext mu1 H1 mu' H'->WR X.K mu' H' S'->RD X.K mu' H' (.int ((SX.ddS l).length:Int)) v->Q v H') I ⟨mu,env,S,he,hw,(.tup ds),S',h1,λ v mu1 H1 e1 w1 r1=>⟨mu1,w1,r1,λ v mu' H' e2 w2 r=>k v mu' H' (e1.trans e2) w2 r⟩⟩) λ u s1 ⟨x,H1,I1,r1,mu1,w1,rd1,q1⟩=>?_;refine Calls.spliced_nil ?_;obtain⟨ad,xs,rfl,hq,rs⟩:=rd1.tup_at;cases r1
   obtain⟨its,rv,pl,hz⟩:=I1.tuple hq;have tv:=ZdT h3 rs rv;refine SX.ZdH (I1.ok.hd ok.calm) pl tv (by show its.length+1<4096;have:=Paired.length tv;omega)<|λ h' tk hset hkeep=>?_
   refine Calls.spliced_nil ?_;have I2:Inv X pj σ H1 { s1 with heap:=h',toks:=tk }:=I1.kept (t':=tk) λ b o e=>hkeep b o (oAf e) e;obtain⟨o,es,ep,t,ho,hex,hd,hfit,_,ys,hen,hpm⟩:=hset;have hn2:es.size=(SX.ddS l).length:=by rw[<- length_toList,SX.UT hen,hpm.length_eq]
   have hmk:(SX.ddS l).length<=l.length:=ZdU l;refine PySem.call_len_set ho hex hd hfit (by omega) ?_;exact⟨.int ((SX.ddS l).length:Int),H1,(I2.tok _),⟨_,by rw[hn2]⟩,q1 _ mu1 H1 .refl w1<|by dsimp only[RD]⟩
  ·cases h
 |_=>cases h
theorem Zfw(ok:XOk X T W k nm)(hn:Zz f=true)(hg:X.env.scope.names.lookup f=some .globalImplicit)(hf:blOf.lookup f=some b)(hs:(e::es).all notStar=true)
  (ha:PA X (e::es) (tA X.K (evs c xs))):PE X (.Call (.Name f p) (e::es) [] pos) (tN X.K (evL c (.blt b xs))):=by
 intro pj s σ H Q I ⟨mu,env,S,he,hw,ds',S',h,k⟩;dsimp only[evL] at h;obtain⟨ds,S1,h1,h⟩:=bP h;obtain⟨d',h2,e'⟩:=bM h;cases e'
 have hs1:notStar e=true:=by rw[all_cons,and_eq_true] at hs;exact hs.1
 have hs2:es.all notStar=true:=by rw[all_cons,and_eq_true] at hs;exact hs.2
 obtain⟨hb,hm⟩:=ZdR hf;have cr:=ZdS (X:=X) h2;have arg:tA X.K (evs c xs) σ H λ vs H1=>∃ mu1,WR X.K mu1 H1 S1/\RDs X.K mu1 H1 ds vs/\∀ us p,H1 p=none->RDs X.K mu1 H1 ds' us->Q (.ref p) (upd H1 p<|.lst us):=
  ⟨mu,env,S,he,hw,ds,S1,h1,λ vs mu1 H1 e1 w1 r1=>⟨mu1,w1,r1,λ us p hp r=>k us p mu1 H1 e1 w1 hp r⟩⟩
 have nm:=ZT hn;cases b with
 |list=>exact V0 cr hg (ok.bl f hm) hb ha nm.2.2 nm.1 (Zx hs1) (Z0 hs2) pj s σ H Q I arg
 |sorted=>exact UR cr hg (ok.bl f hm) hb ha nm.2.2 nm.1 (Zx hs1) (Z0 hs2) pj s σ H Q I arg
theorem WR.lst_at(w:WR X.K mu H S)(h:items S (.ref n)=some ds)(r:RD X.K mu H (.ref n) v):∃ a xs,v=.ref a/\mu[n]?=some a/\H a=some (.lst xs)/\RDs X.K mu H ds xs:=by
 rw[items] at h;dsimp only[RD] at r;obtain⟨a,e,rfl⟩:=r;cases q:S[n]? with
 |none=>rw[q] at h;cases h
 | some o=>
  rw[q] at h;cases o with
  |dk es=>cases h
  |dt es=>cases h
  |ins _ _=>cases h
  |dtf _=>cases h
  | lst es=>
   cases h
   obtain⟨b,e1,xs,e2,r⟩:=w.get q;rw[e] at e1;cases e1
   exact⟨a,xs,rfl,e,e2,r⟩
theorem Zbk(h:(Za T W k).fn f ds S=some r):∃ fi,T.lookup f=some fi/\ds.length=fi.ps:=by
 cases k with
 |zero=>cases h
 | succ k=>
  obtain⟨fi,h1,h2⟩:=bO (show ((T.lookup f).bind λ fi=>if ds.length=fi.ps then (evSs (Za T W k) W fi.body (Yc fi.nn ds) S).bind fin else none)=some r from h);split at h2
  ·rename_i hl;exact⟨fi,h1,hl⟩
  ·cases h2
theorem s_call(ok:XOk X T W k nm)(hn:Zz f=true)(hg:X.env.scope.names.lookup f=some .globalImplicit)(hs:es.all notStar=true)(hx:es=[]->xs=.nil)
  (ha:PA X es (tA X.K (evs (Za T W k) xs))):PE X (.Call (.Name f p) es [] pos) (tE X.K (ev (Za T W k) (.call f xs))):=by
 intro pj s σ H Q I ⟨mu,env,S,he,hw,d,S',h,q⟩;dsimp only[ev] at h;obtain⟨ds,S1,h1,h⟩:=bP h;obtain⟨fi,hl,hd⟩:=Zbk h;obtain⟨fa,fd,ps,hps,hm,hk,hb,F⟩:=ok.fs f fi hl;have nm:=ZT hn;have arg:tA X.K (evs (Za T W k) xs) σ H λ vs H1=>spOf X.K T W k f (vs++[]) H1 Q E0:=
  ⟨mu,env,S,he,hw,ds,S1,h1,λ vs mu1 H1 e1 w1 r1=>⟨mu1,S1,ds,w1,by rw[append_nil];exact r1,⟨fi,hl,hd⟩,d,S',h,λ v mu' H' e w r=>q v mu' H' (e1.trans e) w r⟩⟩
 cases es with
 | nil=>
  obtain⟨mu',env',S2,he',hw',ds',S3,h1',k'⟩:=arg;refine Zb2 F ok.room hg hm hk hb .nil pass0 nm.1 pj s σ H Q I ?_;rw[hx rfl] at h1';dsimp only[evs] at h1'
  cases h1'
  exact k' [] mu' H .refl hw' .nil
 | cons e es=>
  have hs1:notStar e=true:=by rw[all_cons,and_eq_true] at hs;exact hs.1
  have hs2:es.all notStar=true:=by rw[all_cons,and_eq_true] at hs;exact hs.2
  exact Zdn F ok.room hg hm hk hb .nil pass0 ha nm.1 (Zx hs1) (Z0 hs2) pj s σ H Q I arg
end
section
variable {X:Cx}{T:Tab}{W k:Nat}{nm:List (Str×NameKind)}{pj:zPn}{σ:St}{H:Hp}{s:Shared}{mu:List Addr}{S:Sto}{c:Cl}
theorem Zfx:PE X (.Dict [] [] pos) (tE X.K (ev c .dnew)):=by
 intro pj s σ H Q I ⟨mu,env,S,he,hw,d,S',hf,k⟩;dsimp only[ev] at hf;cases hf
 refine Zb9 pj s σ H Q I λ p hp=>?_;exact k _ _ _ (Ext.alloc hw hp) (hw.allocO hp ⟨[],Zo,rfl,.nil⟩)<|ql hw
theorem Zfy(hn:Zz x=true)(hi:slot x X.N=some i)(hv:Vis X.env.scope x):PE X (.Dict [some (.Constant (.str a) j1 p1)] [.Name x p2] pos) (tE X.K (ev c (.dvar a i))):=by
 intro pj s σ H Q I ⟨mu,env,S,he,hw,d,S',hf,k⟩;dsimp only[ev] at hf;obtain⟨h1,h2,_⟩:=ZT hn;cases q:env[i]? with
 |none=>rw[q] at hf;cases hf
 | some o=>
  rw[q] at hf;cases o with
  |none=>cases hf
  | some d'=>
   cases hf
   obtain⟨v,e1,e2⟩:=he.get i _ q;refine ZdB (Zca WN (ZaD (slot_get hi) hv h1 h2) ZdA) rfl rfl (by simp) (by simp) pj s σ H Q I λ p hp=>?_;refine⟨v,e1,Zo,[(.inr a,v)],rfl,by simp,?_⟩;have e:JJ ([]:List (Key×V)) [(.inr a,v)]=[(.inr a,v)]:=rfl;rw[e,Zdg];exact k _ _ _ (Ext.alloc hw hp) (hw.allocO hp ⟨_,Zo,rfl,.cons (RD.mono (Ext.alloc hw hp) _ _ e2) .nil⟩)<|ql hw
theorem Zag(n:Nat):Builtin.Slice.sliceAdjust none none (-1) (n:Int)=((n:Int) - 1,-1):=by
 unfold Builtin.Slice.sliceAdjust;have h1:((-1:Int)<0):=by omega
 simp only[h1,if_true]
theorem Zah(n:Nat):Builtin.Slice.slicePlaces ((n:Int) - 1) (-1) (-1)=n:=by
 unfold Builtin.Slice.slicePlaces;have h1:¬ ((-1:Int) > 0):=by omega
 simp only[h1,if_false];have e:-(-1:Int)=1:=rfl;rw[e,Int.ediv_one];split<;>omega
theorem U2{prog:Program}{w:World}{A:Around}{E:zVP}{sl:Addr}{tk:Tok}{n:Nat}{Q:Int×Int×Nat->Shared->Prop}(hs:s.heap.IsSliceOf sl .none .none (.int (-1) tk))
  (h:Q ((n:Int) - 1,-1,n) s):wpAny (model prog w) A (Builtin.Slice.sliceApplied (.ref sl) (pure (n:Int))) Q E s:=by
 obtain⟨os,hos,hcs,hds⟩:=id hs;unfold Builtin.Slice.sliceApplied Builtin.Slice.sliceFields;refine oAa<|oAa<|wpAny_field hos hds (x:=.none) rfl<|oAa<|wpAny_field hos hds (x:=.none) rfl<|oAa<|wpAny_field hos hds (x:=.int (-1) tk) rfl<|oAb ?_;refine oAa<|slicePart_int ?_;show wpAny _ _ (if ((-1:Int)==0)=true then _ else _) _ _ s;rw[if_neg (by decide)];refine oAa<|slicePart_none<|oAa<|slicePart_none<|oAa<|oAb ?_;show wpAny _ _ (match Builtin.Slice.sliceAdjust none none (-1) (n:Int) with | (lo,hi)=>pure (lo,(-1:Int),Builtin.Slice.slicePlaces lo hi<|-1)) _ _ s;rw[Zag n];show wpAny _ _ (pure ((n:Int) - 1,(-1:Int),Builtin.Slice.slicePlaces ((n:Int) - 1) (-1)<|-1)) _ _ s;rw[Zah];exact oAb h
theorem Zct(xs:Array Value):((List.range xs.size).filterMap λ (m:Nat)=>xs[(((xs.size:Nat):Int) - 1+(m:Int) * (-1)).toNat]?).toArray=xs.toList.reverse.toArray:=by
 congr 1
 have key:∀ (k:Nat) ,k<=xs.size->((List.range k).filterMap λ (m:Nat)=>xs[(((xs.size:Nat):Int) - 1+(m:Int) * (-1)).toNat]?)=xs.toList.reverse.take k:=by
  intro k
  induction k with
  |zero=>intro _;rfl
  | succ k ih=>
   intro hk;rw[List.range_succ,List.filterMap_append,ih (by omega)];have e:(((xs.size:Nat):Int) - 1+(k:Int) * (-1)).toNat=xs.size - 1 - k:=by omega
   have hlt:xs.size - 1 - k<xs.size:=by omega
   have hr:k<xs.toList.reverse.length:=by simp;omega
   rw[take_succ,oAt hr];congr 1
   simp only[filterMap_cons,List.filterMap_nil];rw[e,getElem?_eq_getElem hlt];simp[List.getElem_reverse]
 rw[key xs.size<|oAl _];exact take_of_length_le (by simp)
theorem UI{prog:Program}{w:World}{A:Around}{E:zVP}{t sl:Addr}{tk:Tok}{items:Array Value}{Q:zVP}(ht:IsTup s.heap t items)(hs:s.heap.IsSliceOf sl .none .none (.int (-1) tk))
  (h:Q (.ref s.heap.objs.size) { s with heap:=s.heap.push { cls:=.type "tuple",data:=.seq items.toList.reverse.toArray } })
  (hsz:items.size<=sizeLine):wpAny (model prog w) A (getItem (.ref t) (.ref sl)) Q E s:=by
 have htake:sizeOk (.seq items.toList.reverse.toArray):=by
  show items.toList.reverse.toArray.size<=sizeLine;rw[size_toArray,List.length_reverse,length_toList];exact hsz
 obtain⟨os,hos,hcs,hds⟩:=id hs;have hTs:s.TypeIs (.ref sl) "slice":=⟨os,hos,hcs⟩;unfold getItem
 try with_reducible refine wpAny_holding ?_
 first | refine oAa (oAb ?_) | skip
 refine oAa<|wpAny_sequenceKey ht.typeIs (by decide) ?_;refine oAa (wpAny_callSpecial?_slot (name:=Str.ofString "__getitem__") ht.typeIs PyProof.Rows.slot_tuple_getitem
  (wpAny_call_entry PyProof.Rows.slot_tuple_getitem ht.typeIs entry_tuple_getitem ?_<|args_tuple_getitem _ _))
 show wpAny _ _ (Builtin.Tuple.tupleItemsOf (.ref t)>>=_) _ _ s;refine oAa<|tupleItemsOf_ ht ?_;refine oAa<|wpAny_typeOf hTs ?_;rw[if_pos (by decide)];refine oAa<|U2 hs ?_;have hno:¬ (((((items.size:Nat):Int) - 1)==0&&(-1:Int)==1&&items.size==items.size)=true):=by
  rw[show ((-1:Int)==1)=false from rfl,Bool.and_false,Bool.false_and];exact oAg
 show wpAny _ _ (if ((((items.size:Nat):Int) - 1)==0&&(-1:Int)==1&&items.size==items.size)=true then _ else _) _ _ s;rw[if_neg hno,Zct]
 first
  |exact oAa (m:=Builtin.Tuple.tupleExact _)<|wpAny_newObj_type (oAb ⟨_,rfl,oAb h⟩) htake
  |exact oAa (m:=Builtin.Tuple.tupleExact _)<|wpAny_newObj_type (oAa<|oAb<|oAb ⟨_,rfl,oAb h⟩) htake
  |exact oAa<|oAa (m:=Builtin.Tuple.tupleExact _)<|wpAny_newObj_type (oAb<|oAb ⟨_,rfl,oAb h⟩) htake
  |exact oAa<|oAa (m:=Builtin.Tuple.tupleExact _)<|wpAny_newObj_type (oAb ⟨_,rfl,oAb h⟩) htake
theorem RDs.reverse{K:Frag}:∀ {ds:List D}{xs:List V},RDs K mu H ds xs->RDs K mu H ds.reverse xs.reverse
 |[],xs,h=>by rw[RDs.cases_nil h];exact .nil
 | d::ds,xs,h=>by
  obtain⟨x,r,rfl,hx,t⟩:=h.cases_cons;rw[reverse_cons,reverse_cons];exact t.reverse.append<|.cons hx .nil
theorem Vals.reverse:∀ {xs:List V}{us:List Value},Vals xs us->Vals xs.reverse us.reverse
 |_,_,.nil=>.nil
 | _,_,.cons r t=>by
  rw[reverse_cons,reverse_cons];exact(Vals.reverse t).append (.cons r .nil)
theorem Zg2{a:Expr}{j:Nat}{p1 p2 p3 pos:Pos}{xa:Ex}(ha:PE X a (tE X.K (ev c xa))):PE X (.Subscript a (.Slice none none (some (.UnaryOp .USub (.Constant (.int 1) j p1) p2)) p3) pos) (tE X.K (ev c (.rev xa))):=by
 intro pj s σ H Q I ⟨mu,env,S,he,hw,d,S',hf,k⟩;dsimp only[ev] at hf;obtain⟨da,S1,h1,hf⟩:=bP hf;cases da with
 | tup ds=>
  cases hf
  have pstep:PE X (.UnaryOp .USub (.Constant (.int 1) j p1) p2) (λ _ H Q=>Q (.int<|-1) H):=λ pj s σ H Q I h=>ZcT ZaI ZaE pj s σ H Q I ⟨1,rfl,h⟩;refine Subscript_<|thn (ha pj s σ H _ I ⟨mu,env,S,he,hw,_,_,h1,λ v mu1 H1 e1 w1 r1=>(⟨mu1,e1,w1,r1⟩:Nx X.K mu H H1 S1 λ mu1=>RD X.K mu1 H1 (.tup ds) v)⟩) λ v s1 ⟨x,H1,I1,r1,mu1,e1,w1,rb⟩=>?_;refine wpAny_Slice ?_;rw[evalPart_none];refine oAb<|oAb ?_;rw[evalPart_some];refine thn (pstep pj s1 σ H1 (λ v H'=>v=.int (-1)/\H'=H1) I1 ⟨rfl,rfl⟩) λ vk s3 ⟨z,H3,I3,r3,ez,eH⟩=>?_;subst ez eH;obtain⟨tk,rfl⟩:=r3;obtain⟨p,xs,rfl,hq,rs⟩:=rb.tup_at;cases r1
  have I4:Inv X pj σ H3 { s3 with heap:=s3.heap.push { cls:=.type "slice",data:=.fields #[.none,.none,.int (-1) tk] } }:=I3.kept (t':=s3.toks) λ b ob q=>oAd _ q;obtain⟨its,rv,ht,hz⟩:=I4.tuple hq;have hlen:its.toArray.size=xs.length:=by rw[size_toArray];exact rv.length.symm
  show wpAny (model X.prog X.w) X.A (subscriptTail a (.Slice none none (some<|.UnaryOp .USub (.Constant (.int 1) j p1) p2) p3) (.ref p)<|.ref s3.heap.objs.size) (EP X pj σ Q) X.xe { s3 with heap:=s3.heap.push { cls:=.type "slice",data:=.fields #[.none,.none,.int (-1) tk] } };refine tail_any (ops:=[.ref p,.ref s3.heap.objs.size]) ht.typeIs PyProof.Rows.slot_tuple_getitem.lookup ?_ (by with_unfolding_all rfl);refine UI ht (Heap.IsSliceOf.new ..) ?_ (by rw[hlen];exact hz)
  refine⟨.ref _,_,I4.laid (t':=s3.toks) (o:=.tup xs.reverse) (λ b ob q=>oAd _ q) (oAl _) ?_,rfl,?_⟩
  ·refine⟨by rw[List.length_reverse];exact hz,_,Vals.reverse rv,IsTup.new _ _⟩
  ·have hp:=I4.hok.fresh<|oAl _;exact k _ mu1 _ (e1.trans<|Ext.new w1 hp) (w1.keep hp)<|Uk w1 hp rs.reverse
 |_=>cases hf
end
end PF
namespace PFZ
open PySem PySem.Spec PyProof.Rows
section
variable {prog:Program}{w:World}{A:Around}{E:zVP}{s:Shared}
theorem tupNext{Q:zVP}(a:s.heap.IsTupleIter j c k)(b:s.heap.IsTuple c its)(e:its[k]?=some x)
  (q:∀ g,g.IsTupleIter j c (k+1)->SameBut j s.heap g->Q x { s with heap:=g }):wpAny (model prog w) A (Builtin.SmallTypes.nextOf (.ref j)) Q E s:=by
 obtain⟨oj,gj,cj,dj⟩:=id a;obtain⟨oc,gc,_,nc,dc⟩:=b;unfold Builtin.SmallTypes.nextOf;refine oAa<|wpAny_callSpecial?_slot (name:=Str.ofString "__next__") a.typeIs PySem.F.slot_tuple_iterator_next<|wpAny_call_entry PySem.F.slot_tuple_iterator_next a.typeIs PySem.F.entry_tuple_iterator_next ?_<|PySem.F.args_tuple_iterator_next_1 _;show wpAny _ _ (field (.ref j) 0>>=_) _ _ s;refine oAa<|wpAny_field gj dj (x:=.ref c) rfl ?_;show wpAny _ _ (if (Value.ref c==Value.none)=true then _ else _) _ _ s;rw[if_neg (show ¬ ((Value.ref c==Value.none)=true) by exact oAg)];show wpAny _ _ (field (.ref j) 1>>=_) _ _ s;refine oAa<|wpAny_field gj dj (x:=.int k 0) rfl ?_;show wpAny _ _ (seqItems? (.ref c)>>=_) _ _ s;refine oAa<|wpAny_seqItems gc dc ?_;simp only[Int.toNat_natCast,e];refine oAa<|wpAny_setField gj dj (by simp)<|oAb ⟨x,rfl,oAb<|q _ ⟨_,get?_update_self _ gj<|Obj.isFreed_of_fields<|Obj.data_mapFields dj _,(Obj.cls_mapFields ..).trans cj,?_⟩<|Heap.SameBut.update ..⟩;rw[Obj.data_mapFields dj];simp[rawInt]
theorem tupEnd{Q:zVP}(hh:A.handled=none)(a:s.heap.IsTupleIter j c k)(b:s.heap.IsTuple c its)(e:its[k]?=none)
  (q:∀ g x,ExtBut j s.heap g->(∃ o,g.get? x=some o/\o.cls=.type "StopIteration")->E (.ref x) { s with heap:=g }):wpAny (model prog w) A (Builtin.SmallTypes.nextOf (.ref j)) Q E s:=by
 obtain⟨oj,gj,cj,dj⟩:=id a;obtain⟨oc,gc,_,nc,dc⟩:=b;unfold Builtin.SmallTypes.nextOf;refine oAa<|wpAny_callSpecial?_slot (name:=Str.ofString "__next__") a.typeIs PySem.F.slot_tuple_iterator_next<|wpAny_call_entry PySem.F.slot_tuple_iterator_next a.typeIs PySem.F.entry_tuple_iterator_next ?_<|PySem.F.args_tuple_iterator_next_1 _;show wpAny _ _ (field (.ref j) 0>>=_) _ _ s;refine oAa<|wpAny_field gj dj (x:=.ref c) rfl ?_;show wpAny _ _ (if (Value.ref c==Value.none)=true then _ else _) _ _ s;rw[if_neg (show ¬ ((Value.ref c==Value.none)=true) by exact oAg)];show wpAny _ _ (field (.ref j) 1>>=_) _ _ s;refine oAa<|wpAny_field gj dj (x:=.int k 0) rfl ?_;show wpAny _ _ (seqItems? (.ref c)>>=_) _ _ s;refine oAa<|wpAny_seqItems gc dc ?_;simp only[Int.toNat_natCast,e];refine oAa<|wpAny_rule<|oAa<|wpAny_setField gj dj (by simp) ?_;show wpAny _ _ (newExc (.type "StopIteration") []>>=_) _ _ _;refine oAa ?_;simp only[newExc,newTuple];refine oAa<|wpAny_newObj_type ?_ (by size_fits);refine oAa (m:=firstArgMember _ _)<|wpAny_of_eq (a:=Value.none) (by first | rfl | (simp only[firstArgMember];rfl)) ?_
 refine wpAny_newObj_type ?_ (by size_fits);simp only[raiseNew];refine oAa<|wpAny_handled ?_
 first | rw[show A.in1.handled=none from hh] | rw[hh]
 exact oAa<|oAb<|wpAny_throw<|q _ _ (((Heap.SameBut.update ..).extBut.push _).push _) ⟨_,oAe _ rfl,rfl⟩
end
theorem drawsTup(hh:A.handled=none)(j c:Addr)(hne:c≠j)(its:Array Value) :
  Draws prog w A j [j,c] its.size (λ i v=>its[i]?=some v) (λ i h=>h.IsTupleIter j c i/\h.IsTuple c its) where
 live:=λ _ _ st=>by obtain⟨o,ho,_⟩:=st.1;exact⟨o,ho⟩
 frame:=λ _ _ _ st k=>⟨by obtain⟨o,a,r⟩:=st.1;exact⟨o,k j (by simp) o a,r⟩,by obtain⟨o,a,r⟩:=st.2;exact⟨o,k c (by simp) o a,r⟩⟩
 item:=λ i s Q E hi st q=>tupNext st.1 st.2 (x:=its[i]) (by simp[hi]) λ g a b=>q _ g s.toks (by simp[hi]) ⟨a,by obtain⟨o,e,r⟩:=st.2;exact⟨o,(b.2 c hne).trans e,r⟩⟩ b
 done:=λ s Q E st q=>tupEnd hh st.1 st.2 (by simp) λ g x a b=>q g x a b
structure Zap(z TI TO i1 i2:Addr)(f1 f2:List Addr):Prop where
 a1:i1∈f1
 a2:i2∈f2
 z1:z∉f1
 z2:z∉f2
 o1:TO∉f1
 o2:TO∉f2
 x1:i1∉f2
 x2:i2∉f1
 tz:TI≠z
 tO:TI≠TO
 t1:TI≠i1
 t2:TI≠i2
 oz:TO≠z
theorem Yx{α:Type}{a b:α}{l:List α}(h:a∈l)(n:b∉l):a≠b:=λ e=>n (e ▸ h)
section
variable {prog:Program}{w:World}{A:Around}{E:zVP}{s:Shared}
variable {z TI TO i1 i2:Addr}{f1 f2:List Addr}{n1 n2:Nat}{P1 P2:Nat->Value->Prop}{S1 S2:Nat->Heap->Prop}
theorem Draws.at{prog:Program}{w:World}{A:Around}{it:Addr}{fp:List Addr}{n:Nat}{P:Nat->Value->Prop}{St:Nat->Heap->Prop}(D:Draws prog w A it fp n P St){i:Nat}{b:Addr}{h h':Heap}(st:St i h)(hs:ExtBut b h h')(nb:b∉fp):St i h':=
 D.frame i h h' st λ c hc o e=>hs c o (Yx hc nb) e
theorem zipItem(Z:Zap z TI TO i1 i2 f1 f2)(D1:Draws prog w A i1 f1 n1 P1 S1)(D2:Draws prog w A i2 f2 n2 P2 S2){k:Nat}{a b:Value}{Q:zVP}(hz:IsZip s.heap z TI TO .none)(hi:IsPair s.heap TI (.ref i1) (.ref i2))(ho:IsPair s.heap TO a b)
  (st1:S1 k s.heap)(st2:S2 k s.heap)(l1:k<n1)(l2:k<n2)
  (q:∀ g tk x y,P1 k x->P2 k y->IsZip g z TI TO (rawInt s.heap.objs.size)->IsPair g TO x y->S1 (k+1) g->S2 (k+1) g->IsPair g s.heap.objs.size x y->g.objs.size=s.heap.objs.size+1 ->
   (∀ c o,c≠z->c≠TO->c≠i1->c≠i2->s.heap.get? c=some o->g.get? c=some o)->Q (.ref s.heap.objs.size) { s with heap:=g,toks:=tk }) :
  wpAny (model prog w) A (Builtin.«zip.__next__» ⟨[.ref z],[]⟩) (λ fin s'=>∃ v,fin=.done (.ret v)/\Q v s') E s:=by
 show wpAny _ _ (field (.ref z) 2>>=_) _ _ _;refine oAa<|wpAny_field hz rfl (x:=.bool false) rfl ?_;show wpAny _ _ (field (.ref z) 3>>=_) _ _ _;refine oAa<|wpAny_field hz rfl (x:=.ref TI) rfl<|oAa<|wpAny_seqItems hi rfl ?_;show wpAny _ _ (Builtin.SmallTypes.ownedTupleIsFree (.ref z)>>=_) _ _ _;refine oAa ?_;unfold Builtin.SmallTypes.ownedTupleIsFree;refine oAa<|wpAny_field hz rfl (x:=.none) rfl<|oAb ?_;simp only[if_true];refine oAa<|wpAny_rule<|oAa<|wpAny_field hz rfl (x:=.ref TO) rfl ?_;refine oAa<|wpAny_setField_rec hz (by simp) λ g1 y1 m1=>?_;replace y1:IsZip g1 z TI TO .ellipsis:=y1;refine oAa ?_;simp only[List.zipIdx_cons,List.zipIdx_nil,List.forIn_cons,List.forIn_nil];refine oAa<|oAa<|wpAny_onRaise ?_;show wpAny _ _ (Builtin.SmallTypes.nextOf (.ref i1)>>=_) _ _ _;have zi1:i1≠z:=Yx Z.a1 Z.z1;have zi2:i2≠z:=Yx Z.a2 Z.z2;have oi1:TO≠i1:=(Yx Z.a1 Z.o1).symm;have oi2:TO≠i2:=(Yx Z.a2 Z.o2).symm;have i12:i1≠i2:=λ e=>Z.x1 (e ▸ Z.a2);refine oAa<|D1.item k _ _ _ l1 (Draws.at D1 st1 m1.extBut Z.z1) λ x g2 tk2 p1 u2 m2=>oAb ?_;have v2:IsPair g2 TO a b:=m2.extBut _ _ oi1<|m1.extBut _ _ Z.oz ho;refine oAa<|wpAny_seqItems v2 rfl<|oAa<|wpAny_updateSeq_pair v2 λ g3 v3 m3=>?_;replace v3:IsPair g3 TO x b:=v3;refine oAa<|wpAny_letGo<|oAb<|oAa<|oAa<|wpAny_onRaise ?_;show wpAny _ _ (Builtin.SmallTypes.nextOf (.ref i2)>>=_) _ _ _;refine oAa<|D2.item k _ _ _ l2 (Draws.at D2 (Draws.at D2 (Draws.at D2 st2 m1.extBut Z.z2) m2.extBut Z.x1) m3.extBut Z.o2) λ y g4 tk4 p2 u4 m4=>oAb ?_;have v4:IsPair g4 TO x b:=m4.extBut _ _ oi2 v3;refine oAa<|wpAny_seqItems v4 rfl<|oAa<|wpAny_updateSeq_pair v4 λ g5 v5 m5=>?_;replace v5:IsPair g5 TO x y:=v5;refine oAa<|wpAny_letGo<|oAb<|oAb<|oAa<|wpAny_seqItems v5 rfl<|oAa<|wpAny_newTuple ?_;have ez:g5.objs.size=s.heap.objs.size:=by rw[m5.1,m4.1,m3.1,m2.1,m1.1]
 have y5:IsZip g5 z TI TO .ellipsis:=m5.extBut _ _ Z.oz.symm<|m4.extBut _ _ zi2.symm<|m3.extBut _ _ Z.oz.symm<|m2.extBut _ _ zi1.symm y1;have k5:∀ c o,c≠z->c≠TO->c≠i1->c≠i2->s.heap.get? c=some o->g5.get? c=some o:=λ c o c1 c2 c3 c4 e=>m5.extBut _ _ c2<|m4.extBut _ _ c4<|m3.extBut _ _ c2<|m2.extBut _ _ c3<|m1.extBut _ _ c1 e;have u5:S1 (k+1) g5:=Draws.at D1 (Draws.at D1 (Draws.at D1 u2 m3.extBut Z.o1) m4.extBut Z.x2) m5.extBut Z.o1;have t5:S2 (k+1) g5:=Draws.at D2 u4 m5.extBut Z.o2;have zl:z<g5.objs.size:=oAf y5;show wpAny _ _ (Builtin.SmallTypes.ownedTupleHandOut (.ref z) (.ref g5.objs.size)>>=_) _ _ _;refine oAa ?_;unfold Builtin.SmallTypes.ownedTupleHandOut;have y6:IsZip (g5.push { cls:=.type "tuple",data:=.seq #[x,y] }) z TI TO .ellipsis:=oAd _ y5;refine oAa<|wpAny_setField_rec y6 (by simp) λ g7 y7 m7=>?_;replace y7:IsZip g7 z TI TO (rawInt g5.objs.size):=y7;refine wpAny_setField_rec y7 (by simp) λ g8 y8 m8=>?_;replace y8:IsZip g8 z TI TO (rawInt g5.objs.size):=y8;have up:∀ c o,c≠z->g5.get? c=some o->g8.get? c=some o:=λ c o c1 e=>m8.extBut _ _ c1<|m7.extBut _ _ c1<|oAd _ e;have T8:IsPair g8 g5.objs.size x y:=m8.extBut _ _ (ne_of_gt zl)<|m7.extBut _ _ (ne_of_gt zl)<|oAe _ rfl;have s8:g8.objs.size=g5.objs.size+1:=by rw[m8.1,m7.1,size_push]
 rw[ez] at y8 T8 s8;refine oAb ⟨_,rfl,?_⟩;show Q (.ref g5.objs.size) _;rw[ez];exact q g8 tk4 x y p1 p2 y8 (up _ _ Z.oz v5) (D1.frame _ _ _ u5 λ c hc o e=>up c o (Yx hc Z.z1) e) (D2.frame _ _ _ t5 λ c hc o e=>up c o (Yx hc Z.z2) e) T8 s8 λ c o c1 c2 c3 c4 e=>up c o c1<|k5 c o c1 c2 c3 c4 e
theorem zipEnd(Z:Zap z TI TO i1 i2 f1 f2)(D1:Draws prog w A i1 f1 n1 P1 S1)(D2:Draws prog w A i2 f2 n2 P2 S2){k:Nat}{a b:Value}{Q:Fin->Shared->Prop}(hz:IsZip s.heap z TI TO .none)(hi:IsPair s.heap TI (.ref i1) (.ref i2))(ho:IsPair s.heap TO a b)
  (st1:S1 k s.heap)(st2:S2 k s.heap)(l:k=n1\/(k<n1/\k=n2))
  (q:∀ g e tk,(∀ c o,c≠z->c≠TO->c≠i1->c≠i2->s.heap.get? c=some o->g.get? c=some o)->(∃ o,g.get? e=some o/\o.cls=.type "StopIteration")->E (.ref e) { s with heap:=g,toks:=tk }) :
  wpAny (model prog w) A (Builtin.«zip.__next__» ⟨[.ref z],[]⟩) Q E s:=by
 show wpAny _ _ (field (.ref z) 2>>=_) _ _ _;refine oAa<|wpAny_field hz rfl (x:=.bool false) rfl ?_;show wpAny _ _ (field (.ref z) 3>>=_) _ _ _;refine oAa<|wpAny_field hz rfl (x:=.ref TI) rfl<|oAa<|wpAny_seqItems hi rfl ?_;show wpAny _ _ (Builtin.SmallTypes.ownedTupleIsFree (.ref z)>>=_) _ _ _;refine oAa ?_;unfold Builtin.SmallTypes.ownedTupleIsFree;refine oAa<|wpAny_field hz rfl (x:=.none) rfl<|oAb ?_;simp only[if_true];refine oAa<|wpAny_rule<|oAa<|wpAny_field hz rfl (x:=.ref TO) rfl ?_;refine oAa<|wpAny_setField_rec hz (by simp) λ g1 y1 m1=>?_;replace y1:IsZip g1 z TI TO .ellipsis:=y1;refine oAa ?_;simp only[List.zipIdx_cons,List.zipIdx_nil,List.forIn_cons,List.forIn_nil];refine oAa<|oAa<|wpAny_onRaise ?_;show wpAny _ _ (Builtin.SmallTypes.nextOf (.ref i1)>>=_) _ _ _;have zi1:i1≠z:=Yx Z.a1 Z.z1;have zi2:i2≠z:=Yx Z.a2 Z.z2;have oi1:TO≠i1:=(Yx Z.a1 Z.o1).symm
 rcases l with l | ⟨l1,l2⟩
 ·subst l;refine oAa<|D1.done _ _ _ (Draws.at D1 st1 m1.extBut Z.z1) λ g2 e m2 he=>?_;obtain⟨oe,hoe,hce⟩:=he;have y2:IsZip g2 z TI TO .ellipsis:=m2 _ _ zi1.symm y1;have hez:e≠z:=λ x=>by subst x;rw[y2] at hoe;cases hoe;simp at hce
  refine wpAny_setField_rec y2 (by simp) λ g3 _ m3=>q g3 e s.toks (λ c o c1 _ c3 _ x=>m3.extBut _ _ c1<|m2 _ _ c3<|m1.extBut _ _ c1 x) ⟨oe,m3.extBut _ _ hez hoe,hce⟩
 ·subst l2;refine oAa<|D1.item k _ _ _ l1 (Draws.at D1 st1 m1.extBut Z.z1) λ x g2 tk2 p1 u2 m2=>oAb ?_;have v2:IsPair g2 TO a b:=m2.extBut _ _ oi1<|m1.extBut _ _ Z.oz ho;refine oAa<|wpAny_seqItems v2 rfl<|oAa<|wpAny_updateSeq_pair v2 λ g3 v3 m3=>?_;refine oAa<|wpAny_letGo<|oAb<|oAa<|oAa<|wpAny_onRaise ?_;show wpAny _ _ (Builtin.SmallTypes.nextOf (.ref i2)>>=_) _ _ _;refine oAa<|D2.done _ _ _ (Draws.at D2 (Draws.at D2 (Draws.at D2 st2 m1.extBut Z.z2) m2.extBut Z.x1) m3.extBut Z.o2) λ g4 e m4 he=>?_;obtain⟨oe,hoe,hce⟩:=he;have y4:IsZip g4 z TI TO .ellipsis:=m4 _ _ zi2.symm<|m3.extBut _ _ Z.oz.symm<|m2.extBut _ _ zi1.symm y1;have hez:e≠z:=λ x=>by subst x;rw[y4] at hoe;cases hoe;simp at hce
  refine wpAny_setField_rec y4 (by simp) λ g5 _ m5=>q g5 e tk2 (λ c o c1 c2 c3 c4 x=>m5.extBut _ _ c1<|m4 _ _ c4<|m3.extBut _ _ c2<|m2.extBut _ _ c3<|m1.extBut _ _ c1 x) ⟨oe,m5.extBut _ _ hez hoe,hce⟩
theorem walksZip(Z:Zap z TI TO i1 i2 f1 f2)(D1:Draws prog w A.in1 i1 f1 n1 P1 S1)(D2:Draws prog w A.in1 i2 f2 n2 P2 S2) :
  WalksT prog w A z (z::TI::TO::(f1++f2)) [z,TO,i1,i2] (min n1 n2) (λ i vals=>∃ x y,P1 i x/\P2 i y/\vals=#[x,y])
   (λ i h=>IsZip h z TI TO .none/\IsPair h TI (.ref i1) (.ref i2)/\(∃ a b,IsPair h TO a b)/\S1 i h/\S2 i h)
   (λ i T h=>IsZip h z TI TO (rawInt T)/\IsPair h TI (.ref i1) (.ref i2)/\(∃ a b,IsPair h TO a b)/\S1 (i+1) h/\S2 (i+1) h/\T≠z/\T≠TO/\T≠i1/\T≠i2) where
 sub:=λ c hc=>by
  simp only[mem_cons,not_mem_nil,or_false] at hc
  rcases hc with rfl | rfl | rfl | rfl<;>simp[Z.a1,Z.a2]
 frame:=λ i h h' hst k=>by
  obtain⟨a1,a2,⟨x,y,a3⟩,a4,a5⟩:=hst;exact⟨k z (by simp) _ a1,k TI (by simp) _ a2,⟨x,y,k TO (by simp) _ a3⟩,D1.frame _ _ _ a4 λ b hb o e=>k b (by simp[hb]) o e,D2.frame _ _ _ a5 λ b hb o e=>k b (by simp[hb]) o e⟩
 item:=λ i s Q E hi hst q=>by
  obtain⟨a1,a2,⟨x,y,a3⟩,a4,a5⟩:=hst;have hT:s.TypeIs (.ref z) "zip":=⟨_,a1,rfl⟩;unfold pyNext;refine oAa<|wpAny_attempt<|wpAny_callSpecial?_slot (name:=Str.ofString "__next__") hT PySem.F.slot_zip_next<|wpAny_call_entry PySem.F.slot_zip_next hT PySem.F.entry_zip_next (zipItem Z D1 D2 a1 a2 a3 a4 a5 (by lia) (by lia) λ g tk u v p1 p2 b1 b2 b3 b4 b5 b6 b7=>oAb ?_)<|PySem.F.args_zip_next_1 _;have lt:∀ {c o},s.heap.get? c=some o->s.heap.objs.size≠c:=λ e=>ne_of_gt<|oAf e;obtain⟨o1,e1⟩:=D1.live _ _ a4;obtain⟨o2,e2⟩:=D2.live _ _ a5;exact q s.heap.objs.size #[u,v] g tk ⟨u,v,p1,p2,rfl⟩ (oAl _) ⟨_,b5,rfl,_,rfl⟩ ⟨b1,b7 _ _ Z.tz Z.tO Z.t1 Z.t2 a2,⟨_,_,b2⟩,b3,b4,lt a1,lt a3,lt e1,lt e2⟩
   λ c o hc e=>b7 c o (λ x=>hc<|by simp[x]) (λ x=>hc<|by simp[x]) (λ x=>hc<|by simp[x]) (λ x=>hc<|by simp[x]) e
 go:=λ elts k pos i T s Q E hm q=>by
  obtain⟨a1,a2,⟨x,y,a3⟩,a4,a5,_⟩:=hm;exact wpAny_letOwnedTupleGo_zip a1 λ g b1 m=>q g ⟨b1,m.extBut _ _ Z.tz a2,⟨x,y,m.extBut _ _ Z.oz a3⟩,Draws.at D1 a4 m.extBut Z.z1,Draws.at D2 a5 m.extBut Z.z2⟩ λ c o hc e=>m.extBut _ _ (λ x=>hc<|by simp[x]) e
 apart:=λ i T h hm hT=>by
  obtain⟨_,_,_,_,_,t1,t2,t3,t4⟩:=hm;simp only[mem_cons,not_mem_nil,or_false] at hT
  rcases hT with h | h | h | h
  ·exact t1 h
  ·exact t2 h
  ·exact t3 h
  ·exact t4 h
 done:=λ s Q E hst q=>by
  obtain⟨a1,a2,⟨x,y,a3⟩,a4,a5⟩:=hst;have hT:s.TypeIs (.ref z) "zip":=⟨_,a1,rfl⟩;unfold pyNext;refine oAa<|wpAny_attempt<|wpAny_callSpecial?_slot (name:=Str.ofString "__next__") hT PySem.F.slot_zip_next<|wpAny_call_entry PySem.F.slot_zip_next hT PySem.F.entry_zip_next (zipEnd Z D1 D2 a1 a2 a3 a4 a5 (by lia) λ g e tk hk he=>?_)<|PySem.F.args_zip_next_1 _;obtain⟨o,ho,hc⟩:=he;refine oAa<|wpAny_isInstance (T:="StopIteration") (b:=true) ⟨o,ho,hc⟩ isSubtype_stop<|oAb<|q _ tk λ c o hc e=>?_;exact hk c o (λ x=>hc<|by simp[x]) (λ x=>hc<|by simp[x]) (λ x=>hc<|by simp[x]) (λ x=>hc<|by simp[x]) e
 self:=λ i s Q E hst q=>wpAny_pyIter_zip hst.1 q
end
noncomputable def ItO(k:Bool)(l:Addr):Obj:={ cls:=.type (if k then "tuple_iterator" else "list_iterator"),data:=.fields #[.ref l,.int 0 0] }
def Sq(k:Bool)(h:Heap)(l:Addr)(its:Array Value):Prop:=match k with
 |true=>h.IsTuple l its
 |false=>h.IsList l its
def It(k:Bool)(h:Heap)(j l:Addr)(i:Nat):Prop:=match k with
 |true=>h.IsTupleIter j l i
 |false=>h.IsListIter j l i
theorem Sq.keep(a:Sq k h l its)(e:∀ o,h.get? l=some o->h'.get? l=some o):Sq k h' l its:=by
 cases k<;>(obtain⟨o,x,r⟩:=a;exact⟨o,e o x,r⟩)
theorem Sq.lt(a:Sq k h l its):l<h.objs.size:=by
 cases k<;>(obtain⟨o,x,r⟩:=a;exact oAf x)
theorem drawsSq(hh:A.handled=none)(k:Bool)(j c:Addr)(hne:c≠j)(its:Array Value):Draws prog w A j [j,c] its.size (λ i v=>its[i]?=some v) (λ i h=>It k h j c i/\Sq k h c its):=by
 cases k with
 |true=>exact drawsTup hh j c hne its
 |false=>exact Draws.list hh j c hne its
section
variable {prog:Program}{w:World}{A:Around}{E:zVP}{s:Shared}
theorem iterSq{Q:zVP}(a:Sq k s.heap l its)(q:Q (.ref s.heap.objs.size) { s with heap:=s.heap.push (ItO k l) }):wpAny (model prog w) A (pyIter (.ref l)) Q E s:=by
 cases k with
 |true=>exact wpAny_pyIter_tuple a q
 |false=>exact wpAny_pyIter_list a q
theorem it0{k:Bool}{h:Heap}{l:Addr}:It k (h.push (ItO k l)) h.objs.size l 0:=by
 cases k<;>exact⟨_,oAe _ rfl,rfl,rfl⟩
theorem It.keep(a:It k h j l i)(e:∀ o,h.get? j=some o->h'.get? j=some o):It k h' j l i:=by
 cases k<;>(obtain⟨o,x,r⟩:=a;exact⟨o,e o x,r⟩)
end
noncomputable def zh(h:Heap)(k1 k2:Bool)(l1 l2:Addr):Heap:=
 ((((h.push (ItO k1 l1)).push (ItO k2 l2)).push { cls:=.type "tuple",data:=.seq #[.ref h.objs.size,.ref (h.push (ItO k1 l1)).objs.size] }).push { cls:=.type "tuple",data:=.seq #[.none,.none] }).push
  { cls:=.type "zip",data:=.fields #[.none,.bool false,.bool false,.ref ((h.push (ItO k1 l1)).push (ItO k2 l2)).objs.size,.ref (((h.push (ItO k1 l1)).push (ItO k2 l2)).push { cls:=.type "tuple",data:=.seq #[.ref h.objs.size,.ref (h.push (ItO k1 l1)).objs.size] }).objs.size] }
theorem zipNew(k1 k2:Bool)(l1 l2:Addr)(xs ys:Array Value):Meets (Builtin.«zip.__new__» ⟨[.type "zip",.ref l1,.ref l2],[]⟩) (λ _ R s=>Sq k1 s.heap l1 xs/\Sq k2 s.heap l2 ys /\
      R (.ok (.ret (.ref (s.heap.objs.size+4)))) { s with heap:=zh s.heap k1 k2 l1 l2 }):=
  .of_wp λ prog w A R s h=>by
    obtain⟨hp,g,d,tk,os⟩:=s;obtain⟨b1,b2,h⟩:=h;have hsub:=sub_zip;have c1:Sq k1 (Shared.heap ⟨hp,g,d,tk,os⟩) l1 xs:=b1;have c2:Sq k2 (Shared.heap ⟨hp.push<|ItO k1 l1,g,d,tk,os⟩) l2 ys:=b2.keep λ o e=>oAd _ e
    wp_walk using iterSq c1,iterSq c2
    refine⟨_,rfl,?_⟩;have e:∀ (h:Heap) (o:Obj),(h.push o).objs.size=h.objs.size+1:=λ h o=>size_push ..;simp only[zh,e] at h ⊢;exact h
section
variable {prog:Program}{w:World}{A:Around}{E:zVP}{s:Shared}
theorem callZip{k1 k2:Bool}{l1 l2:Addr}{xs ys:Array Value}{Q:zVP}(a1:Sq k1 s.heap l1 xs)(a2:Sq k2 s.heap l2 ys)
  (q:∀ g,IsZip g (s.heap.objs.size+4) (s.heap.objs.size+2) (s.heap.objs.size+3) .none->IsPair g (s.heap.objs.size+2) (.ref s.heap.objs.size) (.ref (s.heap.objs.size+1))->IsPair g (s.heap.objs.size+3) .none .none ->
   It k1 g s.heap.objs.size l1 0->It k2 g (s.heap.objs.size+1) l2 0->(∀ c o,s.heap.get? c=some o->g.get? c=some o)->Q (.ref (s.heap.objs.size+4)) { s with heap:=g }) :
  wpAny (model prog w) A (call (.type "zip") [.ref l1,.ref l2]) Q E s:=by
 refine callType_new PySem.F.called_zip (by decide) (PySem.F.typeCall_zip_2 _ _) (PySem.F.newCall_zip_2 _ _) (λ obj=>PySem.F.args_object_init_3 obj _ _) PySem.F.entry_zip_new (zipNew k1 k2 l1 l2 xs ys) ⟨a1,a2,?_⟩;have e:∀ (h:Heap) (o:Obj),(h.push o).objs.size=h.objs.size+1:=λ h o=>size_push ..;have up:∀ c o,s.heap.get? c=some o->(zh s.heap k1 k2 l1 l2).get? c=some o:=λ c o x=>oAd _<|oAd _<|oAd _<|oAd _<|oAd _ x;have b5:(zh s.heap k1 k2 l1 l2).get? (s.heap.objs.size+4)=some { cls:=.type "zip",data:=.fields #[.none,.bool false,.bool false,.ref<|s.heap.objs.size+2,.ref<|s.heap.objs.size+3] }:=by
  unfold zh;simp only[e]
  have:=oAe ((((s.heap.push<|ItO k1 l1).push<|ItO k2 l2).push { cls:=.type "tuple",data:=.seq #[.ref s.heap.objs.size,.ref<|s.heap.objs.size+1] }).push { cls:=.type "tuple",data:=.seq #[.none,.none] }) (o:={ cls:=.type "zip",data:=.fields #[.none,.bool false,.bool false,.ref<|s.heap.objs.size+2,.ref<|s.heap.objs.size+3] }) rfl;simp only[e] at this;exact this
 have b4:(zh s.heap k1 k2 l1 l2).get? (s.heap.objs.size+3)=some { cls:=.type "tuple",data:=.seq #[.none,.none] }:=by
  unfold zh;simp only[e]
  refine oAd _ ?_;have:=oAe (((s.heap.push<|ItO k1 l1).push<|ItO k2 l2).push { cls:=.type "tuple",data:=.seq #[.ref s.heap.objs.size,.ref<|s.heap.objs.size+1] }) (o:={ cls:=.type "tuple",data:=.seq #[.none,.none] }) rfl;simp only[e] at this;exact this
 have b3:(zh s.heap k1 k2 l1 l2).get? (s.heap.objs.size+2)=some { cls:=.type "tuple",data:=.seq #[.ref s.heap.objs.size,.ref<|s.heap.objs.size+1] }:=by
  unfold zh;simp only[e]
  refine oAd _<|oAd _ ?_;have:=oAe ((s.heap.push<|ItO k1 l1).push<|ItO k2 l2) (o:={ cls:=.type "tuple",data:=.seq #[.ref s.heap.objs.size,.ref<|s.heap.objs.size+1] }) rfl;simp only[e] at this;exact this
 have b2:It k2 (zh s.heap k1 k2 l1 l2) (s.heap.objs.size+1) l2 0:=by
  have:=it0 (k:=k2) (h:=s.heap.push<|ItO k1 l1) (l:=l2);rw[e] at this;exact this.keep λ o x=>oAd _<|oAd _<|oAd _ x
 have b1:It k1 (zh s.heap k1 k2 l1 l2) s.heap.objs.size l1 0:=(it0 (k:=k1) (h:=s.heap) (l:=l1)).keep λ o x=>oAd _<|oAd _<|oAd _<|oAd _ x;exact⟨⟨_,b5,rfl⟩,q _ b5 b3 b4 b1 b2 up⟩
end
end PFZ
namespace PF
open PySem PySem.Spec PyProof.Rows L2
section
variable {X:Cx}{T:Tab}{W k:Nat}{pj:zPn}{σ:St}{H:Hp}{s:Shared}{mu:List Addr}{S:Sto}{c:Cl}
theorem Vs{h':Heap}{ch:List Addr}{t':Nat}(I:Inv X pj σ H s)(hf:∀ b∈ch,FpOk X pj H b)(k:∀ b o,b∉ch->s.heap.get? b=some o->h'.get? b=some o):Inv X pj σ H { s with heap:=h',toks:=t' }:=by
 refine I.step (g':=s.gens) (d':=s.drawn) (ch:=ch) (λ b hb=>?_) (λ b o _ _ hc e _=>k b o hc e) (λ b o _ _ hc e _=>⟨o.slots,k b o hc e⟩) (λ _ _ _ _ n=>n)
  (λ b o hc e=>⟨o,k b o hc e⟩) (λ _ _ e=>e) (λ _ _ _ e=>e) (λ b ps e=>⟨#[],by rw[e];simp⟩) (λ m hm=>?_) (λ b u e=>?_) I.bare
 ·obtain⟨f0,f1,f2,f3,f4,f5⟩:=hf b hb;exact⟨f3,f1,f4,f5⟩
 ·obtain⟨o,es,ep,ho,r⟩:=hm;exact⟨o,es,ep,k _ o (λ z=>(hf _ z).2.1 rfl) ho,r⟩
 ·have nt:∀ c u,H c=some u->c∉ch:=λ c u e z=>by rw[(hf c z).1] at e;cases e
  refine(I.hok b u e).stay (λ c v hc q=>k c v ?_ q) (λ _ q=>q) λ _ _ q=>q
  rcases hc with z | z
  ·rw[z];exact nt b u e
  ·exact nt c _ z
theorem ZdV{h':Heap}{ch:List Addr}{t':Nat}{T:Addr}{xs:List V}(I:Inv X pj σ H s)(hf:∀ b∈ch,FpOk X pj H b)(k:∀ b o,b∉ch->s.heap.get? b=some o->h'.get? b=some o)(hT:s.heap.objs.size<=T)
  (new:Zr X.prog X.w (upd H T (.tup xs)) h' T (.tup xs)):Inv X pj σ (upd H T (.tup xs)) { s with heap:=h',toks:=t' }:=by
 have hn:H T=none:=I.hok.fresh hT;have old:∀ b o,s.heap.get? b=some o->b≠T:=λ b o e=>oAp<|oAo (oAf e) hT;refine I.step (g':=s.gens) (d':=s.drawn) (ch:=ch) (λ b hb=>?_) (λ b o _ _ hc e _=>k b o hc e) (λ b o _ _ hc e _=>⟨o.slots,k b o hc e⟩) (λ b o _ e n=>by rw[Zf<|old b o e];exact n)
  (λ b o hc e=>⟨o,k b o hc e⟩) (λ b xs e=>by rw[Zf<|Zl e hn];exact e) (λ b o u e=>by rw[Zf<|Zl e hn];exact e) (λ b ps e=>⟨#[],by rw[Zf<|Zl e hn,e];simp⟩) (λ m hm=>?_) (λ b u e=>?_) I.bare
 ·obtain⟨f0,f1,f2,f3,f4,f5⟩:=hf b hb;exact⟨f3,f1,f4,f5⟩
 ·obtain⟨o,es,ep,ho,r⟩:=hm;exact⟨o,es,ep,k _ o (λ z=>(hf _ z).2.1 rfl) ho,r⟩
 ·by_cases hb:b=T
  ·subst hb;rw[Zo] at e;cases e;exact new
  ·rw[Zf hb] at e;have nt:∀ c u,H c=some u->c∉ch:=λ c u e z=>by rw[(hf c z).1] at e;cases e
   refine(I.hok b u e).stay (λ c v hc q=>k c v ?_ q) (λ c q=>by rw[Zf<|Zl q hn];exact q) λ c xs q=>by rw[Zf<|Zl q hn];exact q
   rcases hc with z | z
   ·rw[z];exact nt b u e
   ·exact nt c _ z
def SqK(k:Bool)(K:Frag)(H:Hp)(l:Addr)(xs:List V):Prop:=if k then SqT K H l xs else SqL K H l xs
theorem Inv.sq{k:Bool}{l:Addr}{xs:List V}(I:Inv X pj σ H s)(h:SqK k X.K H l xs):∃ its:List Value,Vals xs its/\PFZ.Sq k s.heap l its.toArray:=by
 cases k with
 |true=>obtain⟨its,r,p,_⟩:=I.tuple (show SqT X.K H l xs from h);exact⟨its,r,p⟩
 |false=>obtain⟨its,r,p,_⟩:=I.list (show SqL X.K H l xs from h);exact⟨its,r,p.isList⟩
theorem Inv.sq_inj{k:Bool}{l:Addr}{xs ys:List V}(I:Inv X pj σ H s)(h:SqK k X.K H l xs)(h':SqK k X.K H l ys):xs=ys:=by
 cases k with
 |true=>exact I.tuple_inj (show SqT X.K H l xs from h) h'
 |false=>exact I.list_inj (show SqL X.K H l xs from h) h'
theorem zG{K:Frag}{d:D}{ds:List D}{v:V}(h:vals d=some ds)(r:RD K mu H d v):∃ k a xs,v=.ref a/\SqK k K H a xs/\RDs K mu H ds xs/\(d=.lst ds/\k=false\/d=.tup ds/\k=true):=by
 cases d with
 | lst es=>
  cases h
  obtain⟨a,xs,e,q,r⟩:=r.lst_at;exact⟨false,a,xs,e,q,r,.inl ⟨rfl,rfl⟩⟩
 | tup es=>
  cases h
  obtain⟨a,xs,e,q,r⟩:=r.tup_at;exact⟨true,a,xs,e,q,r,.inr ⟨rfl,rfl⟩⟩
 |_=>cases h
theorem zH{K:Frag}{d:D}{ds:List D}{a:Addr}{k:Bool}(h:d=.lst ds/\k=false\/d=.tup ds/\k=true)(r:RD K mu H d (.ref a)):∃ xs,SqK k K H a xs/\RDs K mu H ds xs:=by
 rcases h with ⟨rfl,rfl⟩ | ⟨rfl,rfl⟩
 ·obtain⟨b,xs,e,q,r⟩:=r.lst_at;cases e;exact⟨xs,q,r⟩
 ·obtain⟨b,xs,e,q,r⟩:=r.tup_at;cases e;exact⟨xs,q,r⟩
noncomputable def Itz(K:Frag)(k1 k2:Bool)(l1 l2:Addr):It:=
  ⟨λ i H=>∃ xs ys x y,SqK k1 K H l1 xs/\SqK k2 K H l2 ys/\xs[i]?=some x/\ys[i]?=some y,
   λ i H x H'=>∃ p u v,(∀ xs,SqK k1 K H l1 xs->xs[i]?=some u)/\(∀ ys,SqK k2 K H l2 ys->ys[i]?=some v)/\H p=none/\H'=upd H p (.tup [u,v])/\x=.ref p,
   λ i H=>∃ xs ys,SqK k1 K H l1 xs/\SqK k2 K H l2 ys/\min xs.length ys.length=i⟩
theorem Zcu{P:Program}{w:World}{K:Frag}{es:List Expr}{j:Nat}{pos:Pos}(k1 k2:Bool)(l1 l2 z TI TO i1 i2:Addr)(h1:l1≠i1)(h2:l2≠i2)(Z:PFZ.Zap z TI TO i1 i2 [i1,l1] [i2,l2]) :
  Turn P w K (.Tuple es j pos) (Itz K k1 k2 l1 l2) [z,TO,TI,i1,i2] z (λ i h=>IsZip h z TI TO .none/\IsPair h TI (.ref i1) (.ref i2)/\(∃ a b,IsPair h TO a b)/\PFZ.It k1 h i1 l1 i/\PFZ.It k2 h i2 l2 i) where
 mem:=by simp
 obj:=λ i h st b hb=>by
  obtain⟨a1,a2,⟨x,y,a3⟩,a4,a5⟩:=st;simp only[mem_cons,not_mem_nil,or_false] at hb
  rcases hb with rfl | rfl | rfl | rfl | rfl
  ·exact⟨_,a1,λ v z=>by cases z⟩
  ·exact⟨_,a3,λ v z=>by cases z⟩
  ·exact⟨_,a2,λ v z=>by cases z⟩
  ·cases k1<;>(obtain⟨o,e,c,d⟩:=a4;exact⟨o,e,λ v z=>by rw[d] at z;cases z⟩)
  ·cases k2<;>(obtain⟨o,e,c,d⟩:=a5;exact⟨o,e,λ v z=>by rw[d] at z;cases z⟩)
 keep:=λ i h h' st k=>by
  obtain⟨a1,a2,⟨x,y,a3⟩,a4,a5⟩:=st;exact⟨k z (by simp) _ a1,k TI (by simp) _ a2,⟨x,y,k TO (by simp) _ a3⟩,a4.keep λ o x=>k i1 (by simp) o x,a5.keep λ o x=>k i2 (by simp) o x⟩
 item:=by
  intro X hP hw hK hc i pj s σ H E I hf st hg;subst hP hw hK;obtain⟨xs,ys,x,y,q1,q2,hx,hy⟩:=hg;obtain⟨its1,rv1,p1⟩:=Inv.sq I q1;obtain⟨its2,rv2,p2⟩:=Inv.sq I q2;obtain⟨u,hu,ru⟩:=rv1.get hx;obtain⟨v,hv,rv⟩:=rv2.get hy;have W:=PFZ.walksZip (prog:=X.prog) (w:=X.w) (A:=X.A) Z (PFZ.drawsSq (A:=X.A.in1) (I.ok.hd hc) k1 i1 l1 h1 its1.toArray)<|PFZ.drawsSq (A:=X.A.in1) (I.ok.hd hc) k2 i2 l2 h2 its2.toArray;have hi:i<min its1.toArray.size its2.toArray.size:=by
   have a:=(List.getElem?_eq_some_iff.1 hu).1;have b:=(List.getElem?_eq_some_iff.1 hv).1;simp only[size_toArray];omega
  obtain⟨a1,a2,a3,a4,a5⟩:=st;refine W.item i s _ _ hi ⟨a1,a2,a3,⟨a4,p1⟩,⟨a5,p2⟩⟩ λ T vals h' tk hP hT hTup hM hk=>?_;obtain⟨u',v',hu',hv',rfl⟩:=hP;have eu:u'=u:=by
   have z1:its1.toArray[i]?=some u:=by simpa using hu
   rw[z1] at hu';exact(oAk hu').symm
  have ev:v'=v:=by
   have z1:its2.toArray[i]?=some v:=by simpa using hv
   rw[z1] at hv';exact(oAk hv').symm
  subst eu ev;refine⟨.ref T,rfl,?_⟩;refine W.go es j pos i T { s with heap:=h',toks:=tk } _ _ hM λ h3 st3 hk3=>?_;have hTw:T∉[z,TO,i1,i2]:=W.apart i T _ hM;obtain⟨oT,hoT,hcT,nT,hdT⟩:=hTup;have sub:∀ b∈[z,TO,i1,i2],b∈[z,TO,TI,i1,i2]:=λ b hb=>by
   simp only[mem_cons,not_mem_nil,or_false] at hb ⊢
   rcases hb with h | h | h | h<;>simp[h]
  have hf2:∀ b∈[z,TO,i1,i2],FpOk X pj H b:=λ b hb=>hf b<|sub b hb;have I1:Inv X pj σ (upd H T<|.tup [x,y]) { s with heap:=h3,toks:=tk }:=by
   refine ZdV (ch:=[z,TO,i1,i2]) I hf2 (λ b o hb q=>hk3 b o hb<|hk b o hb q) hT ?_;exact⟨by rw[ZF];show 2<=line;decide,[u',v'],.cons ru<|.cons rv .nil,⟨oT,hk3 T oT hTw hoT,hcT,nT,by simpa using hdT⟩⟩
  obtain⟨b1,b2,b3,b4,b5⟩:=st3;refine⟨.ref T,_,I1,rfl,⟨T,x,y,λ zs hz=>by rw[Inv.sq_inj I hz q1];exact hx,λ zs hz=>by rw[Inv.sq_inj I hz q2];exact hy,I.hok.fresh hT,rfl,rfl⟩,⟨b1,b2,b3,b4.1,b5.1⟩,λ b hb=>?_⟩
  rw[Zf]
  ·exact(hf b hb).1
  ·intro e;subst e;have hTI:b≠TI:=λ e=>by
    have h9:=oAf a2;rw[<- e] at h9;exact oAr _<|oAo h9 hT
   simp only[mem_cons,not_mem_nil,or_false] at hb hTw
   rcases hb with h | h | h | h | h
   ·exact hTw<|.inl h
   ·exact hTw<|.inr<|.inl h
   ·exact hTI h
   ·exact hTw<|.inr<|.inr<|.inl h
   ·exact hTw<|.inr<|.inr<|.inr h
 done:=by
  intro X hP hw hK hc i pj s σ H E I hf st hg;subst hP hw hK;obtain⟨xs,ys,q1,q2,hx⟩:=hg;obtain⟨its1,rv1,p1⟩:=Inv.sq I q1;obtain⟨its2,rv2,p2⟩:=Inv.sq I q2;have W:=PFZ.walksZip (prog:=X.prog) (w:=X.w) (A:=X.A) Z (PFZ.drawsSq (A:=X.A.in1) (I.ok.hd hc) k1 i1 l1 h1 its1.toArray)<|PFZ.drawsSq (A:=X.A.in1) (I.ok.hd hc) k2 i2 l2 h2 its2.toArray;have e1:=rv1.length;have e2:=rv2.length;have hn:min its1.toArray.size its2.toArray.size=i:=by rw[size_toArray,size_toArray,<-e1,<-e2];exact hx
  obtain⟨a1,a2,a3,a4,a5⟩:=st;have sub:∀ b∈[z,TO,i1,i2],b∈[z,TO,TI,i1,i2]:=λ b hb=>by
   simp only[mem_cons,not_mem_nil,or_false] at hb ⊢
   rcases hb with h | h | h | h<;>simp[h]
  exact W.done s _ _ (by rw[hn];exact⟨a1,a2,a3,⟨a4,p1⟩,⟨a5,p2⟩⟩) λ h' tk hx'=>⟨rfl,Vs (t':=tk) (ch:=[z,TO,i1,i2]) I (λ b hb=>hf b<|sub b hb) λ b o hb q=>hx' b o hb q⟩
 self:=λ _ _ _ _ _ st h=>wpAny_pyIter_zip st.1 h
noncomputable def iZip(K:Frag)(ta tb:TE):TI:=λ σ H R=>ta σ H λ x H1=>tb σ H1 λ y H2=>∃ k1 k2 a b,x=.ref a/\y=.ref b/\(∃ xs,SqK k1 K H2 a xs)/\(∃ ys,SqK k2 K H2 b ys)/\R (Itz K k1 k2 a b) H2
theorem Zbl:bootBuiltins "zip"=some (.type "zip"):=by decide +kernel
theorem ZdW(h1:a<n)(h2:b<n):PFZ.Zap (n+4) (n+2) (n+3) n (n+1) [n,a] [n+1,b]:=by
 have nm:∀ {x y z:Nat},x≠y->x≠z->x∉[y,z]:=λ {x y z} a b=>by simp[a,b]
 exact⟨by simp,by simp,nm (by lia) (by lia),nm (by lia) (by lia),nm (by lia) (by lia),nm (by lia) (by lia),nm (by lia) (by lia),nm (by lia) (by lia),
  (by lia:(n+2:Nat)≠n+4),(by lia:(n+2:Nat)≠n+3),(by lia:(n+2:Nat)≠n),(by lia:(n+2:Nat)≠n+1),(by lia:(n+3:Nat)≠n+4)⟩
theorem Zfz{l m:Expr}{es:List Expr}{j:Nat}{tpos p pos:Pos}{ta tb:TE}(hg:Gl X "zip")(hm:X.mg "zip"=none)(hl:PE X l ta)(hr:PE X m tb)(hs:notStar l=true)(hs2:notStar m=true):PI X (.Tuple es j tpos) (.Call (.Name "zip" p) [l,m] [] pos) (iZip X.K ta tb):=by
 intro pj s σ H R I h;have arg:z5 ta (z5 tb tNil) σ H λ vs H1=>∃ k1 k2 a b,vs=[.ref a,.ref b]/\(∃ xs,SqK k1 X.K H1 a xs)/\(∃ ys,SqK k2 X.K H1 b ys)/\R (Itz X.K k1 k2 a b) H1:=by
  have e:(λ (x:V) (H1:Hp)=>tb σ H1 λ y H2=>∃ k1 k2 a b,[x,y]=[V.ref a,V.ref b]/\(∃ xs,SqK k1 X.K H2 a xs)/\(∃ ys,SqK k2 X.K H2 b ys)/\R (Itz X.K k1 k2 a b) H2) =
    λ (x:V) (H1:Hp)=>tb σ H1 λ y H2=>∃ k1 k2 a b,x=.ref a/\y=.ref b/\(∃ xs,SqK k1 X.K H2 a xs)/\(∃ ys,SqK k2 X.K H2 b ys)/\R (Itz X.K k1 k2 a b) H2:=by
   funext x H1
   congr 1
   funext y H2
   simp[and_assoc]
  have h':=h;unfold iZip at h';rw[<- e] at h';exact h'
 refine Call_<|YK I hg hm Zbl<|PyProof.Rows.callWith_type1 (thn (Ys hl (Ys hr JH<|Zx hs2) (Zx hs) pos pj s σ H _ I arg) λ us s1 ⟨vs,H1,I1,r1,q1⟩=>?_) (Zx hs)<|Z0 (by simp[hs2]);obtain⟨k1,k2,a,b,rfl,⟨xs,hq1⟩,⟨ys,hq2⟩,q⟩:=q1;obtain⟨u,v,rfl,ru,rv⟩:=vals2 r1;cases ru;cases rv
 obtain⟨its1,_,p1⟩:=Inv.sq I1 hq1;obtain⟨its2,_,p2⟩:=Inv.sq I1 hq2;have l1:=p1.lt;have l2:=p2.lt;refine PFZ.callZip p1 p2 λ h' y1 y2 y3 y4 y5 hk=>?_;have I2:Inv X pj σ H1 { s1 with heap:=h' }:=I1.kept (t':=s1.toks) hk;generalize hn:s1.heap.objs.size=n at *;refine wpAny_pyIter_zip y1 ?_;have Z:PFZ.Zap (n+4) (n+2) (n+3) n (n+1) [n,a] [n+1,b]:=ZdW l1 l2;refine⟨_,[n+4,n+3,n+2,n,n+1],_,_,H1,rfl,I2,Zcu k1 k2 a b (n+4) (n+2) (n+3) n (n+1) (oAp l1) (oAp<|Nat.lt_succ_of_lt l2) Z,⟨y1,y2,⟨_,_,y3⟩,y4,y5⟩,λ b hb=>?_,q⟩;have hb':s1.heap.objs.size<=b:=by
  rw[hn];simp only[mem_cons,not_mem_nil,or_false] at hb
  rcases hb with h | h | h | h | h<;>(rw[h];first | exact oAl _ | exact Nat.le_add_right _ _)
 exact I1.fpOk hb'<|I1.hok.fresh hb'
def Sr.le(r:Sr)(i:Nat):Prop:=match r with
 |.vs ds=>i<=ds.length
 |.rf _=>True
def Src(K:Frag)(J:It)(mu:List Addr)(H:Hp)(r:Sr):Prop:=
 ∀ (mu1:List Addr) (H1:Hp) (S1:Sto),Ext mu H mu1 H1->WR K mu1 H1 S1->∀ i:Nat,Sr.le r i->∀ o,r.nx i S1=some o->match o with
  |some d=>Sr.le r (i+1)/\J.go i H1/\∀ x H2,J.yld i H1 x H2->Ext mu1 H1 mu1 H2/\WR K mu1 H2 S1/\RD K mu1 H2 d x
  |none=>J.stop i H1
inductive tI(K:Frag)(f:En->Sto->Option (Sr×Sto))(σ:St)(H:Hp)(R:It->Hp->Prop):Prop
 |mk (mu:List Addr) (env:En) (S:Sto) (he:ER K mu H env σ) (hw:WR K mu H S) (ds:Sr) (S':Sto) (hf:f env S=some (ds,S')) (k:∀ J mu' H',Ext mu H mu' H'->WR K mu' H' S'->Src K J mu' H' ds->R J H')
theorem JO{K:Frag}{J:It}{ds:List D}(h:∀ (mu1:List Addr) (H1:Hp) (S1:Sto),Ext mu H mu1 H1->WR K mu1 H1 S1->∀ i:Nat,(∀ d,ds[i]?=some d->J.go i H1/\∀ x H2,J.yld i H1 x H2->Ext mu1 H1 mu1 H2/\WR K mu1 H2 S1/\RD K mu1 H2 d x)/\(ds.length=i->J.stop i H1)):Src K J mu H (.vs ds):=by
 intro mu1 H1 S1 e w i hle o ho;obtain⟨a,b⟩:=h mu1 H1 S1 e w i;have ho':ds[i]?=o:=oAk ho;cases o with
 |some d=>exact⟨(List.getElem?_eq_some_iff.1 ho').1,a d ho'⟩
 | none=>
  refine b ?_;have h1:ds.length<=i:=List.getElem?_eq_none_iff.1 ho';have h2:i<=ds.length:=hle;lia
theorem src_list{K:Frag}{ds:List D}{a:Addr}(r:RD K mu H (.lst ds) (.ref a)):Src K (Itl K a) mu H (.vs ds):=by
 refine JO λ mu1 H1 S1 e w i=>?_;obtain⟨b,xs,eb,hq,rs⟩:=(RD.mono e _ _ r).lst_at;cases eb
 refine⟨λ d hd=>?_,λ hi=>⟨xs,hq,by rw[<- rs.length];lia⟩⟩
 obtain⟨x,h1,h2⟩:=rs.get hd;refine⟨⟨xs,x,hq,h1⟩,λ y H2 ⟨e2,hy⟩=>?_⟩;subst e2;have:y=x:=by have:=hy xs hq;rw[h1] at this;exact(oAk this).symm
 subst this;exact⟨.refl,w,h2⟩
theorem ZdX{K:Frag}{n:Nat}{a:Addr}(hm:mu[n]?=some a):Src K (Itl K a) mu H (.rf n):=by
 intro mu1 H1 S1 e w i _ o ho;have hm1:=e.get hm;obtain⟨ds,h1,h2⟩:=bM (show (items S1<|.ref n).map (λ ds=>ds[i]?)=some o from ho);obtain⟨b,xs,eb,hq,rs⟩:=ZZ (d:=.ref n) (v:=.ref a) w h1 (by dsimp only[RD];exact⟨a,hm1,rfl⟩)
 cases eb
 cases o with
 | none=>
  have:ds.length<=i:=List.getElem?_eq_none_iff.1 h2;exact⟨xs,hq,by rw[<- rs.length];exact this⟩
 | some d=>
  obtain⟨x,h3,h4⟩:=rs.get h2;refine⟨trivial,⟨xs,x,hq,h3⟩,λ y H2 ⟨e2,hy⟩=>?_⟩;subst e2;have:y=x:=by have:=hy xs hq;rw[h3] at this;exact(oAk this).symm
  subst this;exact⟨.refl,w,h4⟩
theorem ZdY{K:Frag}{ds:List D}{a:Addr}(r:RD K mu H (.tup ds) (.ref a)):Src K (Itt K a) mu H (.vs ds):=by
 refine JO λ mu1 H1 S1 e w i=>?_;obtain⟨b,xs,eb,hq,rs⟩:=(RD.mono e _ _ r).tup_at;cases eb
 refine⟨λ d hd=>?_,λ hi=>⟨xs,hq,by rw[<- rs.length];lia⟩⟩
 obtain⟨x,h1,h2⟩:=rs.get hd;refine⟨⟨xs,x,hq,h1⟩,λ y H2 ⟨e2,hy⟩=>?_⟩;subst e2;have:y=x:=by have:=hy xs hq;rw[h1] at this;exact(oAk this).symm
 subst this;exact⟨.refl,w,h2⟩
theorem ZdZ{K:Frag}{z:Str}:Src K (Its z) mu H (.vs ((sgn z).map D.str)):=by
 refine JO λ mu1 H1 S1 e w i=>?_;have hl:((sgn z).map D.str).length=z.cps.size:=by simp[sgn]
 refine⟨λ d hd=>?_,λ hi=>by show z.cps.size<=i;lia⟩
 have hi:i<z.cps.size:=by
  have:=(List.getElem?_eq_some_iff.1 hd).1;lia
 refine⟨hi,λ y H2 ⟨e2,c,hc,hy⟩=>?_⟩;subst e2 hy;have:d=.str ⟨#[c]⟩:=by
  rw[sgn,getElem?_map,getElem?_map,getElem?_toList,hc] at hd;exact(oAk hd).symm
 subst this;exact⟨.refl,w,by dsimp only[RD]⟩
theorem Zd0{K:Frag}{lo:Int}{n:Nat}:Src K (Itr lo n) mu H (.vs ((List.range n).map λ (k:Nat)=>D.int (lo+(k:Int)))):=by
 refine JO λ mu1 H1 S1 e w i=>?_;refine⟨λ d hd=>?_,λ hi=>by show n<=i;simp at hi;lia⟩
 have hi:i<n:=by
  have:=(List.getElem?_eq_some_iff.1 hd).1;simpa using this
 refine⟨hi,λ y H2 ⟨e2,hy⟩=>?_⟩;subst e2 hy;have:d=.int (lo+i):=by
  rw[getElem?_map,List.getElem?_range hi] at hd;exact(oAk hd).symm
 subst this;exact⟨.refl,w,Zs⟩
theorem Zd1{K:Frag}{d1 d2:D}{xs ys:List D}{a b:Addr}{k1 k2:Bool}(h1:d1=.lst xs/\k1=false\/d1=.tup xs/\k1=true)(h2:d2=.lst ys/\k2=false\/d2=.tup ys/\k2=true)(r1:RD K mu H d1 (.ref a))(r2:RD K mu H d2 (.ref b)) :
  Src K (Itz K k1 k2 a b) mu H (.vs (List.zipWith (λ x y=>D.tup [x,y]) xs ys)):=by
 refine JO λ mu1 H1 S1 e w i=>?_;obtain⟨us,hq1,rs1⟩:=zH h1<|RD.mono e _ _ r1;obtain⟨vs,hq2,rs2⟩:=zH h2<|RD.mono e _ _ r2;refine⟨λ d hd=>?_,λ hi=>⟨us,vs,hq1,hq2,by rw[<- rs1.length,<-rs2.length];simpa using hi⟩⟩
 rw[List.getElem?_zipWith] at hd;cases q1:xs[i]? with
 |none=>rw[q1] at hd;cases hd
 | some x=>
  cases q2:ys[i]? with
  |none=>rw[q1,q2] at hd;cases hd
  | some y=>
   rw[q1,q2] at hd;have ed:d=.tup [x,y]:=(oAk hd).symm;subst ed;obtain⟨x',g1,g2⟩:=rs1.get q1;obtain⟨y',g3,g4⟩:=rs2.get q2;refine⟨⟨us,vs,x',y',hq1,hq2,g1,g3⟩,λ v H2 ⟨p,u1,u2,hu1,hu2,hp,e2,ev⟩=>?_⟩;subst e2 ev;have e3:u1=x':=by have:=hu1 us hq1;rw[g1] at this;exact(oAk this).symm
   have e4:u2=y':=by have:=hu2 vs hq2;rw[g3] at this;exact(oAk this).symm
   subst e3 e4;refine⟨Ext.new w hp,w.keep hp,?_⟩;dsimp only[RD];exact⟨p,_,rfl,.inl ⟨w.fresh hp,Zo⟩,RDs.mono (Ext.new w hp) _ _<|.cons g2<|.cons g4 .nil⟩
end
section
variable {prog:Program}{w:World}{A:Around}{E:zVP}{s:Shared}
theorem Wa{it t:Addr}{items:Array Value}(hne:t≠it):∀ (n i:Nat) (s:Shared) (Q:List Value->Shared->Prop),s.heap.IsListIter it t i->s.heap.IsList t items->i+n<=items.size ->
  (∀ h',h'.IsListIter it t (i+n)->SameBut it s.heap h'->Q ((items.toList.drop i).take n) { s with heap:=h' })->wpAny (model prog w) A (draw (.ref it) n) Q E s
 | 0,i,s,Q,hit,_,_,hQ=>by
  show wpAny _ _ (pure []) Q E s;exact oAb (by simpa using hQ s.heap hit (Heap.SameBut.refl ..))
 | n+1,i,s,Q,hit,ht,hle,hQ=>by
  have hlt:i<items.size:=by omega
  show wpAny _ _ (pyNext (.ref it)>>=_) Q E s;refine oAa<|wpAny_pyNext_list_item hit ht (x:=items[i]) (by simp[hlt]) λ h₁ hit₁ hs₁=>?_;refine oAa<|wpAny_holding<|Wa hne n (i+1) _ _ hit₁ (ht.extBut hs₁.extBut hne) (by omega) λ h₂ hit₂ hs₂=>oAb ?_;have hd:items.toList.drop i=items[i]::items.toList.drop (i+1):=by simp[List.drop_eq_getElem_cons,hlt]
  have:=hQ h₂ (by rw[show i+(n+1)=i+1+n by omega];exact hit₂)<|hs₁.trans hs₂
  rw[hd,List.take_succ_cons] at this;exact this
theorem U3{t:Addr}{items:Array Value}{Q:List Value->Shared->Prop}(hh:A.handled=none)(ht:s.heap.IsList t items)
  (hQ:∀ h',ExtBut s.heap.objs.size s.heap h'->Q items.toList { s with heap:=h' }):wpAny (model prog w) A (unpackItems (.ref t) items.size none) Q E s:=by
 have hlt:t≠s.heap.objs.size:=by obtain⟨o,ho,_⟩:=ht;exact oAp<|oAf ho
 unfold unpackItems;refine oAa ?_
 ·unfold notIterableAtAll;refine oAa<|wpAny_specialOf ht.typeIs slot_list_iter.lookup ?_;refine oAb ?_;simp only[false_eq_true,if_false];refine oAa<|wpAny_holding<|wpAny_pyIter_list ht ?_;refine oAa<|wpAny_holding<|Wa hlt items.size 0 _ _ ⟨_,oAe _ rfl,rfl,rfl⟩ (ht.push _) (by lia) λ h₁ hit₁ hs₁=>?_;have hall:List.take items.size (List.drop 0 items.toList)=items.toList:=by
   rw[List.drop_zero];exact take_of_length_le (by simp)
  rw[hall];rw[if_neg (by simp)];have ht₁:h₁.IsList t items:=(ht.push _).extBut hs₁.extBut hlt;refine oAa<|wpAny_holding<|wpAny_pyNext_list_end hh hit₁ ht₁ (by simp) λ h₂ he₂=>?_;simp only[Option.isSome_none,false_eq_true,if_false];refine oAb<|hQ h₂ λ b o hb e=>he₂ b o hb<|hs₁.extBut b o hb<|oAd _ e
theorem UJ{env:Env}{elts:List Expr}{x1}{pos:Pos}{t:Addr}{items:Array Value}{Q:Unit->Shared->Prop}(hh:A.handled=none)(ht:s.heap.IsList t items)
  (hn:(assignEach elts env).length=items.size)(hstar:(assignEach elts env).findIdx? (·.1)=none)
  (h:∀ h',ExtBut s.heap.objs.size s.heap h'->wpAny (model prog w) A (assignInOrder ((assignEach elts env).map (·.2)) items.toList) Q E { s with heap:=h' }) :
  wpAny (model prog w) A (assign (.Tuple elts x1 pos) env (.ref t)) Q E s:=by
 rw[assign_Tuple];refine oAa<|wpAny_standAt ?_;unfold unpack;rw[hn,hstar];exact oAa<|wpAny_holding<|U3 hh ht h
end
section
variable {X:Cx}{pos:Pos}
noncomputable def gLst(K:Frag)(n:Nat)(t:TGs):TG:=λ v σ H Q=>∃ a xs,v=.ref a/\SqL K H a xs/\xs.length=n/\t xs σ H Q
theorem ZfA{es:List Expr}{k:Nat}{t:TGs}{n:Nat}(hc:X.calm=true)(h:PGs X es t)
  (hn:(assignEach es X.env).length=n:=by rfl)(hst:(assignEach es X.env).findIdx? (·.1)=none:=by rfl):PG X (.Tuple es k pos) (gLst X.K n t):=by
 intro pj s σ H v u Q I r hw;obtain⟨a,xs,e1,hq,hl,hw⟩:=hw;subst e1;cases r
 obtain⟨its,rv,ht,hz⟩:=I.list hq;refine UJ (I.ok.hd hc) ht.isList (by simp[hn,<-hl,rv.length]) hst λ h' hx=>?_;have I1:Inv X pj σ H { s with heap:=h' }:=I.kept (t':=s.toks) λ b o e=>hx b o (oAp<|oAf e) e;exact h pj _ σ H xs _ Q I1 (by simpa using rv) hw
end
section
variable {K:Frag}{mu mu':List Addr}{H H':Hp}
section
variable {κ:Type} [DecidableEq κ]
def DRel{κ:Type}(K:Frag)(mu:List Addr)(H:Hp)(kvs:List (κ×D))(us:List (κ×V)):Prop:=us.map (·.1)=kvs.map (·.1)/\RDs K mu H (kvs.map (·.2)) (us.map (·.2))
theorem DRel.nil:DRel (κ:=κ) K mu H [] []:=⟨rfl,.nil⟩
theorem DRel.cons(e:q.1=p.1)(h:RD K mu H p.2 q.2)(t:DRel K mu H kvs us):DRel K mu H (p::kvs) (q::us):=
 ⟨by rw[map_cons,map_cons,e,t.1],.cons h t.2⟩
theorem DRel.cases_cons(h:DRel K mu H (p::kvs) us):∃ q r,us=q::r/\q.1=p.1/\RD K mu H p.2 q.2/\DRel K mu H kvs r:=by
 obtain⟨h1,h2⟩:=h;cases us with
 |nil=>simp at h1
 | cons q r=>
  rw[map_cons,map_cons] at h1;obtain⟨a,b⟩:=List.cons.inj h1;rw[map_cons,map_cons] at h2;obtain⟨x,r',e,hx,ht⟩:=h2.cases_cons;obtain⟨e1,e2⟩:=List.cons.inj e;subst e1 e2;exact⟨q,r,rfl,a,hx,b,ht⟩
theorem DRel.cases_nil(h:DRel K mu H [] us):us=[]:=by
 have:=h.1;simpa using this
theorem DRel.any{k:κ}:∀ {kvs:List (κ×D)}{us:List (κ×V)},DRel K mu H kvs us->(us.any λ kv=>decide (kv.1=k))=kvs.any λ kv=>decide (kv.1=k)
 |[],us,h=>by rw[h.cases_nil];rfl
 | p::kvs,us,h=>by
  obtain⟨q,r,rfl,e,_,t⟩:=h.cases_cons;rw[any_cons,any_cons,e,DRel.any t]
theorem DRel.repl{k:κ}{d:D}{v:V}(hd:RD K mu H d v):∀ {kvs:List (κ×D)}{us:List (κ×V)},DRel K mu H kvs us->DRel K mu H (kvs.map λ kv=>if kv.1=k then (kv.1,d) else kv) (us.map λ kv=>if kv.1=k then (kv.1,v) else kv)
 |[],us,h=>by rw[h.cases_nil];exact .nil
 | p::kvs,us,h=>by
  obtain⟨q,r,rfl,e,hq,t⟩:=h.cases_cons;rw[map_cons,map_cons];by_cases hk:p.1=k
  ·rw[if_pos hk,if_pos<|e.trans hk];exact .cons e hd<|DRel.repl hd t
  ·rw[if_neg hk,if_neg<|λ z=>hk<|e.symm.trans z];exact .cons e hq<|DRel.repl hd t
theorem DRel.snoc{k:κ}{d:D}{v:V}(hd:RD K mu H d v):∀ {kvs:List (κ×D)}{us:List (κ×V)},DRel K mu H kvs us->DRel K mu H (kvs++[(k,d)]) (us++[(k,v)])
 |[],us,h=>by rw[h.cases_nil];exact .cons rfl hd .nil
 | p::kvs,us,h=>by
  obtain⟨q,r,rfl,e,hq,t⟩:=h.cases_cons;exact .cons e hq<|DRel.snoc hd t
theorem DRel.put{k:κ}{d:D}{v:V}{kvs:List (κ×D)}{us:List (κ×V)}(h:DRel K mu H kvs us)(hd:RD K mu H d v):DRel K mu H (putD kvs k d) (putK us k v):=by
 unfold putD putK;rw[h.any];split
 ·exact h.repl hd
 ·exact h.snoc hd
end
theorem DRel.mono{κ:Type}(e:Ext mu H mu' H'){kvs:List (κ×D)}{us:List (κ×V)}(h:DRel K mu H kvs us):DRel K mu' H' kvs us:=⟨h.1,RDs.mono e _ _ h.2⟩
theorem ZfB(h:keyD d=some k)(r:RD K mu H d v):v=kV k:=by
 cases d with
 |int i=>cases h;exact int_at r
 |str x=>cases h;exact ZM r
 |non=>cases h;exact Ug r
 |_=>cases h
theorem Zcv:RD K mu H (unkey k) (kV k):=by
 cases k with
 |inl i=>exact Zs
 |inr x=>exact Vo
 |non=>exact qg
end
section
variable {X:Cx}{T:Tab}{W k:Nat}{nm:List (Str×NameKind)}{pj:zPn}{σ:L2.St}{H:Hp}{s:Shared}{mu:List Addr}{S:Sto}{c:Cl}
theorem U4{K:Frag}:∀ {ds:List D}{ks:List Key}{vs:List V},Z6 ds=some ks->RDs K mu H ds vs->vs=ks.map kV
 |[],ks,vs,h,r=>by cases h;rw[r.cases_nil];rfl
 | d::ds,ks,vs,h,r=>by
  obtain⟨x,t,rfl,hx,ht⟩:=r.cases_cons;rw[Z6] at h;obtain⟨k,h1,h⟩:=bO h;obtain⟨l,h2,e⟩:=bM h;subst e;rw[ZfB h1 hx,U4 h2 ht];rfl
theorem Zc4(w:WR X.K mu H S)(h:dtOf S (.ref n)=some kvs)(r:RD X.K mu H (.ref n) v):∃ a us,v=.ref a/\mu[n]?=some a/\H a=some (.dT us)/\DRel X.K mu H kvs us:=by
 replace h:(match S[n]? with
  |some (.dt kvs)=>some kvs
  |_=>none)=some kvs:=h
 dsimp only[RD] at r;obtain⟨a,e,rfl⟩:=r;cases q9:S[n]? with
 |none=>rw[q9] at h;cases h
 | some ob=>
  rw[q9] at h;cases ob with
  |lst _=>cases h
  |dk _=>cases h
  |ins _ _=>cases h
  |dtf _=>cases h
  | dt l=>
   cases h
   obtain⟨b,e1,us,e2,r⟩:=w.get q9;rw[e] at e1;cases e1
   exact⟨a,us,rfl,e,e2,r⟩
theorem zI(hu:X.A.units+1<cLine):PSet X (λ o i v H Q=>ZcV o i v H Q\/∃ a H',o=.ref a/\DPut H a i v H'/\Q H'):=by
 intro pj s σ H o i v ov iv u Q I ro ri rv h
 rcases h with h | ⟨a,H',e,g,q⟩
 ·exact set_list pj s σ H o i v ov iv u Q I ro ri rv h
 ·subst e;cases ro
  exact ZaX hu I g ri rv λ s' I'=>⟨H',I',q⟩
end
noncomputable def Vt(nm:List (Str×NameKind))(x y:Str)(px py:Pos)(a b:Expr):Bool:=
 decide (nm.lookup x=some .local)&&decide (nm.lookup y=some .local)&&!decide (x=y)&&decide (px.line=py.line)&&notStar a&&notStar b&&!([a,b].all (foldedForSure 8))&&!([a,b].all (constantsAlone 8))
noncomputable def qo(nm:List (Str×NameKind))(tes:List Expr):Bool:=decide (4<=tes.length)||tes.any λ t=>match t with
 |.Name x _=>decide (nm.lookup x=some .cell)
 |_=>true
noncomputable def Zc5(nm:List (Str×NameKind))(y:Str)(py:Pos)(scope:Scope)(pos:Pos):Bool:=
 decide (nm.lookup y=some .local)&&(py.line==pos.line)&&!(scope.names.any λ (n,k)=>n==y&&(k==.local||k==.cell))
def FlOk(K:Frag)(mu:List Addr)(H:Hp)(D:Ends):Fl->Prop
 |.nx env S=>∀ σ mu' H',Ext mu H mu' H'->WR K mu' H' S->ER K mu' H' env σ->D.nx σ H'
 |.rt d S=>∀ v mu' H',Ext mu H mu' H'->WR K mu' H' S->RD K mu' H' d v->D.rt v H'
 |.bk env S=>∀ σ mu' H',Ext mu H mu' H'->WR K mu' H' S->ER K mu' H' env σ->D.bk σ H'
 |.ct env S=>∀ σ mu' H',Ext mu H mu' H'->WR K mu' H' S->ER K mu' H' env σ->D.ct σ H'
inductive tSt(K:Frag)(f:En->Sto->Option Fl)(D:Ends)(σ:St)(H:Hp):Prop
 |mk (mu:List Addr) (env:En) (S:Sto) (he:ER K mu H env σ) (hw:WR K mu H S) (fl:Fl) (hf:f env S=some fl) (k:FlOk K mu H D fl)
inductive tG(K:Frag)(f:D->En->Sto->Option (En×Sto))(v:V)(σ:St)(H:Hp)(Q:St->Hp->Prop):Prop
 |mk (mu:List Addr) (env:En) (S:Sto) (d:D) (he:ER K mu H env σ) (hw:WR K mu H S) (hd:RD K mu H d v) (env':En) (S':Sto) (hf:f d env S=some (env',S')) (k:∀ σ' mu' H',Ext mu H mu' H'->WR K mu' H' S'->ER K mu' H' env' σ'->Q σ' H')
inductive tGs(K:Frag)(f:List D->En->Sto->Option (En×Sto))(vs:List V)(σ:St)(H:Hp)(Q:St->Hp->Prop):Prop
 |mk (mu:List Addr) (env:En) (S:Sto) (ds:List D) (he:ER K mu H env σ) (hw:WR K mu H S) (hd:RDs K mu H ds vs) (env':En) (S':Sto) (hf:f ds env S=some (env',S')) (k:∀ σ' mu' H',Ext mu H mu' H'->WR K mu' H' S'->ER K mu' H' env' σ'->Q σ' H')
theorem FlOk.ext{K:Frag}{mu mu':List Addr}{H H':Hp}{D:Ends}{fl:Fl}(h:FlOk K mu H D fl)(e:Ext mu H mu' H'):FlOk K mu' H' D fl:=by
 cases fl with
 |nx env S=>exact λ σ mu2 H2 e2 w r=>h σ mu2 H2 (e.trans e2) w r
 |rt env S=>exact λ σ mu2 H2 e2 w r=>h σ mu2 H2 (e.trans e2) w r
 |bk env S=>exact λ σ mu2 H2 e2 w r=>h σ mu2 H2 (e.trans e2) w r
 |ct env S=>exact λ σ mu2 H2 e2 w r=>h σ mu2 H2 (e.trans e2) w r
section
variable {X:Cx}{T:Tab}{W k:Nat}{nm:List (Str×NameKind)}{pj:zPn}{σ:St}{H:Hp}{s:Shared}{mu:List Addr}{S:Sto}{c:Cl}
theorem ZfC(ok:XOk X T W k nm)(hl:Vn nm x=true)(hi:slot x X.N=some i):PG X (.Name x pos) (tG X.K (asg c (.name i))):=by
 intro pj s σ H v u Q I r ⟨mu,env,S,d,he,hw,hd,env',S',hf,q⟩;dsimp only[asg] at hf;cases hf
 exact Zdk ok.nd (slot_get hi) (ok.kw x hl).1 (ok.kw x hl).2 pj s σ H v u Q I r<|q _ mu H .refl hw<|he.set i hd
theorem Zg3:PGs X [] (tGs X.K (asgs c .nil)):=by
 intro pj s σ H vs us Q I r ⟨mu,env,S,ds,he,hw,hd,env',S',hf,q⟩;cases ds with
 | nil=>
  dsimp only[asgs] at hf;cases hf
  exact Zdl pj s σ H vs us Q I r ⟨hd.cases_nil,q _ mu H .refl hw he⟩
 |cons d ds=>simp[asgs] at hf
theorem ZfD(h1:PG X e (tG X.K (asg c t)))(h2:PGs X es (tGs X.K (asgs c ts)))(hs:notStar e=true):PGs X (e::es) (tGs X.K (asgs c (.cons t ts))):=by
 intro pj s σ H vs us Q I r ⟨mu,env,S,ds,he,hw,hd,env',S',hf,q⟩;cases ds with
 |nil=>simp[asgs] at hf
 | cons d ds=>
  dsimp only[asgs] at hf;obtain⟨e1,S1,h3,hf⟩:=bP hf;obtain⟨x,xs,rfl,rx,rs⟩:=hd.cases_cons;refine ZbZ h1 h2 (by cases e<;>first | rfl | (exact absurd hs (show ¬ (false=true) from oAg))) pj s σ H _ us Q I r ?_
  exact⟨x,xs,rfl,mu,env,S,d,he,hw,rx,e1,S1,h3,λ σ' mu' H' x' w' r'=>⟨mu',e1,S1,ds,r',w',RDs.mono x' _ _ rs,env',S',hf,λ σ2 mu2 H2 x2 w2 r2=>q σ2 mu2 H2 (x'.trans x2) w2 r2⟩⟩
theorem UO{env:Env}:∀ {es:List Expr},es.all notStar=true->(assignEach es env).length=es.length/\(assignEach es env).findIdx? (·.1)=none
 |[],_=>⟨rfl,rfl⟩
 | e::es,h=>by
  rw[all_cons,and_eq_true] at h;obtain⟨h1,h2⟩:=UO (env:=env) h.2;have e1:assignEach (e::es) env=(false,assign e env)::assignEach es env:=by
   have:=h.1;cases e<;>first | rfl | (exact absurd this (show ¬ (false=true) from oAg))
  rw[e1];refine⟨by simp[h1],?_⟩;rw[List.findIdx?_cons];simp[h2]
theorem Zg4(hu:X.A.units+1<cLine)(ho:PE X o (tE X.K (ev c xo)))(hi:PE X i (tE X.K (ev c xi)))(hp:Yd i=true):PG X (.Subscript o i pos) (tG X.K (asg c (.sub xo xi))):=by
 intro pj s σ H v u Q I r ⟨mu,env,S,d,he,hw,hd,env',S',hf,q⟩;dsimp only[asg] at hf;obtain⟨da,S1,h1,hf⟩:=bP hf;obtain⟨db,S2,h2,hf⟩:=bP hf;refine ZaF ho hi (zI hu) (by intro _;cases i<;>first | rfl | (exact absurd hp (show ¬ (false=true) from oAg))) pj s σ H v u Q I r ?_
 refine⟨mu,env,S,he,hw,da,S1,h1,λ x mu1 H1 e1 w1 r1=>⟨mu1,env,S1,he.mono e1,w1,db,S2,h2,λ y mu2 H2 e2 w2 r2=>?_⟩⟩;cases da with
 | ref n=>
  cases db with
  | int kk=>
   cases q9:S2[n]? with
   |none=>simp only[q9] at hf;cases hf
   | some ob=>
    cases ob with
    | dk kvs=>
     simp only[q9] at hf;split at hf
     ·rename_i hz;cases hf
      obtain⟨a,e3,us,e4,rs⟩:=w2.get q9;have r1':=RD.mono e2 _ _ r1;dsimp only[RD] at r1';obtain⟨a',e5,rfl⟩:=r1';rw[e3] at e5;cases e5
      cases int_at r2
      have dr:DRel X.K mu2 H2 kvs us:=rs;have hl:us.length=kvs.length:=by have:=congrArg List.length dr.1;simpa using this
      have dp:=dr.put (k:=.inl kk)<|RD.mono (e1.trans e2) _ _ hd;have ex:Ext mu2 H2 mu2 (upd H2 a<|.dK<|putK us (.inl kk) v):=Ext.write w2 e3<|YO e4;have dp2:=dp.mono ex;refine .inr ⟨a,_,rfl,DPut.k (k:=.inl kk) e4 (by rw[hl,ZF];exact hz),?_⟩
      exact q σ mu2 _ ((e1.trans e2).trans ex) (w2.writeO e3 (YO e4) ⟨_,Zo,dp2.1,dp2.2⟩)<|he.mono<|(e1.trans e2).trans ex
     ·cases hf
    |dt ds=>simp only[q9] at hf;cases hf
    |ins _ _=>simp only[q9] at hf;cases hf
    |dtf _=>simp only[q9] at hf;cases hf
    | lst ds=>
     simp only[q9] at hf;obtain⟨j,h3,e⟩:=bM hf;cases e
     obtain⟨a,e3,xs,e4,rs⟩:=w2.get q9;have r1':=RD.mono e2 _ _ r1;dsimp only[RD] at r1';obtain⟨a',e5,rfl⟩:=r1';rw[e3] at e5;cases e5
     cases int_at r2
     refine .inl ⟨a,xs,kk,j,rfl,rfl,e4,by rw[<- rs.length];exact h3,?_⟩
     exact q σ mu2 _ ((e1.trans e2).trans<|Ext.write w2 e3<|YO e4) (w2.write e3 (YO e4)<|rs.set j<|RD.mono (e1.trans e2) _ _ hd)<|he.mono<|(e1.trans e2).trans<|Ext.write w2 e3<|YO e4
  |_=>cases hf
 |_=>cases hf
theorem Zg5(h:PE X e (tE X.K (ev c x))):PI X tg e (tI X.K (evI c (.seq x))):=by
 intro pj s σ H R I ⟨mu,env,S,he,hw,ds,S',hf,q⟩;dsimp only[evI] at hf;obtain⟨d,S1,h1,hf⟩:=bP hf;cases d with
 | tup es=>
  cases hf
  refine ZeM h pj s σ H R I ⟨mu,env,S,he,hw,_,_,h1,λ v mu1 H1 e1 w1 r1=>?_⟩;obtain⟨a,xs,rfl,hq,_⟩:=r1.tup_at;exact⟨a,rfl,⟨xs,hq⟩,q _ mu1 H1 e1 w1<|ZdY r1⟩
 | lst es=>
  cases hf
  refine zk h pj s σ H R I ⟨mu,env,S,he,hw,_,_,h1,λ v mu1 H1 e1 w1 r1=>?_⟩;obtain⟨a,xs,rfl,hq,_⟩:=r1.lst_at;exact⟨a,rfl,⟨xs,hq⟩,q _ mu1 H1 e1 w1<|src_list r1⟩
 | str z=>
  cases hf
  refine Ze9 h pj s σ H R I ⟨mu,env,S,he,hw,_,_,h1,λ v mu1 H1 e1 w1 r1=>?_⟩;cases ZM r1
  exact⟨z,rfl,q _ mu1 H1 e1 w1 ZdZ⟩
 | ref n=>
  obtain⟨es,hes,e'⟩:=bM hf;cases e'
  refine zk h pj s σ H R I ⟨mu,env,S,he,hw,_,_,h1,λ v mu1 H1 e1 w1 r1=>?_⟩;obtain⟨a,ys,rfl,e2,e4,_⟩:=w1.lst_at hes r1;exact⟨a,rfl,⟨ys,SqL.of e4⟩,q _ mu1 H1 e1 w1<|ZdX e2⟩
 |_=>cases hf
theorem ZfE(ok:XOk X T W k nm)(hg:X.env.scope.names.lookup ("range":Str)=some .globalImplicit)(hs:notStar a=true)(h:PE X a (tE X.K (ev c x))):PI X tg (.Call (.Name "range" p) [a] [] pos) (tI X.K (evI c (.rng1 x))):=by
 intro pj s σ H R I ⟨mu,env,S,he,hw,ds,S',hf,q⟩;dsimp only[evI] at hf;obtain⟨d,S1,h1,hf⟩:=bP hf;cases d with
 | int j=>
  dsimp only at hf;split at hf
  ·rename_i hj;cases hf
   refine ZaH hg (ok.bl _<|by decide +kernel) (Ys h JH<|Zx hs) (Zx hs) pj s σ H R I ?_;refine⟨mu,env,S,he,hw,_,_,h1,λ v mu1 H1 e1 w1 r1=>?_⟩;cases int_at r1
   exact⟨j,rfl,hj.1,hj.2,q _ mu1 H1 e1 w1 Zd0⟩
  ·cases hf
 |_=>cases hf
theorem Zg6(ok:XOk X T W k nm)(hg:X.env.scope.names.lookup ("zip":Str)=some .globalImplicit)(hs:notStar a=true)(hs2:notStar b=true)(ht:isTup tg=true)(ha:PE X a (tE X.K (ev c x)))(hb:PE X b (tE X.K (ev c y))) :
  PI X tg (.Call (.Name "zip" p) [a,b] [] pos) (tI X.K (evI c (.zip x y))):=by
 intro pj s σ H R I ⟨mu,env,S,he,hw,ds,S',hf,q⟩;dsimp only[evI] at hf;obtain⟨d,S1,h1,hf⟩:=bP hf;obtain⟨d2,S2,h2,hf⟩:=bP hf;cases tg<;>first | (exact absurd ht (show ¬ (false=true) from oAg)) | skip
 dsimp only at hf;cases hv:vals d with
 |none=>rw[hv] at hf;cases hf
 | some es=>
  cases hv2:vals d2 with
  |none=>rw[hv,hv2] at hf;cases hf
  | some fs=>
   rw[hv,hv2] at hf;cases hf
   refine Zfz hg (ok.bl _<|by decide +kernel) ha hb hs hs2 pj s σ H R I ?_;refine⟨mu,env,S,he,hw,_,_,h1,λ v mu1 H1 e1 w1 r1=>⟨mu1,env,_,he.mono e1,w1,_,_,h2,λ v2 mu2 H2 e2 w2 r2=>?_⟩⟩;have r1':=RD.mono e2 _ _ r1;obtain⟨k1,a1,xs,rfl,hq1,_,hd1⟩:=zG hv r1';obtain⟨k2,a2,ys,rfl,hq2,_,hd2⟩:=zG hv2 r2;exact⟨k1,k2,a1,a2,rfl,rfl,⟨xs,hq1⟩,⟨ys,hq2⟩,q _ mu2 H2 (e1.trans e2) w2<|Zd1 hd1 hd2 r1' r2⟩
end
noncomputable def Ju(own:Nat)(caps:List Nat)(σ:St):St:=List.replicate own none++caps.map λ i=>(σ[i]?).join
noncomputable def clOf(env:Env):List (Str×NameKind)->List (Str×Addr)->List (Str×Addr)
 |[],acc=>acc
 |(n,k)::r,acc=>clOf env r (if k==.free then (match env.cells.lookup n with | some c=>(n,c)::acc | none=>acc) else acc)
theorem JZ{env:Env}:∀ {names:List (Str×NameKind)}{acc:List (Str×Addr)},(∀ p∈names,p.2=.free->∃ c,env.cells.lookup p.1=some c) ->
  (forIn names acc λ (x:Str×NameKind) (cs:List (Str×Addr))=>(if (x.2==NameKind.free)=true then (do let c<-cellOf env x.1;pure (ForInStep.yield ((x.1,c)::cs))) else pure (ForInStep.yield cs):Sem (ForInStep (List (Str×Addr)))))=pure (clOf env names acc)
 |[],acc,_=>rfl
 | (n,k)::r,acc,h=>by
  rw[List.forIn_cons];by_cases hk:k=.free
  ·subst hk;obtain⟨c,hc⟩:=h (n,.free) (by simp) rfl;dsimp only at hc ⊢;rw[if_pos (by decide)];have e:cellOf env n=pure c:=by unfold cellOf;rw[hc]
   rw[e,pure_bind,pure_bind];dsimp only;rw[JZ<|λ p hp=>h p<|oAm _ hp,clOf,if_pos (by decide),hc]
  ·have hb:(k==NameKind.free)=false:=by simpa using hk
   dsimp only;rw[if_neg (by rw[hb];exact oAg),pure_bind]
   dsimp only;rw[JZ<|λ p hp=>h p<|oAm _ hp,clOf,if_neg (by rw[hb];exact oAg)]
theorem Wo{env:Env}{scope:Scope}(h:∀ p∈scope.names,p.2=.free->∃ c,env.cells.lookup p.1=some c):closureFor scope env=pure (clOf env scope.names []):=by
 have:=JZ (env:=env) (names:=scope.names) (acc:=[]) h;unfold closureFor
 first
  |(simp only[this,pure_bind])
  |(rw[this];rfl)
theorem J0{env:Env}:∀ {names:List (Str×NameKind)}{acc:List (Str×Addr)}{x:Str}{c:Addr},(∀ x c,acc.lookup x=some c->env.cells.lookup x=some c)->(clOf env names acc).lookup x=some c->env.cells.lookup x=some c
 |[],acc,x,c,h,e=>h x c e
 | (n,k)::r,acc,x,c,h,e=>by
  rw[clOf] at e;refine J0 (acc:=_) ?_ e;intro y d hy;split at hy
  ·split at hy
   ·rename_i c' hc';rw[lookup_cons] at hy;split at hy
    ·rename_i q;cases hy
     have:y=n:=by simpa using q
     rw[this];exact hc'
    ·exact h y d hy
   ·exact h y d hy
  ·exact h y d hy
theorem qp{env:Env}:∀ {names:List (Str×NameKind)}{acc:List (Str×Addr)}{x:Str}{c:Addr},(((x,NameKind.free)∈names/\env.cells.lookup x=some c)\/acc.lookup x=some c/\env.cells.lookup x=some c)->(clOf env names acc).lookup x=some c
 | [],acc,x,c,h=>by
  rcases h with ⟨h,_⟩ | h
  ·cases h
  ·exact h.1
 | (n,k)::r,acc,x,c,h=>by
  rw[clOf];refine qp ?_
  rcases h with ⟨h,hc⟩ | ⟨h,hc⟩
  ·rcases List.mem_cons.1 h with e | h
   ·cases e
    refine .inr ⟨?_,hc⟩;rw[if_pos (by decide),hc];simp
   ·exact .inl ⟨h,hc⟩
  ·refine .inr ⟨?_,hc⟩;split
   ·split
    ·rename_i c' hc';rw[lookup_cons];split
     ·rename_i q;have:x=n:=by simpa using q
      subst this;rw[hc] at hc';cases hc';rfl
     ·exact h
    ·exact h
   ·exact h
noncomputable def Zm(X:Cx)(N:List Str)(scope:Scope)(C:Addr)(s2:Shared)(H2:Hp)(fp:List Addr)(pj:zPn):Cx:=
 { X with N:=N,s₀:=s2,H₀:=H2,env:=compEnvC scope (clOf X.env scope.names []) C X.env,outer:=X.stack,stack:=X.stack,ex:=fp,fn:=λ _=>false,pn:=X.pn++pj,xe:=λ _ _=>False }
structure JD(X:Cx)(scope:Scope)(N:List Str)(own:Nat)(caps:List Nat):Prop where
 kind:scope.kind=.function
 nocell:∀ p∈scope.names,p.2≠.cell
 loc:∀ p∈scope.names,p.2=.local->scope.names.lookup p.1=some .local
 free:∀ p∈scope.names,p.2=.free->scope.names.lookup p.1=some .free/\X.env.kindOf p.1=some .cell
 nd:N.Nodup
 len:N.length=own+caps.length
 cap:∀ (j i:Nat),caps[j]?=some i->∃ x,N[own+j]?=some x/\X.N[i]?=some x/\(x,NameKind.free)∈scope.names
theorem Jv{names:List (Str×NameKind)}{x:Str}{k:NameKind}(h:names.lookup x=some k):(x,k)∈names:=PySem.mem_of_lookup h
theorem Jw{env:Env}(hk:env.scope.kind=.function):∀ {names:List (Str×NameKind)}{x:Str},names.lookup x=some .free->env.kindOf x=some .cell ->
  (names.map λ (n,k)=>if (k==NameKind.free&&env.scope.kind==.function&&env.kindOf n==some .cell) then (n,NameKind.cell) else (n,k)).lookup x=some .cell
 |[],x,h,_=>by simp at h
 | (n,k)::r,x,h,hc=>by
  have ih:=@Jw env hk r x;show List.lookup x ((if (k==NameKind.free&&env.scope.kind==.function&&env.kindOf n==some .cell)=true then (n,NameKind.cell) else (n,k))::_)=_;cases q:x==n with
  | true=>
   simp only[lookup_cons,q] at h;cases h
   have e:x=n:=by simpa using q
   subst e;have z:(NameKind.free==NameKind.free&&env.scope.kind==.function&&env.kindOf x==some .cell)=true:=by rw[hk,hc];rfl
   rw[if_pos z];simp
  | false=>
   simp only[lookup_cons,q] at h;by_cases z:(k==NameKind.free&&env.scope.kind==.function&&env.kindOf n==some .cell)=true
   ·rw[if_pos z];simp only[lookup_cons,q];exact ih h hc
   ·rw[if_neg z];simp only[lookup_cons,q];exact ih h hc
theorem Jc{env:Env}:∀ {names:List (Str×NameKind)}{x:Str}{k':NameKind},(names.map λ (n,k)=>if (k==NameKind.free&&env.scope.kind==.function&&env.kindOf n==some .cell) then (n,NameKind.cell) else (n,k)).lookup x=some k' ->
  names.lookup x=some k'\/(k'=.cell/\names.lookup x=some .free)
 |[],x,k',h=>by simp at h
 | (n,k)::r,x,k',h=>by
  have ih:=@Jc env r x k';replace h:List.lookup x ((if (k==NameKind.free&&env.scope.kind==.function&&env.kindOf n==some .cell)=true then (n,NameKind.cell) else (n,k))::(r.map λ (n,k)=>if (k==NameKind.free&&env.scope.kind==.function&&env.kindOf n==some .cell) then (n,NameKind.cell) else (n,k)))=some k':=h;by_cases z:(k==NameKind.free&&env.scope.kind==.function&&env.kindOf n==some .cell)=true
  ·rw[if_pos z] at h;cases q:x==n with
   | true=>
    simp only[lookup_cons,q] at h ⊢;cases h
    rw[and_eq_true,and_eq_true] at z;have:k=.free:=by simpa using z.1.1
    subst this;exact .inr ⟨rfl,rfl⟩
   | false=>
    simp only[lookup_cons,q] at h ⊢;exact ih h
  ·rw[if_neg z] at h;cases q:x==n with
   | true=>
    simp only[lookup_cons,q] at h ⊢;exact .inl h
   | false=>
    simp only[lookup_cons,q] at h ⊢;exact ih h
section
variable {X:Cx}{pj:zPn}{σ:St}{H:Hp}{s:Shared}
theorem Zbm{scope:Scope}{N:List Str}{own:Nat}{caps:List Nat}{C:Addr}{fp:List Addr}{h4:Heap}{tk:Nat}{m:Str->Option Value}(c:JD X scope N own caps)(I:Inv X pj σ H s)(hfp:∀ b∈fp,FpOk X pj H b)
  (hob:∀ b∈fp,∃ o,s.heap.get? b=some o)(hC:s.heap.objs.size<=C)(hn:h4.Ns C m)(old:∀ b o,s.heap.get? b=some o->h4.get? b=some o) :
  Inv (Zm X N scope C s H fp pj) [] (Ju own caps σ) H { s with heap:=h4,toks:=tk }:=by
 have hsub:∀ x d,(clOf X.env scope.names []).lookup x=some d->X.env.cells.lookup x=some d:=λ x d e=>J0 (λ _ _ z=>by simp at z) e;have hhas:∀ x,(x,NameKind.free)∈scope.names->∃ d,X.env.cells.lookup x=some d/\(clOf X.env scope.names []).lookup x=some d:=λ x hx=>by
  obtain⟨d,hd⟩:=I.ok.has x<|.inl (c.free _ hx rfl).2;exact⟨d,hd,qp<|.inl ⟨hx,hd⟩⟩
 have fpC:∀ b∈fp,b≠C:=λ b hb=>by
  obtain⟨o,ho⟩:=hob b hb;exact oAp<|oAo (oAf ho) hC
 have stk:∀ b,b≠X.env.locals->b∉X.fs->b∉frs X.stack:=λ b h1 h2 hb=>by
  rcases List.mem_cons.1 (I.stkSub b hb) with z | z
  ·exact h1 z
  ·exact h2 z
 refine⟨⟨I.ok.mod,?_,I.ok.glob,I.ok.blt,hC,?_,?_,λ x d hf=>(by cases hf),I.ok.hd,I.ok.frames,.inl rfl,?_,I.bs,oAq I.ok.bsz I.sz,?_,?_,I.stack,I.stkFree⟩,
  rfl,I.bare,Un.kept old,⟨m,hn,?_⟩,?_,I.hok.fresh hC,?_,?_,I.hok.kept old,?_⟩
 ·exact c.kind
 ·intro x y d h1 h2;exact I.ok.inj x y d (hsub x d h1)<|hsub y d h2
 ·intro x hx;have hx':(relabel scope X.env).names.lookup x=some .cell\/(relabel scope X.env).names.lookup x=some .free:=hx;have key:(x,NameKind.free)∈scope.names:=by
   rcases hx' with z | z
   ·rcases Jc z with z | ⟨_,z⟩
    ·exact absurd rfl<|c.nocell _<|Jv z
    ·exact Jv z
   ·rcases Jc z with z | ⟨z,_⟩
    ·exact Jv z
    ·cases z
  obtain⟨d,_,hd⟩:=hhas x key;exact⟨d,hd⟩
 ·intro b hb;exact⟨fpC b hb,λ x d e=>(hfp b hb).2.2.2.2.1 x d<|hsub x d e⟩
 ·intro b o e hb
  rcases (hfp b hb).2.2.2.1 with z | z
  ·exact I.ok.noex b o e z
  ·exact absurd (oAo (oAf e)<|oAq I.ok.bsz z)<|oAr _
 ·intro b hb;exact stk b (hfp b hb).2.1 (hfp b hb).2.2.1
 ·intro i x v h1 h2 h3;have h1':N[i]?=some x:=h1;unfold Ju at h2;by_cases hi:i<own
  ·rw[getElem?_append_left (by simpa using hi),List.getElem?_replicate] at h2;split at h2<;>cases h2
  ·rw[getElem?_append_right (by simpa using hi),getElem?_map] at h2;simp only[List.length_replicate] at h2;obtain⟨ii,hc1,hc2⟩:=bM h2;obtain⟨y,hy1,hy2,hy3⟩:=c.cap _ ii hc1;have ei:own+(i - own)=i:=by lia
   rw[ei,h1'] at hy1;cases hy1
   have hσ:σ[ii]?=some (some v):=by
    cases q:σ[ii]? with
    |none=>rw[q] at hc2;cases hc2
    |some o=>rw[q] at hc2;rw[show o=some v from hc2]
   obtain⟨m0,hn0,hl0⟩:=I.loc;have hk:=(c.free _ hy3 rfl).2;obtain⟨u,ru,lk⟩:=hl0 ii x v hy2 hσ<|.inr<|.inl hk;refine⟨u,ru,?_⟩;obtain⟨d,hd1,hd2⟩:=hhas x hy3;have lkc:∃ c,X.env.cells.lookup x=some c/\s.heap.IsCell c (some u):=by
    rcases lk with ⟨z,_⟩ | ⟨_,z⟩
    ·rw[hk] at z;cases z
    ·exact z
   obtain⟨d',hd3,o,ho,hod⟩:=lkc;rw[hd1] at hd3;cases hd3
   refine .inr ⟨.inl ?_,d,hd2,o,old d o ho,hod⟩;exact Jw I.ok.kind (c.free _ hy3 rfl).1 hk
 ·intro x d e;obtain⟨v,o,ho,hd⟩:=I.cell x d<|hsub x d e;exact⟨v,o,old d o ho,hd⟩
 ·intro x d e;exact I.freeC x d<|hsub x d e
 ·intro q hq;have hq':q∈X.pn++pj:=by
   have z:q∈(X.pn++pj)++[]:=hq;simpa using z
  obtain⟨a1,a2,a3,a4,a5⟩:=I.pin q hq';exact⟨old _ _ a1,a2,oAp<|oAo (oAf a1) hC,stk _ a3 a4,a5⟩
 ·show (Ju own caps σ).length=N.length;unfold Ju;rw[c.len];simp
theorem Zd2{K:Frag}{mu:List Addr}{own:Nat}{caps:List Nat}{env:En}{σ:St}(r:ER K mu H env σ):ER K mu H (ZJ own caps env) (Ju own caps σ):=by
 unfold ZJ Ju;refine⟨by simp,λ i d h=>?_⟩;by_cases hi:i<own
 ·rw[getElem?_append_left (by simpa using hi),List.getElem?_replicate] at h;split at h<;>cases h
 ·rw[getElem?_append_right (by simpa using hi),getElem?_map] at h;simp only[List.length_replicate] at h;obtain⟨ii,hc1,hc2⟩:=bM h;have he:env[ii]?=some (some d):=by
   cases q:env[ii]? with
   |none=>rw[q] at hc2;cases hc2
   |some o=>rw[q] at hc2;rw[show o=some d from hc2]
  obtain⟨v,h1,h2⟩:=r.get ii d he;refine⟨v,?_,h2⟩;rw[getElem?_append_right (by simpa using hi),getElem?_map];simp only[List.length_replicate];rw[hc1];show some ((σ[ii]?).join)=_;rw[h1];rfl
inductive CI(Y:Cx)(K:Frag)(ds:Sr)(tn:Nat->Heap->Prop)(fp:List Addr)(D0:Addr)(mu1:List Addr)(H2:Hp)(fG:D->En->Sto->Option (En×Sto))(fT:En->Sto->Option (Bool×Sto))(fE:En->Sto->Option (D×Sto))(acc:List D)(S2:Sto)(n:Nat)(s3:Shared):Prop
 |mk (i:Nat) (σ3:St) (H3:Hp) (mu3:List Addr) (env3:En) (S3:Sto) (accD:List D) (accV:List V) (its:Array Value) (a1:Sr.le ds i) (a2:Inv Y [] σ3 H3 s3) (a3:tn i s3.heap) (a4:∀ b∈fp,H3 b=none) (a5:H3 D0=none) (a6:s3.heap.PlainList D0 its) (a7:Vals accV its.toList) (a8:RDs K mu3 H3 accD accV) (a9:accD.length<=line) (b1:Ext mu1 H2 mu3 H3) (b2:WR K mu3 H3 S3) (b3:ER K mu3 H3 env3 σ3) (b4:ZV ds (ZO fG fT fE) n i env3 S3 accD=some (acc,S2))
def Jx(Y:Cx)(ifs:List Expr)(t:TT):Prop:=
 ∀ (pj:zPn) (s:Shared) (σ:St) (H:Hp) (Q:Bool->Hp->Prop),Inv Y pj σ H s->t σ H Q ->
  wpAny (model Y.prog Y.w) Y.A (forIn ifs true λ c r=>if r=true then do let ok<-isTrue c Y.env (eval c Y.env);pure (ForInStep.yield ok) else pure (ForInStep.yield r)) (TP Y pj σ Q) Y.xe s
theorem qq{elt tgt iter:Expr}{ifs:List Expr}{scope:Scope}{pos cpos:Pos}{N:List Str}{own:Nat}{caps:List Nat}{fI:En->Sto->Option (Sr×Sto)}{fG:D->En->Sto->Option (En×Sto)}{fT:En->Sto->Option (Bool×Sto)}{fE:En->Sto->Option (D×Sto)}
  {use:Option (Value->Sem Unit)}{RQ:zVP}(calm:X.calm=true)(cn:JD X scope N own caps)(hi:PI X tgt iter (tI X.K fI))(hs:∀ y,foldedSetIterable iter X.env y=pure y)
  (blk:∀ (C:Addr) (s2:Shared) (H2:Hp) (fp:List Addr) (pj:zPn),PG (Zm X N scope C s2 H2 fp pj) tgt (tG X.K fG)/\Jx (Zm X N scope C s2 H2 fp pj) ifs (tT X.K fT)/\PE (Zm X N scope C s2 H2 fp pj) elt (tE X.K fE))
  {pj:zPn}{s:Shared}{σ:St}{H:Hp}(I:Inv X pj σ H s){mu:List Addr}{env:En}{S S2:Sto}{acc:List D}(he:ER X.K mu H env σ)(hw:WR X.K mu H S)
  (hf:((fI env S).bind λ r=>ZV r.1 (ZO fG fT fE) r.1.fuel 0 (ZJ own caps env) r.2 [])=some (acc,S2))
  (fin:∀ (s4:Shared) (H3:Hp) (D0 C:Addr) (m:Str->Option Value) (mu3:List Addr) (accV:List V) (v:Flow),H3 D0=none->Inv X pj σ (upd H3 D0 (.lst accV)) s4->s4.heap.Ns C m->FpOk X pj (upd H3 D0 (.lst accV)) C->Ext mu H mu3 H3->WR X.K mu3 H3 S2->RDs X.K mu3 H3 acc accV ->
   compPost (model X.prog X.w) X.A X.xe use RQ (.ref D0) C (.ok v) s4) :
  wpAny (model X.prog X.w) X.A (comprehension (.ListComp elt [⟨tgt,iter,ifs,0⟩] scope pos) scope X.env cpos (newList []) false (eval iter X.env) use) RQ X.xe s:=by
 obtain⟨ds,S1,h1,h2⟩:=bP hf;dsimp only at h2;have hclos:=Wo (env:=X.env) (scope:=scope)<|λ p hp hf=>I.ok.has p.1<|.inl (cn.free p hp hf).2;refine wpAny_comprehension_free (use:=use) rfl hs hclos cn.kind cn.loc<|thn (hi pj s σ H (λ J H1=>Nx X.K mu H H1 S1 λ mu1=>Src X.K J mu1 H1 ds) I ⟨mu,env,S,he,hw,ds,S1,h1,λ J mu1 H1 e1 w1 src=>⟨mu1,e1,w1,src⟩⟩) λ v s1 q1=>thn q1 λ itv s2 q2=>?_;obtain⟨it,fp,tn,J,H2,e,I2,T,st2,f2,mu1,e1,w1,src⟩:=q2;subst e;refine wpAny_newObj_type<|wpAny_newFunctionEnv cn.nocell (by intro y hy;simp at hy) (λ h4 hns hsb=>?_) cn.kind
 dsimp only at hns hsb ⊢;generalize hP:s2.heap.push { cls:=.type "list",dict:=none,data:=.seq ([]:List Value).toArray }=P2 at hns hsb ⊢;have hC:P2.objs.size=s2.heap.objs.size+1:=by rw[<- hP,size_push]
 have hDC:s2.heap.objs.size≠P2.objs.size:=by rw[hC];exact oAp<|oAs _
 have hCle:s2.heap.objs.size<=P2.objs.size:=by rw[hC];exact le_succ _
 have below:∀ b o,s2.heap.get? b=some o->b≠P2.objs.size/\b≠s2.heap.objs.size:=λ b o e=>⟨by rw[hC];exact oAp<|Nat.lt_succ_of_lt<|oAf e,oAp<|oAf e⟩
 have old:∀ b o,s2.heap.get? b=some o->h4.get? b=some o:=λ b o e=>hsb.extBut b o (below b o e).1<|oAd _ (hP ▸ oAd _ e);have hacc0:h4.PlainList s2.heap.objs.size #[]:=⟨_,hsb.extBut _ _ hDC<|oAd _ (hP ▸ oAe _ rfl)⟩;generalize hD0:s2.heap.objs.size=D0 at hC hDC hCle below hacc0 ⊢;have fpOb:∀ b∈fp,∃ o,s2.heap.get? b=some o:=λ b hb=>by obtain⟨o,ho,_⟩:=T.obj _ _ st2 b hb;exact⟨o,ho⟩
 have fpD:∀ b∈fp,b≠D0:=λ b hb=>by obtain⟨o,ho⟩:=fpOb b hb;exact(below b o ho).2
 have fpC:∀ b∈fp,b≠P2.objs.size:=λ b hb=>by obtain⟨o,ho⟩:=fpOb b hb;exact(below b o ho).1
 have IY:Inv (Zm X N scope P2.objs.size s2 H2 fp pj) [] (Ju own caps σ) H2 { s2 with heap:=h4,toks:=s2.toks+([]:List (Str×Value)).length }:=Zbm cn I2 f2 fpOb (by rw[hD0];exact hCle) hns old
 obtain⟨bG,bT,bE⟩:=blk P2.objs.size s2 H2 fp pj;have fpY:∀ {pp:zPn}{H3:Hp},(∀ p∈pp,p.1=D0\/p.1∈fp->p.1=D0)->True:=λ _=>trivial;have okB:∀ {pp:zPn}{H3:Hp} (b:Addr),b∈fp->H3 b=none->(∀ p∈pp,p.1≠b)->FpOk (Zm X N scope P2.objs.size s2 H2 fp pj) pp H3 b:=λ {pp H3} b hb hn hp=>by
  obtain⟨f0,f1,f3,f4,f5,f6⟩:=f2 b hb;refine⟨hn,fpC b hb,λ z=>?_,.inl hb,λ x c e=>f5 x c<|J0 (λ _ _ z=>by simp at z) e,λ p hpp=>?_⟩
  ·rcases List.mem_cons.1 (I2.stkSub b z) with z | z
   ·exact f1 z
   ·exact f3 z
  ·have hpp':p∈(X.pn++pj)++pp:=hpp
   rcases List.mem_append.1 hpp' with z | z
   ·exact f6 p z
   ·exact hp p z
 have okD0:∀ {pp:zPn}{H3:Hp},H3 D0=none->(∀ p∈pp,p.1≠D0)->FpOk (Zm X N scope P2.objs.size s2 H2 fp pj) pp H3 D0:=λ {pp H3} hn hp=>by
  refine⟨hn,hDC,λ z=>?_,.inr<|le_of_eq hD0,λ x c e=>?_,λ p hpp=>?_⟩
  ·have:=I2.stack.mem z;obtain⟨_,o,ho,_⟩:=this;exact(below _ o ho).2 rfl
  ·obtain⟨v,o,ho,_⟩:=I2.cell x c<|J0 (λ _ _ z=>by simp at z) e;exact(below _ o ho).2
  ·have hpp':p∈(X.pn++pj)++pp:=hpp
   rcases List.mem_append.1 hpp' with z | z
   ·exact(below _ _ (I2.pin p z).1).2
   ·exact hp p z
 have loop:∀ s4:Shared,s4={ s2 with heap:=h4,toks:=s2.toks+([]:List (Str×Value)).length } ->
   codeAny (model X.prog X.w) X.A (.compLoop (.ListComp elt [⟨tgt,iter,ifs,0⟩] scope pos) 0 (.ref it) (.ref D0)<|compEnvC scope (clOf X.env scope.names []) P2.objs.size X.env)
    (compPost (model X.prog X.w) X.A X.xe use RQ (.ref D0) P2.objs.size) s4:=by
  rintro s4 rfl;refine codeAny_loop rfl (CI (Zm X N scope P2.objs.size s2 H2 fp pj) X.K ds tn fp D0 mu1 H2 fG fT fE acc S2) ?_ ds.fuel ?_
  ·rintro n s3 ⟨i,σ3,H3,mu3,env3,S3,accD,accV,its,hi3,I3,st3,fr3,nD3,pl3,va3,rs3,hz3,x3,w3,r3,hl3⟩;show wpAny _ X.A ((compTurn (.ListComp elt [⟨tgt,iter,ifs,0⟩] scope pos) 0 (.ref it) (.ref D0)<|compEnvC scope (clOf X.env scope.names []) P2.objs.size X.env).onRaise (λ x=>do noteFrame x (compEnvC scope (clOf X.env scope.names []) P2.objs.size X.env);theTreesLotGoes x)) _ _ s3
   refine wpAny_noted ?_;rw[compTurn_list];refine oAa<|wpAny_standAt<|oAa ?_;have pD:∀ p∈ZR [D0] s3.heap,p.1=D0:=λ p hp=>by simpa using (VT hp).1
   obtain⟨nn,hDo⟩:=id pl3;have I3p:Inv (Zm X N scope P2.objs.size s2 H2 fp pj) ([]++ZR [D0] s3.heap) σ3 H3 s3:=I3.pinned (λ b hb=>by
    have:b=D0:=by simpa using hb
    subst this;exact okD0 nD3<|λ p hp=>by simp at hp) (λ b hb=>by
    have:b=D0:=by simpa using hb
    subst this;exact⟨_,hDo,λ v z=>by cases z⟩)
   rw[List.nil_append] at I3p;have mD:(D0,({ cls:=.type "list",data:=.seq its nn }:Obj))∈ZR [D0] s3.heap:=YL (by simp) hDo;have ok3:∀ {H5:Hp},(∀ b∈fp,H5 b=none)->∀ b∈fp,FpOk (Zm X N scope P2.objs.size s2 H2 fp pj) (ZR [D0] s3.heap) H5 b:=λ {H5} hn b hb=>okB b hb (hn b hb) (λ p hp=>by rw[pD p hp];exact(fpD b hb).symm)
   cases n with
   |zero=>dsimp only[ZV] at hl3;cases hl3
   |succ n=>
   dsimp only[ZV] at hl3;obtain⟨od,hod,hl3⟩:=bO hl3;have hsrc:=src mu3 H3 S3 x3 w3 i hi3 od hod;cases od with
   | some dd=>
    obtain⟨hlt,go,yl⟩:=hsrc;obtain⟨ox,⟨env6,S6⟩,hst,hl3⟩:=bP hl3;unfold ZO at hst;obtain⟨env4,S4,hg,hst⟩:=bP hst;obtain⟨tb,S5,ht,hst⟩:=bP hst;refine thn (T.item (Zm X N scope P2.objs.size s2 H2 fp pj) rfl rfl rfl calm i (ZR [D0] s3.heap) s3 σ3 H3 _ I3p (ok3 fr3) st3 go) λ r s4 ⟨u,hr,h4'⟩=>?_;subst hr;refine oAa<|thn h4' λ _ s5 ⟨x,H5,I5,rx,y5,st5,fr5⟩=>?_;obtain⟨e5,w5,rd5⟩:=yl x H5 y5;have I5p:=I5.pinned (ok3 fr5)<|T.obj _ _ st5;refine oAa<|oAc (bG _ s5 σ3 H5 x u (λ σ4 H4=>Nx X.K mu3 H5 H4 S4 λ mu4=>ER X.K mu4 H4 env4 σ4) I5p rx ⟨mu3,env3,S3,dd,r3.mono e5,w5,rd5,env4,S4,hg,λ σ4 mu4 H4 a b c=>⟨mu4,a,b,c⟩⟩) (λ _ s6 q6=>?_) λ _ _ z=>z.elim;obtain⟨σ4,H6,I6,mu4,e6,w6,r6⟩:=q6;refine oAa<|oAc (bT _ s6 σ4 H6 (λ b H'=>b=tb/\Ny X.K mu4 H6 H' S5) I6 ⟨mu4,env4,S4,r6,w6,tb,S5,ht,λ mu5 H' a b=>⟨rfl,mu5,a,b⟩⟩) (λ b s7 q7=>?_) λ _ _ z=>z.elim;obtain⟨H7,I7,eb,mu5,e7,w7⟩:=q7;subst eb;have keepF:∀ {σ':St}{H':Hp}{s':Shared}{h9:Heap},Inv (Zm X N scope P2.objs.size s2 H2 fp pj) (ZR [D0] s3.heap++ZR fp s5.heap) σ' H' s'->(∀ b o,b≠D0->s'.heap.get? b=some o->h9.get? b=some o)->tn (i+1) h9/\∀ b∈fp,H' b=none:=λ {σ' H' s' h9} J9 k9=>by
     have hpin:∀ b∈fp,∀ o,s5.heap.get? b=some o->s'.heap.get? b=some o/\H' b=none:=λ b hb o e=>by
      have:=J9.pin (b,o)<|oAu _<|oAu _<|YL hb e;exact⟨this.1,this.2.1⟩
     refine⟨T.keep _ _ _ st5 λ b hb o e=>k9 b o (fpD b hb) (hpin b hb o e).1,λ b hb=>?_⟩;obtain⟨o,e,_⟩:=T.obj _ _ st5 b hb;exact(hpin b hb o e).2
    have keepD:∀ {σ':St}{H':Hp}{s':Shared},Inv (Zm X N scope P2.objs.size s2 H2 fp pj) (ZR [D0] s3.heap++ZR fp s5.heap) σ' H' s'->s'.heap.PlainList D0 its/\H' D0=none:=λ {σ' H' s'} J9=>by
     have:=J9.pin (D0,_)<|oAu _<|mem_append_left _ mD;exact⟨⟨nn,this.1⟩,this.2.1⟩
    cases b with
    | false=>
     rw[if_neg oAg] at hst;cases hst
     obtain⟨t9,f9⟩:=keepF (h9:=s7.heap) I7<|λ _ _ _ e=>e;obtain⟨p9,n9⟩:=keepD I7;refine oAb ⟨rfl,n,oAs n,i+1,σ4,H7,mu5,env4,S5,accD,accV,its,hlt,I7.pins_of (λ p hp=>by simp at hp),t9,f9,n9,p9,va3,RDs.mono ((e5.trans e6).trans e7) _ _ rs3,hz3,x3.trans<|(e5.trans e6).trans e7,w7,r6.mono e7,hl3⟩
    | true=>
     rw[if_pos rfl] at hst;obtain⟨⟨dx,S8⟩,hx,e⟩:=bM hst;cases e
     dsimp only at hl3;split at hl3
     ·rename_i hz;refine oAa<|oAa<|oAc (bE _ s7 σ4 H7 (λ v' H'=>Nx X.K mu5 H7 H' S8 λ mu8=>RD X.K mu8 H' dx v') I7 ⟨mu5,env4,S5,r6.mono e7,w7,dx,S8,hx,λ v' mu8 H' a b c=>⟨mu8,a,b,c⟩⟩) (λ y s8 q8=>?_) λ _ _ z=>z.elim;obtain⟨yv,H8,I8,ry,mu8,e8,w8,rd8⟩:=q8;obtain⟨p8,n8⟩:=keepD I8;have hszz:its.size<=sizeLine:=by
       have a1:=va3.length;have a2:=rs3.length;have a3:its.toList.length=its.size:=by simp
       have a4:=ZF;lia
      refine oAa<|wpAny_list_append_plain (hsz:=hszz) p8 λ h9 hl9 hs9=>oAb<|oAb ?_
      ·obtain⟨t9,f9⟩:=keepF (h9:=h9) I8<|λ b o hb e=>hs9.extBut b o hb e;have ext:Ext mu3 H3 mu8 H8:=((e5.trans e6).trans e7).trans e8;have I9:Inv (Zm X N scope P2.objs.size s2 H2 fp pj) [] σ4 H8 { s8 with heap:=h9 }:=Vs (t':=s8.toks) (ch:=[D0]) (I8.pins_of (pins':=[])<|λ p hp=>by simp at hp) (λ b hb=>by
        have:b=D0:=by simpa using hb
        subst this;exact okD0 n8<|λ p hp=>by simp at hp)<|λ b o hb e=>hs9.extBut b o (λ z=>hb<|by simp[z]) e
       refine⟨rfl,n,oAs n,i+1,σ4,H8,mu8,env4,S8,accD++[dx],accV++[yv],its.push y,hlt,I9,t9,f9,n8,hl9,?_,(RDs.mono ext _ _ rs3).append<|.cons rd8 .nil,by simp;lia,x3.trans ext,w8,r6.mono<|e7.trans e8,hl3⟩
       rw[Array.toList_push];exact va3.append<|.cons ry .nil
     ·cases hl3
   | none=>
    cases hl3
    refine thn (T.done (Zm X N scope P2.objs.size s2 H2 fp pj) rfl rfl rfl calm i (ZR [D0] s3.heap) s3 σ3 H3 _ I3p (ok3 fr3) st3 hsrc) λ r s4 ⟨hr,I4⟩=>?_;subst hr;refine oAb ?_;have pl4:s4.heap.PlainList D0 its/\H3 D0=none:=by
     have:=I4.pin (D0,_)<|oAu _ mD;exact⟨⟨nn,this.1⟩,this.2.1⟩
    obtain⟨m4,hn4,_⟩:=I4.loc;obtain⟨⟨n4,eD⟩,nD⟩:=pl4;have ub:Un (frs X.stack) fp H2 H3 s2.heap s4.heap:=I4.base;have nC:H3 P2.objs.size=none:=I4.free;have un:Un (frs X.stack) fp H2 (upd H3 D0<|.lst accV) s2.heap s4.heap:=by
     refine⟨ub.keep,ub.slot,λ b o q n hx=>?_,ub.there,λ b xs q=>?_,λ b o u q=>?_,λ b ps q=>?_⟩
     ·rw[Zf (below b o q).2];exact ub.free b o q n hx
     ·have z:=ub.tups b xs q;rw[Zf<|Zl z nD];exact z
     ·have z:=ub.frzs b o u q;rw[Zf<|Zl z nD];exact z
     ·obtain⟨more,z⟩:=ub.tbls b ps q;exact⟨more,by rw[Zf<|Zl z nD];exact z⟩
    have hok:HOk X.prog X.w (upd H3 D0<|.lst accV) s4.heap:=λ b u e=>by
     by_cases hb:b=D0
     ·subst hb;rw[Zo] at e;cases e
      refine⟨?_,its.toList,n4,va3,?_⟩
      ·have a2:=rs3.length;have a4:=ZF;lia
      ·rw[Array.toArray_toList];exact eD
     ·rw[Zf hb] at e;exact(I4.hok b u e).stay (λ c v hc q=>q) (λ c q=>by rw[Zf<|Zl q nD];exact q) λ c xs q=>by rw[Zf<|Zl q nD];exact q
    have bare4:=I4.bare;have os4:s4.os=s2.os:=I4.os;have J9:Inv X pj σ (upd H3 D0<|.lst accV) s4:=by
     obtain⟨hh,g,dd,tt,os'⟩:=s4;obtain rfl:os'=s2.os:=os4;exact Inv.call (s:=s2) (h':=hh) (g':=g) (d':=dd) (t':=tt) (ch:=fp) I2 un hok bare4<|λ b hb=>⟨(f2 b hb).2.2.2.1,(f2 b hb).2.1,(f2 b hb).2.2.2.2.1,(f2 b hb).2.2.2.2.2⟩
    refine fin s4 H3 D0 P2.objs.size m4 mu3 accV _ nD J9 hn4 ?_ (e1.trans x3) w3 rs3;refine I2.fpOk (by rw[hD0];exact hCle) ?_
    rw[Zf<|Ne.symm hDC];exact nC
  ·exact⟨0,_,H2,mu1,ZJ own caps env,S1,[],[],#[],by cases ds<;>first | exact zero_le _ | exact trivial,IY,T.keep _ _ _ st2<|λ b hb o e=>old b o e,λ b hb=>(f2 b hb).1,I2.hok.fresh<|le_of_eq hD0,hacc0,.nil,.nil,zero_le _,.refl,w1,Zd2<|he.mono e1,h2⟩
 exact codeAny_compStart_list (loop _ rfl)<|T.self _ 0 _ _ _ (T.keep _ _ _ st2<|λ b hb o e=>old b o e)<|loop _ rfl
theorem zJ
  (calm:X.calm=true)(cn:JD X scope N own caps)(hi:PI X tgt iter (tI X.K fI))(hs:∀ y,foldedSetIterable iter X.env y=pure y)
  (blk:∀ (C:Addr) (s2:Shared) (H2:Hp) (fp:List Addr) (pj:zPn),PG (Zm X N scope C s2 H2 fp pj) tgt (tG X.K fG)/\Jx (Zm X N scope C s2 H2 fp pj) ifs (tT X.K fT)/\PE (Zm X N scope C s2 H2 fp pj) elt (tE X.K fE)) :
  PE X (.ListComp elt [⟨tgt,iter,ifs,0⟩] scope pos) (tN X.K (λ env S=>(fI env S).bind λ r=>ZV r.1 (ZO fG fT fE) r.1.fuel 0 (ZJ own caps env) r.2 [])):=by
 intro pj s σ H Q I ⟨mu,env,S,he,hw,acc,S',hf,k⟩;rw[eval_ListComp];refine qq (use:=none) calm cn hi hs blk I he hw hf λ s4 H3 D0 C m mu3 accV v nD J hn fpC e3 w3 rs=>⟨m,hn,λ h5 hs5=>?_⟩;refine⟨.ref D0,_,Vs (t':=s4.toks) (ch:=[C]) J (λ b hb=>?_)<|λ b o hb e=>hs5.extBut b o (λ z=>hb<|by simp[z]) e,rfl,k accV D0 mu3 H3 e3 w3 nD rs⟩;have:b=C:=by simpa using hb
 subst this;exact fpC
theorem Zd3
  (calm:X.calm=true)(cn:JD X scope N own caps)(hi:PI X tgt iter (tI X.K fI))(hs:∀ y,foldedSetIterable iter X.env y=pure y)
  (blk:∀ (C:Addr) (s2:Shared) (H2:Hp) (fp:List Addr) (pj:zPn),PG (Zm X N scope C s2 H2 fp pj) tgt (tG X.K fG)/\Jx (Zm X N scope C s2 H2 fp pj) ifs (tT X.K fT)/\PE (Zm X N scope C s2 H2 fp pj) elt (tE X.K fE))
  (hsw:swapsWith (.ListComp elt [⟨tgt,iter,ifs,0⟩] scope pos) (some (.Name y py)) spos.line X.env=pure true)(hg:PG X (.Name y py) g) :
  PS X (.Assign [.Name y py] (.ListComp elt [⟨tgt,iter,ifs,0⟩] scope pos) spos) (λ D σ H=>tN X.K (λ env S=>(fI env S).bind λ r=>ZV r.1 (ZO fG fT fE) r.1.fuel 0 (ZJ own caps env) r.2 []) σ H λ v H1=>g v σ H1 D.nx):=by
 intro pj s σ H D I ⟨mu,env,S,he,hw,acc,S',hf,k⟩;rw[exec_Assign_Name_used _ _ _ _ hsw];refine oAa<|wpAny_standAt<|oAa ?_;show wpAny _ X.A (do let _<-comprehension (.ListComp elt [⟨tgt,iter,ifs,0⟩] scope pos) scope X.env _ (newList []) false (eval iter X.env) (some<|assign (.Name y py) X.env)) _ _ s;refine oAa<|oAc (qq (use:=some<|assign (.Name y py) X.env) (RQ:=λ _ s'=>SP X pj D .next s') calm cn hi hs blk I he hw hf λ s4 H3 D0 C m mu3 accV v nD J hn fpC e3 w3 rs=>?_) (λ _ s' hq=>oAb<|oAb hq) λ _ _ e=>e;show wpAny (model X.prog X.w) X.A (assign (.Name y py) X.env<|.ref D0) (λ _ s''=>∃ m,s''.heap.Ns C m/\∀ h',SameBut C s''.heap h'->SP X pj D .next { s'' with heap:=h' }) X.xe s4;obtain⟨oC,es,ep,hoC,rC⟩:=hn;have nocell:∀ v,oC.data≠.cell v:=λ v z=>by
  have q1:=rC.1;rw[z] at q1;cases q1
 have Jp:=J.pinned (λ b hb=>by
  have:b=C:=by simpa using hb
  subst this;exact fpC) (λ b hb=>by
  have:b=C:=by simpa using hb
  subst this;exact⟨oC,hoC,nocell⟩) (fp:=[C])
 have mC:(C,oC)∈ZR [C] s4.heap:=YL (by simp) hoC;refine thn (hg _ s4 σ _ (.ref D0) (.ref D0) D.nx Jp rfl<|k accV D0 mu3 H3 e3 w3 nD rs) λ _ s5 q5=>?_;obtain⟨σ5,H5,I5,q⟩:=q5;have pC:=I5.pin (C,oC)<|oAu _<|oAu _ mC;refine⟨m,⟨oC,es,ep,pC.1,rC⟩,λ h' hs'=>?_⟩;have I6:Inv X pj σ5 H5 s5:=I5.pins_of<|λ p hp=>?_
 ·refine⟨σ5,H5,Vs (t':=s5.toks) (ch:=[C]) I6 (λ b hb=>?_)<|λ b o hb e=>hs'.extBut b o (λ z=>hb<|by simp[z]) e,q⟩;have:b=C:=by simpa using hb
  subst this;obtain⟨f0,f1,f3,f4,f5,f6⟩:=fpC;exact⟨pC.2.1,f1,f3,f4,f5,f6⟩
 ·exact I5.pin p<|oAu _<|mem_append_left _ hp
end
section
variable {X:Cx}{T:Tab}{W k:Nat}{nm:List (Str×NameKind)}{c:Cl}{pj:zPn}{σ:St}{H:Hp}{s:Shared}{mu:List Addr}{S:Sto}
theorem few1(hs:notStar e=true):((backTo pos (starEach [e] X.env)).all (λ x=>!x.1)&&(backToKw pos (keywordEach [] X.env)).all (λ x=>x.1.isSome)
   &&decide (([e]:List Expr).length+([]:List Keyword).length+(if ([]:List Keyword).isEmpty then 0 else 1)<30))=true:=by
  have a1:(backTo pos<|starEach [e] X.env).all (λ x=>!x.1)=true:=by
    have:=Z0 (es:=[e]) (pos:=pos) (env:=X.env) (by simp[hs]);rw[List.all_eq_not_any_not];simpa using this
  rw[a1];rfl
end
section
variable {X:Cx}{T:Tab}{W k:Nat}{nm:List (Str×NameKind)}{c:Cl}{pj:zPn}{σ:St}{H:Hp}{s:Shared}{mu:List Addr}{S:Sto}
theorem Zd4(w:WR X.K mu H S)(h:dtRd S (.ref n)=some kvs)(r:RD X.K mu H (.ref n) v):∃ a us,v=.ref a/\mu[n]?=some a/\Rd H a (.dT us)/\DRel X.K mu H kvs us:=by
 replace h:(match S[n]? with
  |some (.dt kvs)=>some kvs
  |some (.dtf kvs)=>some kvs
  |_=>none)=some kvs:=h
 dsimp only[RD] at r;obtain⟨a,e,rfl⟩:=r;cases q9:S[n]? with
 |none=>rw[q9] at h;cases h
 | some ob=>
  rw[q9] at h;cases ob with
  |lst _=>cases h
  |dk _=>cases h
  |ins _ _=>cases h
  | dt l=>
   cases h
   obtain⟨b,e1,us,e2,r⟩:=w.get q9;rw[e] at e1;cases e1
   exact⟨a,us,rfl,e,.inl e2,r⟩
  | dtf l=>
   cases h
   obtain⟨b,e1,o,us,e2,r⟩:=w.get q9;rw[e] at e1;cases e1
   exact⟨a,us,rfl,e,.inr ⟨o,e2⟩,r⟩
theorem DRel.valS{κ:Type}[DecidableEq κ]{K:Frag}{k:κ}{d:D}:∀ {kvs:List (κ×D)}{us:List (κ×V)},DRel K mu H kvs us->valD kvs k=some d->∃ v,valV us k=some v/\RD K mu H d v
 |[],us,h,e=>by simp[valD] at e
 | p::kvs,us,h,e=>by
  obtain⟨q,r,rfl,e1,hq,t⟩:=h.cases_cons;by_cases hk:p.1=k
  ·have:valD (p::kvs) k=some p.2:=by simp[valD,find?_cons,hk]
   rw[this] at e;cases e
   exact⟨q.2,JU<|e1.trans hk,hq⟩
  ·have:valD (p::kvs) k=valD kvs k:=by simp[valD,find?_cons,hk]
   rw[this] at e;obtain⟨v,h1,h2⟩:=DRel.valS t e;exact⟨v,by rw[JV<|λ z=>hk<|e1.symm.trans z];exact h1,h2⟩
theorem ZfF(hu:X.A.units+1<cLine){a i:Expr}{pos:Pos}{xa xi:Ex}(ha:PE X a (tE X.K (ev c xa)))(hi:PE X i (tE X.K (ev c xi)))(hp:Yd i=true):PE X (.Subscript a i pos) (tE X.K (ev c (.subK xa xi))):=by
 intro pj s σ H Q I ⟨mu,env,S,he,hw,d,S',hf,k⟩;dsimp only[ev] at hf;obtain⟨da,S1,h1,hf⟩:=bP hf;obtain⟨db,S2,h2,hf⟩:=bP hf;dsimp only at hf;cases db with
 | tup ks=>
  dsimp only at hf;split at hf
  ·rename_i hz;obtain⟨kvs,h3,hf⟩:=bO hf;obtain⟨kk,h4,hf⟩:=bO hf;obtain⟨d',h5,e⟩:=bM hf;cases e
   obtain⟨n,rfl⟩:∃ n,da=.ref n:=by
    cases da with
    |ref n=>exact⟨n,rfl⟩
    |_=>cases h3
   refine Zdz hu ha hi (λ _ _=>by cases i<;>first | rfl | (exact absurd hp (show ¬ (false=true) from oAg))) pj s σ H Q I ⟨mu,env,S,he,hw,_,S1,h1,λ x mu1 H1 e1 w1 r1=>⟨mu1,env,S1,he.mono e1,w1,_,S',h2,λ y mu2 H2 e2 w2 r2=>?_⟩⟩
   obtain⟨b,xs,rfl,nb,hb,rs⟩:=r2.tup3_at hz;obtain⟨ad,us,rfl,hm,hd,dr⟩:=Zd4 w2 h3<|RD.mono e2 _ _ r1;rw[U4 h4 rs] at hb;obtain⟨v,hv,rv⟩:=dr.valS h5;refine⟨ad,v,rfl,.inr ⟨us,kk,b,hd,rfl,hb,hv.symm⟩,k v mu2 H2 (e1.trans e2) w2 rv⟩
  ·cases hf
 |_=>cases hf
theorem ZfG(hu:X.A.units+1<cLine)(ho:PE X o (tE X.K (ev c xo)))(hi:PE X i (tE X.K (ev c xi)))(hp:Yd i=true):PG X (.Subscript o i pos) (tG X.K (asg c (.subK xo xi))):=by
 intro pj s σ H v u Q I r ⟨mu,env,S,d,he,hw,hd,env',S',hf,q⟩;dsimp only[asg] at hf;obtain⟨da,S1,h1,hf⟩:=bP hf;obtain⟨db,S2,h2,hf⟩:=bP hf;dsimp only at hf;cases da with
 | ref n=>
  cases db with
  | tup ks=>
   dsimp only at hf;cases q9:S2[n]? with
   |none=>simp only[q9] at hf;cases hf
   | some ob=>
    cases ob with
    |lst _=>simp only[q9] at hf;cases hf
    |dk _=>simp only[q9] at hf;cases hf
    |ins _ _=>simp only[q9] at hf;cases hf
    |dtf _=>simp only[q9] at hf;cases hf
    | dt kvs=>
     simp only[q9] at hf;split at hf
     ·rename_i hz;obtain⟨kk,h3,e⟩:=bM hf;cases e
      refine ZaF ho hi (zI hu) (by intro _;cases i<;>first | rfl | (exact absurd hp (show ¬ (false=true) from oAg))) pj s σ H v u Q I r ?_
      refine⟨mu,env,S,he,hw,_,S1,h1,λ x mu1 H1 e1 w1 r1=>⟨mu1,env,S1,he.mono e1,w1,_,S2,h2,λ y mu2 H2 e2 w2 r2=>?_⟩⟩;obtain⟨b,xs,rfl,nb,hb,rs⟩:=r2.tup3_at hz.1;rw[U4 h3 rs] at hb;obtain⟨a,us,rfl,hm,ha,dr⟩:=Zc4 w2 (show dtOf S2 (.ref n)=some kvs by show (match S2[n]? with | some (.dt kvs)=>some kvs | _=>none)=_;rw[q9])<|RD.mono e2 _ _ r1
      have hl:us.length=kvs.length:=by have:=congrArg List.length dr.1;simpa using this
      have dp:=dr.put (k:=kk)<|RD.mono (e1.trans e2) _ _ hd;have ex:Ext mu2 H2 mu2 (upd H2 a<|.dT<|putK us kk v):=Ext.write w2 hm<|YO ha;have dp2:=dp.mono ex;refine .inr ⟨a,_,rfl,DPut.t ha hb (by rw[hl,ZF];exact hz.2),?_⟩
      exact q σ mu2 _ ((e1.trans e2).trans ex) (w2.writeO hm (YO ha) ⟨_,Zo,dp2.1,dp2.2⟩)<|he.mono<|(e1.trans e2).trans ex
     ·cases hf
  |_=>cases hf
 |_=>cases hf
noncomputable def rJoin(K:Frag):V->List V->Hp->VK->Prop:=λ x xs H Q=>∃ z a l,x=.str z/\xs=[.ref a]/\SqL K H a (l.map V.str)/\Y5 z l=true/\Q (.str (Str.join z l)) H
theorem zK:∀ {l:List Str}{its:List Value},Vals (l.map V.str) its->∃ ps:List (Str×Tok),its=strValues ps/\ps.map (·.1)=l
 |[],its,h=>by cases h;exact⟨[],rfl,rfl⟩
 | x::l,its,h=>by
  cases h with
  | cons hx ht=>
   obtain⟨t,rfl⟩:=hx;obtain⟨ps,rfl,e⟩:=zK ht;exact⟨(x,t)::ps,rfl,by rw[map_cons,e]⟩
theorem Zd5:MtR X "str.join" (rJoin X.K):=by
 intro pj s σ H x xs v us Q I rx rv ⟨z,a,l,ex,exs,hq,hf,q⟩;subst ex exs;obtain⟨w1,rfl,rw1⟩:=vals1 rv;obtain⟨t,rfl⟩:=(show ∃ t,v=Value.str z t from rx);cases (show w1=Value.ref a from rw1)
 obtain⟨its,rv',pl,hz⟩:=I.list hq;obtain⟨ps,rfl,e⟩:=zK rv';unfold Y5 at hf;rw[and_eq_true] at hf;obtain⟨hf,hlen⟩:=hf;have hlen:=oAj hlen;have hf':Builtin.Str.tooLong (Array.foldl (λ n y=>n+y.length+z.length) 0 (ps.map (·.1)).toArray)=false:=by
  rw[e];simpa using hf
 refine call_meets PySem.F.slot_str_join (typeIs_str s z t) PySem.F.entry_str_join (PySem.F.args_str_join_2 _ _) (meets_str_join_list z t a ps hf') ⟨pl.isList,?_⟩;have ej:Builtin.Str.glued z (ps.map (·.1))=Str.join z l:=by rw[StrLaws.glued_eq_join,e]
 match ps,e,ej with
 | [],e,ej=>
  refine⟨?_,.str _,H,I.tok _,⟨_,rfl⟩,by rw[ej];exact q⟩
  show (Builtin.Str.glued z []).length<=sizeLine;rw[StrLaws.glued_eq_join];exact zero_le _
 | [p],e,ej=>
  have e2:p.1=Str.join z l:=by rw[<- e];rfl
  exact⟨.str p.1,H,I,⟨p.2,rfl⟩,by rw[e2];exact q⟩
 | p::p2::r,e,ej=>
  refine⟨?_,.str _,H,I.tok _,⟨_,rfl⟩,by rw[ej];exact q⟩
  show (Builtin.Str.glued z _).length<=sizeLine;rw[ej,ZF];exact hlen
theorem ZfH(ha:PE X a (tE X.K (ev c xa)))(hs:notStar a=true)(hl:Zbc ap pos=true):PE X (.Call (.Attribute (.Constant (.str sep) jj p) "join" ap) [a] [] pos) (tE X.K (ev c (.join sep xa))):=by
 intro pj s σ H Q I ⟨mu,env,S,he,hw,d,S',hf,k⟩;dsimp only[ev] at hf;obtain⟨d0,S1,h1,hf⟩:=bP hf;obtain⟨ds,h2,hf⟩:=bO hf;obtain⟨l,h3,hf⟩:=bO hf;split at hf
 ·rename_i hz;cases hf
  refine Zgz PySem.F.plainAttrs_str PySem.F.slot_str_join PySem.F.type_str_join Zd5 (WN (X:=X)) (Ys ha JH<|Zx hs) rfl (few1 hs) hl (Zx hs) rfl pj s σ H Q I ⟨rfl,⟨mu,env,S,he,hw,d0,_,h1,λ x2 mu2 H2 e2 w2 r2=>?_⟩⟩;obtain⟨ad,xs,rfl,hq,rs⟩:=ZZ w2 h2 r2;obtain⟨ex,_⟩:=UZ h3 rs;subst ex;exact⟨sep,ad,l,rfl,rfl,hq,hz,k _ mu2 H2 e2 w2<|by dsimp only[RD]⟩
 ·cases hf
end
section
variable {X:Cx}{T:Tab}{W k:Nat}{nm:List (Str×NameKind)}{c:Cl}
theorem Zai(he:PE X e (tE X.K (ev c x)))(hg:PG X tg (tG X.K (asg c t)))(hc:swapsWithSole [tg] e pos.line X.env=pure false)(hw:swappedStores [tg] e X.env=pure none)(h1:(assignEach [tg] X.env).map (·.2)=[assign tg X.env]) :
  PS X (.Assign [tg] e pos) (tSt X.K (evS c W (.asg t x))):=by
 intro pj s σ H D I ⟨mu,env,S,her,hwr,fl,hf,q⟩;dsimp only[evS] at hf;obtain⟨d,S1,h2,hf⟩:=bP hf;obtain⟨⟨env',S2⟩,h3,e'⟩:=bM hf;cases e'
 refine ZeK he hg hc hw h1 pj s σ H D I ?_;exact⟨mu,env,S,her,hwr,d,S1,h2,λ v mu1 H1 e1 w1 r1=>⟨mu1,env,S1,d,her.mono e1,w1,r1,env',S2,h3,λ σ' mu' H' e2 w2 r2=>q σ' mu' H' (e1.trans e2) w2 r2⟩⟩
theorem star0(h:notStar a=true):(λ (e:Expr)=>match e with | .Starred ..=>true | _=>false) a=false:=by
 cases a<;>first | rfl | (exact absurd h (show ¬ (false=true) from oAg))
theorem star2(ha:notStar a=true)(hb:notStar b=true):([a,b].any λ (e:Expr)=>match e with | .Starred ..=>true | _=>false)=false:=by
 rw[any_cons,any_cons,List.any_nil];have h1:=star0 ha;have h2:=star0 hb;dsimp only at h1 h2 ⊢;rw[h1,h2];rfl
theorem Zcw(ok:XOk X T W k nm)(hk:X.env.scope.kind=.function)(h:Vt nm x y px py a b=true) :
  swappedStores [.Tuple [.Name x px,.Name y py] kt pt] (.Tuple [a,b] k2 pt2) X.env=pure (some [x,y]):=by
 unfold Vt at h;simp only[and_eq_true,decide_eq_true_eq,not_eq_true',decide_eq_false_iff_not] at h;obtain⟨⟨⟨⟨⟨⟨⟨hx,hy⟩,hne⟩,hl⟩,sa⟩,sb⟩,h1⟩,h2⟩:=h;have hbk:X.env.blockKind=.function:=by unfold Env.blockKind;rw[hk];rfl
 have kx:X.env.kindOf x=some .local:=ok.kl x hx;have ky:X.env.kindOf y=some .local:=ok.kl y hy;have ed:([x,y]:List Str).eraseDups=[x,y]:=by
  have e:(y==x)=false:=beq_eq_false_iff_ne.2<|Ne.symm hne;simp[List.eraseDups_cons,e]
 have nn:([Expr.Name x px,Expr.Name y py].filterMap fun
  |.Name id pos=>if X.env.kindOf id==some .local&&pos.line==px.line then some id else none
  |_=>none)=[x,y]:=by
  simp[kx,ky,hl]
 unfold swappedStores;show (if (!((2:Nat)==2||(2:Nat)==3)||(2:Nat) != 2||X.env.blockKind != .function)=true then pure none else _)=_;rw[hbk];rw[if_neg (by decide)];show (if ([a,b].any λ | .Starred ..=>true | _=>false)=true then pure none else _)=_;rw[star2 sa sb];rw[if_neg oAg];show (if ((([Expr.Name x px,Expr.Name y py].filterMap fun
  |.Name id pos=>if X.env.kindOf id==some .local&&pos.line==px.line then some id else none
  |_=>none).length != 2)||(([Expr.Name x px,Expr.Name y py].filterMap fun
  |.Name id pos=>if X.env.kindOf id==some .local&&pos.line==px.line then some id else none
  |_=>none).eraseDups.length != ([Expr.Name x px,Expr.Name y py].filterMap fun
  |.Name id pos=>if X.env.kindOf id==some .local&&pos.line==px.line then some id else none
  |_=>none).length))=true then pure none else _)=_
 rw[nn,ed];rw[if_neg (by simp)];show (if ([a,b].all (foldedForSure 8))=true then pure none else _)=_;rw[h1,if_neg oAg];show (if ([a,b].all (constantsAlone 8))=true then _ else _)=_;rw[h2,if_neg oAg];show (pure (some ([Expr.Name x px,Expr.Name y py].filterMap fun
  |.Name id pos=>if X.env.kindOf id==some .local&&pos.line==px.line then some id else none
  |_=>none)):Sem (Option<|List Str))=_
 rw[nn]
theorem Zg7(ok:XOk X T W k nm)(h:Vt nm x y px py a b=true)(hi:slot x X.N=some i)(hj:slot y X.N=some j)
  (ha:PE X a (tE X.K (ev c xa)))(hb:PE X b (tE X.K (ev c xb))):PS X (.Assign [.Tuple [.Name x px,.Name y py] kt pt] (.Tuple [a,b] k2 pt2) pos) (tSt X.K (evS c W (.par i j xa xb))):=by
 intro pj s σ H D I ⟨mu,env,S,her,hwr,fl,hf,q⟩;dsimp only[evS] at hf;obtain⟨d,S1,h2,hf⟩:=bP hf;obtain⟨⟨d2,S2⟩,h3,e'⟩:=bM hf;cases e'
 have hsw:=Zcw (X:=X) (pt:=pt) (pt2:=pt2) (kt:=kt) (k2:=k2) ok I.ok.kind h;unfold Vt at h;simp only[and_eq_true,decide_eq_true_eq,not_eq_true',decide_eq_false_iff_not] at h;obtain⟨⟨⟨⟨⟨⟨⟨hx,hy⟩,hne⟩,hl⟩,sa⟩,sb⟩,h5⟩,h6⟩:=h;have hij:i≠j:=λ e=>by
  subst e;have:=(slot_get hi).symm.trans<|slot_get hj;exact hne<|oAk this
 refine ZeL ok.calm ok.nd (slot_get hi) (slot_get hj) hij (ok.kl x hx) (ok.kl y hy) (Ys ha (Ys hb JH<|Zx sb)<|Zx sa) hsw rfl pj s σ H D I ?_;exact⟨mu,env,S,her,hwr,d,S1,h2,λ v mu1 H1 e1 w1 r1=>⟨mu1,env,S1,her.mono e1,w1,d2,S2,h3,λ v2 mu2 H2 e2 w2 r2=>⟨v,v2,rfl,
  q _ mu2 H2 (e1.trans e2) w2<|((her.mono<|e1.trans e2).set i<|RD.mono e2 _ _ r1).set j r2⟩⟩⟩
theorem qr{α β:Type}{f:α->Option β}:∀ {l:List α},(∃ a∈l,f a=none)->(l.filterMap f).length≠l.length
 |[],h=>by obtain⟨a,ha,_⟩:=h;cases ha
 | a::l,h=>by
  have le:∀ l:List α,(l.filterMap f).length<=l.length:=λ l=>List.length_filterMap_le f l;obtain⟨b,hb,e⟩:=h;cases q:f a with
  |none=>rw[List.filterMap_cons_none q,length_cons];have:=le l;lia
  | some c=>
   rw[List.filterMap_cons_some q,length_cons,length_cons]
   rcases List.mem_cons.1 hb with z | z
   ·subst z;rw[e] at q;cases q
   ·have:=qr ⟨b,z,e⟩;lia
theorem Zd6{tes es:List Expr}{k1 k2:Nat}{p1 p2:Pos}(ok:XOk X T W k nm)(h:qo nm tes=true):swappedStores [.Tuple tes k1 p1] (.Tuple es k2 p2) X.env=pure none:=by
 unfold qo at h;unfold swappedStores;show (if (!(tes.length==2||tes.length==3)||es.length != tes.length||X.env.blockKind != .function)=true then pure none else _)=_;split
 ·rfl
 ·rename_i hc;show (if (es.any λ | .Starred ..=>true | _=>false)=true then pure none else _)=_;split
  ·rfl
  ·rw[or_eq_true] at h;have hlen:¬ 4<=tes.length:=λ z=>hc (by
    have a:(tes.length==2)=false:=by simp;omega
    have b:(tes.length==3)=false:=by simp;omega
    rw[a,b];rfl)
   rcases h with h | h
   ·exact absurd (oAj h) hlen
   ·obtain⟨t,ht,hb⟩:=List.any_eq_true.1 h;show (if ((List.filterMap (λ (t:Expr)=>match t with
     |.Name id pos=>if X.env.kindOf id==some .local&&pos.line==((tes.head?.map (·.pos.line)).getD 0) then some id else none
     |_=>none) tes).length != tes.length||_)=true then pure none else _)=_
    rw[if_pos];rw[or_eq_true];refine .inl<|bne_iff_ne.2<|qr ⟨t,ht,?_⟩;cases t<;>first | rfl | skip
    rename_i y p;have hk:=ok.kc y<|.inl<|oAj hb;dsimp only;rw[hk];rfl
theorem Zg8(he:PE X e (tE X.K (ev c x))):PS X (.Return (some e) pos) (tSt X.K (evS c W (.ret x))):=by
 intro pj s σ H D I ⟨mu,env,S,her,hwr,fl,hf,q⟩;dsimp only[evS] at hf;obtain⟨⟨d,S1⟩,h2,e'⟩:=bM hf;cases e'
 exact ZeI he pj s σ H D I ⟨mu,env,S,her,hwr,d,S1,h2,λ v mu1 H1 e1 w1 r1=>q v mu1 H1 e1 w1 r1⟩
theorem p_if(ht:PT X t (tT X.K (evT c x)))(ha:PSs X a (tSt X.K (evSs c W xa)))(hb:PSs X b (tSt X.K (evSs c W xb))):PS X (.If t a b pos) (tSt X.K (evS c W (.ifs x xa xb))):=by
 intro pj s σ H D I ⟨mu,env,S,her,hwr,fl,hf,q⟩;dsimp only[evS] at hf;obtain⟨b',S1,h2,hf⟩:=bP hf;refine Zgp ht ha hb pj s σ H D I ⟨mu,env,S,her,hwr,b',S1,h2,λ mu1 H1 e1 w1=>?_⟩;cases b' with
 |true=>exact⟨mu1,env,S1,her.mono e1,w1,fl,hf,q.ext e1⟩
 |false=>exact⟨mu1,env,S1,her.mono e1,w1,fl,hf,q.ext e1⟩
theorem Zg9:PSs X [] (tSt X.K (evSs c W .nil)):=by
 intro pj s σ H D I ⟨mu,env,S,her,hwr,fl,hf,q⟩;dsimp only[evSs] at hf;cases hf
 exact Zdj pj s σ H D I<|q σ mu H .refl hwr her
theorem Zbn{st:Stmt}{sts:List Stmt}{x:Sm}{xs:Sms}(h1:PS X st (tSt X.K (evS c W x)))(h2:PSs X sts (tSt X.K (evSs c W xs))):PSs X (st::sts) (tSt X.K (evSs c W (.cons x xs))):=by
 intro pj s σ H D I ⟨mu,env,S,her,hwr,fl,hf,q⟩;dsimp only[evSs] at hf;obtain⟨fl1,h3,hf⟩:=bO hf;refine ZbY h1 h2 pj s σ H D I ⟨mu,env,S,her,hwr,fl1,h3,?_⟩;cases fl1 with
 |nx env1 S1=>exact λ σ' mu' H' e1 w1 r1=>⟨mu',env1,S1,r1,w1,fl,hf,q.ext e1⟩
 |rt d S1=>cases hf;exact q
 |bk d S1=>cases hf;exact q
 |ct d S1=>cases hf;exact q
theorem Zha(ok:XOk X T W k nm)(hi:PI X tg it (tI X.K (evI c x)))(hs:∀ y,foldedSetIterable it X.env y=pure y)(hg:PG X tg (tG X.K (asg c t)))(hb:PSs X b (tSt X.K (evSs c W xb))) :
  PS X (.For tg it b [] pos) (tSt X.K (evS c W (.fr t x xb))):=by
 intro pj s σ H D I ⟨mu,env,S,her,hwr,fl,hf,q⟩;dsimp only[evS] at hf;obtain⟨r,S1,h2,hf⟩:=bP hf;dsimp only at hf;generalize hstep:(λ d e1 S1=>(asg c t d e1 S1).bind λ q=>evSs c W xb q.1 q.2)=step at hf;refine ZeN ok.po ok.calm hi hg hb hs pj s σ H D I ?_;refine⟨mu,env,S,her,hwr,r,S1,h2,λ J mu1 H1 e1 w1 src=>?_⟩;refine⟨λ i m σ2 H2=>∃ mu2 env2 S2,Ext mu1 H1 mu2 H2/\WR X.K mu2 H2 S2/\ER X.K mu2 H2 env2 σ2/\Sr.le r i/\forL r step m i env2 S2=some fl,
  ⟨r.fuel,mu1,env,S1,.refl,w1,her.mono e1,by cases r<;>first | exact zero_le _ | exact trivial,hf⟩,?_⟩
 rintro i m σ2 H2 ⟨mu2,env2,S2,e2,w2,r2,hi2,hl⟩;cases m with
 |zero=>dsimp only[forL] at hl;cases hl
 | succ m=>
  dsimp only[forL] at hl;obtain⟨od,hod,hl⟩:=bO hl;have hsrc:=src mu2 H2 S2 e2 w2 i hi2 od hod;cases od with
  | some dd=>
   right
   obtain⟨hlt,go,yl⟩:=hsrc;refine⟨go,λ σ' H'=>∃ mu3 env3 S3,Ext mu1 H1 mu3 H'/\WR X.K mu3 H' S3/\ER X.K mu3 H' env3 σ'/\forL r step m (i+1) env3 S3=some fl,?_,λ v H3 hy=>?_⟩
   ·rintro σ' H' ⟨mu3,env3,S3,e3,w3,r3,hl3⟩;exact⟨m,oAs m,mu3,env3,S3,e3,w3,r3,hlt,hl3⟩
   ·obtain⟨e3,w3,rd⟩:=yl v H3 hy;dsimp only at hl;cases hst:step dd env2 S2 with
    |none=>rw[hst] at hl;cases hl
    | some fl1=>
     rw[hst] at hl;rw[<- hstep] at hst;obtain⟨env4,S4,h5,h6⟩:=bP hst;refine⟨mu2,env2,S2,dd,r2.mono e3,w3,rd,env4,S4,h5,λ σ5 mu5 H5 e5 w5 r5=>⟨mu5,env4,S4,r5,w5,fl1,h6,?_⟩⟩;have e15:Ext mu1 H1 mu5 H5:=(e2.trans e3).trans e5;cases fl1 with
     |nx env6 S6=>exact λ σ6 mu6 H6 e6 w6 r6=>⟨mu6,env6,S6,e15.trans e6,w6,r6,hl⟩
     |ct env6 S6=>exact λ σ6 mu6 H6 e6 w6 r6=>⟨mu6,env6,S6,e15.trans e6,w6,r6,hl⟩
     | bk env6 S6=>
      cases hl
      exact λ σ6 mu6 H6 e6 w6 r6=>q σ6 mu6 H6 (e1.trans<|e15.trans e6) w6 r6
     | rt d6 S6=>
      cases hl
      exact λ v6 mu6 H6 e6 w6 r6=>q v6 mu6 H6 (e1.trans<|e15.trans e6) w6 r6
  | none=>
   left
   cases hl
   exact⟨hsrc,q σ2 mu2 H2 (e1.trans e2) w2 r2⟩
end
section
variable {X:Cx}{T:Tab}{W k:Nat}{nm:List (Str×NameKind)}{N:List Str}
theorem plainT(h:PE X e (tE X.K (ev c x)))(hp:∀ whole,isTrue e X.env whole=(do let v<-whole;standAt e.pos;holding [v] (truthy v))):PE X e (tE X.K (ev c x))/\PT X e (tT X.K (evT c x)):=⟨h,ZdM h hp⟩
theorem oneT(h:PT X a t):PW X (.BoolOp op [a] pos) t:=by
 cases op with
 |And=>exact Zdi h
 |Or=>exact ZeG h
theorem iteT'(ht:PT X t (tT X.K (evT c xt)))(ha:PT X a (tT X.K (evT c xa)))(hb:PT X b (tT X.K (evT c xb))):PT X (.IfExp t a b pos) (tT X.K (evT c (.ite xt xa xb))):=by
 intro pj s σ H Q I ⟨mu,env,S,he,hw,d,S',hf,k⟩;dsimp only[evT,ev] at hf;obtain⟨dz,S5,hf,hz⟩:=bP hf;obtain⟨da,S1,h1,hf⟩:=bP hf;obtain⟨b',h2,hf⟩:=bO hf;obtain⟨b9,hz2,e⟩:=bM hz;cases e
 refine isTrue_IfExp<|thn (ht pj s σ H (λ b'' H'=>b''=b'/\∃ mu1,Ext mu H mu1 H'/\WR X.K mu1 H' S1) I ⟨mu,env,S,he,hw,b',S1,Yw h1 h2,λ mu1 H1 e1 w1=>⟨rfl,mu1,e1,w1⟩⟩) λ b'' s1 ⟨H1,I1,q1⟩=>?_;obtain⟨rfl,mu1,e1,w1⟩:=q1;cases b'' with
 |true=>exact ha pj s1 σ H1 Q I1 ⟨mu1,env,S1,he.mono e1,w1,_,_,Yw hf hz2,λ mu' H' e w=>k mu' H' (e1.trans e) w⟩
 |false=>exact hb pj s1 σ H1 Q I1 ⟨mu1,env,S1,he.mono e1,w1,_,_,Yw hf hz2,λ mu' H' e w=>k mu' H' (e1.trans e) w⟩
theorem Ur{env:Env}:∀ {names:List (Str×NameKind)}{x:Str}{k':NameKind},k'≠.free->names.lookup x=some k' ->
  (names.map λ (n,k)=>if (k==NameKind.free&&env.scope.kind==.function&&env.kindOf n==some .cell) then (n,NameKind.cell) else (n,k)).lookup x=some k'
 |[],x,k',_,h=>by simp at h
 | (n,k)::r,x,k',hk,h=>by
  have ih:=@Ur env r x k' hk;show List.lookup x ((if (k==NameKind.free&&env.scope.kind==.function&&env.kindOf n==some .cell)=true then (n,NameKind.cell) else (n,k))::_)=_;cases q:x==n with
  | true=>
   simp only[lookup_cons,q] at h;cases h
   have z:(k==NameKind.free)=false:=by simpa using hk
   rw[if_neg (by rw[z,Bool.false_and,Bool.false_and];exact oAg)]
   simp only[lookup_cons,q]
  | false=>
   simp only[lookup_cons,q] at h;by_cases z:(k==NameKind.free&&env.scope.kind==.function&&env.kindOf n==some .cell)=true
   ·rw[if_pos z];simp only[lookup_cons,q];exact ih h
   ·rw[if_neg z];simp only[lookup_cons,q];exact ih h
theorem Wb(h:Y9 N nm scope=true):scope.kind=.function/\(∀ p∈scope.names,p.2≠.cell/\scope.names.lookup p.1=some p.2)/\(Yh scope).Nodup /\
  ∀ y∈Jd scope,(nm.lookup y=some .cell\/nm.lookup y=some .free)/\∃ i,slot y N=some i:=by
 unfold Y9 at h;simp only[and_eq_true,decide_eq_true_eq,List.all_eq_true,or_eq_true] at h;obtain⟨⟨⟨h1,h2⟩,h3⟩,h4⟩:=h;exact⟨h1,h2,h3,λ y hy=>⟨(h4 y hy).1,Option.isSome_iff_exists.1 (h4 y hy).2⟩⟩
theorem U5:(y,NameKind.free)∈scope.names↔y∈Jd scope:=by
 unfold Jd;constructor
 ·intro h;exact List.mem_map.2 ⟨(y,.free),List.mem_filter.2 ⟨h,by simp⟩,rfl⟩
 ·intro h;obtain⟨⟨a,b⟩,h1,h2⟩:=List.mem_map.1 h;obtain⟨h3,h4⟩:=List.mem_filter.1 h1;have e:b=.free:=by simpa using h4
  subst e;cases h2
  exact h3
theorem ZfI(ok:XOk X T W k nm)(h:Y9 X.N nm scope=true):JD X scope (Yh scope) (ownN scope).length ((Jd scope).map λ y=>(slot y X.N).getD 0):=by
 obtain⟨h1,h2,h3,h4⟩:=Wb h;refine⟨h1,λ p hp=>(h2 p hp).1,λ p hp hl=>by rw[(h2 p hp).2,hl],λ p hp hf=>⟨by rw[(h2 p hp).2,hf],ok.kc _ (h4 p.1<|U5.1 (by obtain⟨a,b⟩:=p;cases hf;exact hp)).1⟩,h3,by simp[Yh],λ j i hj=>?_⟩
 rw[getElem?_map] at hj;obtain⟨y,hy,e⟩:=bM hj;obtain⟨i',hi'⟩:=(h4 y<|mem_of_getElem? hy).2;rw[hi'] at e;cases e
 refine⟨y,?_,slot_get hi',U5.2<|mem_of_getElem? hy⟩;unfold Yh;rw[getElem?_append_right (by omega)];simpa using hy
theorem Zd7(ok:XOk X T W k nm)(h:Y9 X.N nm scope=true)(hkind:X.env.scope.kind=.function)(C:Addr)(s2:Shared)(H2:Hp)(fp:List Addr)(pj:zPn):XOk (Zm X (Yh scope) scope C s2 H2 fp pj) T W k scope.names:=by
 obtain⟨h1,h2,h3,h4⟩:=Wb h;have fr:∀ x,scope.names.lookup x=some .free->(relabel scope X.env).names.lookup x=some .cell:=λ x hx=>Jw hkind hx<|ok.kc x (h4 x<|U5.1<|Jv hx).1;have nc:∀ x,scope.names.lookup x≠some .cell:=λ x hx=>(h2 _<|Jv hx).1 rfl;have lo:∀ x,scope.names.lookup x=some .local->(relabel scope X.env).names.lookup x=some .local:=λ x hx=>lookup_relabel_local hx;refine⟨ok.calm,ok.room,h3,PassesOwn.never,λ x hx=>?_,λ x hx=>?_,λ x hx=>?_,lo,λ x hx=>?_,ok.bl,ok.fs,ok.gs,ok.gd,ok.cf,ok.ms,ok.mk'⟩
 ·rcases hx with hx | hx | hx
  ·exact .inl<|lo x hx
  ·exact absurd hx<|nc x
  ·exact .inr<|.inl<|fr x hx
 ·unfold Vn at hx;rw[or_eq_true] at hx
  rcases hx with hx | hx
  ·exact⟨.inl<|lo x<|oAj hx,.inr<|lo x<|oAj hx⟩
  ·exact absurd (oAj hx)<|nc x
 ·exact Ur (by decide) hx
 ·rcases hx with hx | hx
  ·exact absurd hx<|nc x
  ·exact fr x hx
structure RX(X:Cx)(T:Tab)(W k:Nat)(nm:List (Str×NameKind))(N:List Str):Prop where
 ok:XOk X T W k nm
 n:X.N=N
abbrev PP(X:Cx)(c:Cl)(e:Expr)(x:Ex):Prop:=PE X e (tE X.K (ev c x))/\PT X e (tT X.K (evT c x))
abbrev PB(X:Cx)(c:Cl)(e:Expr)(x:Ex):Prop:=PE X e (tE X.K (ev c x))/\PW X e (tT X.K (evT c x))
abbrev AA(X:Cx)(c:Cl)(es:List Expr)(xs:Exs):Prop:=PA X es (tA X.K (evs c xs))/\(es=[]->xs=.nil)
abbrev II(X:Cx)(c:Cl)(tg e:Expr)(x:Itx):Prop:=PI X tg e (tI X.K (evI c x))/\∀ y,foldedSetIterable e X.env y=pure y
noncomputable def visK(nm:List (Str×NameKind))(x:Str):Bool:=decide (nm.lookup x=some .local)||decide (nm.lookup x=some .cell)||decide (nm.lookup x=some .free)
section
variable (r:RX X T W k nm N)
include r
theorem Zhb(hn:Zz y=true)(h1:slot y N=some i)(hv:visK nm y=true):PP X (Za T W k) (.Name y pos) (.var i):=by
 refine plainT (ZgQ hn (by rw[r.n];exact h1)<|r.ok.kv _ ?_)<|λ _=>rfl
 unfold visK at hv;rw[or_eq_true,or_eq_true] at hv
 rcases hv with (hv | hv) | hv
 ·exact .inl<|oAj hv
 ·exact .inr<|.inl<|oAj hv
 ·exact .inr<|.inr<|oAj hv
theorem r_gl(hn:Zz y=true)(hl:nm.lookup y=some .globalImplicit):PP X (Za T W k) (.Name y pos) (.gl y):=by
 refine plainT ?_<|λ _=>rfl;have hg:=r.ok.kg _ hl;intro pj s σ H Q I q;obtain⟨mu,env,S,he,hw,d,S',hf,k'⟩:=id q;dsimp only[ev] at hf;obtain⟨d',hc,_⟩:=bM hf;have hc':T.gls.lookup y=some d':=by cases k<;>exact hc
 obtain⟨u,v,hm,rv,rd⟩:=r.ok.gs y d' hc';exact s_gl hn hg hm rv rd hc pj s σ H Q I q
omit r
theorem Zd8(h:(match cc with
        |.none=>some Ex.non
        |.bool b=>some (.bl b)
        |.int i=>some (.int i)
        |.str x=>some (.str x)
        |_=>none)=some x):PP X c (.Constant cc j pos) x:=plainT (ZdN h)<|λ _=>rfl
section
variable {c:Cl}
theorem Zhc(ha:PP X c a xa)(hb:PP X c b xb):PP X c (.BinOp a op b pos) (.bin op xa xb):=plainT (ZgK ha.1 hb.1)<|λ _=>rfl
theorem Zhd(ha:PP X c a xa):PP X c (.UnaryOp .Not a pos) (.not xa):=⟨ZgM ha.1,Zfo ha.2⟩
theorem Zhe(ha:PP X c a xa):PP X c (.UnaryOp .USub a pos) (.neg xa):=plainT (ZgL ha.1)<|λ _=>rfl
theorem ZfJ(h:PB X c (.BoolOp op es pos) x):PP X c (.BoolOp op es pos) x:=⟨h.1,h.2.pt⟩
theorem Zhf(h:PP X c a x):PB X c (.BoolOp op [a] pos) x:=⟨ZeH h.1,oneT h.2⟩
theorem Zhg(h:PP X c a xa)(h2:PB X c (.BoolOp .And (b::es) pos) xb):PB X c (.BoolOp .And (a::b::es) pos) (.and xa xb):=⟨ZgN h.1 h2.1,Zfp h.2 h2.2⟩
theorem b_or(h:PP X c a xa)(h2:PB X c (.BoolOp .Or (b::es) pos) xb):PB X c (.BoolOp .Or (a::b::es) pos) (.or xa xb):=⟨s_or h.1 h2.1,ZgO h.2 h2.2⟩
theorem Zhh(ht:PP X c t xt)(ha:PP X c a xa)(hb:PP X c b xb):PP X c (.IfExp t a b pos) (.ite xt xa xb):=⟨ZgP ht.2 ha.1 hb.1,iteT' ht.2 ha.2 hb.2⟩
theorem Zhi(hp:Yd i=true)(ha:PP X c a xa)(hi:PP X c i xi):PP X c (.Subscript a i pos) (.sub xa xi):=plainT (ZgR ha.1 hi.1 hp)<|λ _=>rfl
theorem Zhj{a:Expr}{lo hi:Option Expr}{p2 pos:Pos}{xa:Ex}{xl xh:Ox}(ha:PP X c a xa)(hl:PO X lo (tO X.K (evO c xl)))(hh:PO X hi (tO X.K (evO c xh))):PP X c (.Subscript a (.Slice lo hi none p2) pos) (.slc xa xl xh):=plainT (ZgY ha.1 hl hh)<|λ _=>rfl
theorem ZfK:PO X none (tO X.K (evO c .no)):=s_no
theorem ZfL(h:PP X c e x):PO X (some e) (tO X.K (evO c (.yes x))):=ZgV h.1
theorem Zhk(h:AA X c es xs):PP X c (.Tuple es j pos) (.tup xs):=plainT (ZgS h.1)<|λ _=>rfl
theorem r_lv(h:AA X c es xs):PP X c (.List es pos) (.lv (.dsp xs)):=plainT (Vp false<|Zc2 h.1)<|λ _=>rfl
theorem r_lr(h:AA X c es xs):PP X c (.List es pos) (.lr (.dsp xs)):=plainT (Vp true<|Zc2 h.1)<|λ _=>rfl
theorem Zhl:AA X c [] .nil:=⟨ZgU,λ _=>rfl⟩
theorem ZfM(hs:notStar e=true)(h:PP X c e x)(t:AA X c es xs):AA X c (e::es) (.cons x xs):=⟨Zfs h.1 t.1 hs,λ z=>nomatch z⟩
theorem ZfN(hs:∀ y,foldedSetIterable e X.env y=pure y)(h:PP X c e x):II X c tg e (.seq x):=⟨Zg5 h.1,hs⟩
end
include r
theorem Zhm(hm:behindInMarks op b=false)(ho:isOp op=false)(ha:PP X (Za T W k) a xa)(hb:PP X (Za T W k) b xb):PP X (Za T W k) (.Compare a [op] [b] pos) (.cmp op xa xb):=by
 have hu:X.A.units+100<cLine:=by have:=r.ok.room.un;omega
 exact⟨WO (s_pc hu ha.1 hb.1) hm,qj (s_pc hu ha.1 hb.1) hm⟩
theorem ZfO(hn:Zz f=true)(hg:nm.lookup f=some .globalImplicit)(hs:es.all notStar=true)(h:AA X (Za T W k) es xs):PP X (Za T W k) (.Call (.Name f p) es [] pos) (.call f xs):=plainT (s_call r.ok hn (r.ok.kg _ hg) hs h.2 h.1)<|λ _=>rfl
theorem Zhn(hf:biOf.lookup f=some b)(hn:Zz f=true)(hg:nm.lookup f=some .globalImplicit)(hs:(e::es).all notStar=true)(h:AA X (Za T W k) (e::es) xs):PP X (Za T W k) (.Call (.Name f p) (e::es) [] pos) (.blt b xs):=plainT (ZgZ r.ok hn (r.ok.kg _ hg) hf hs h.1)<|λ _=>rfl
theorem ZfP(hf:blOf.lookup f=some b)(hn:Zz f=true)(hg:nm.lookup f=some .globalImplicit)(hs:(e::es).all notStar=true)(h:AA X (Za T W k) (e::es) xs):PP X (Za T W k) (.Call (.Name f p) (e::es) [] pos) (.lv (.blt b xs)):=plainT (Vp false<|Zfw r.ok hn (r.ok.kg _ hg) hf hs h.1)<|λ _=>rfl
theorem Zho(hu:(Yb.lookup t).isSome=true)(hg:nm.lookup ("isinstance":Str)=some .globalImplicit)(ht:nm.lookup t=some .globalImplicit)(hs:notStar a=true)(ha:PP X (Za T W k) a xa):PP X (Za T W k) (.Call (.Name "isinstance" p) [a,.Name t pt] [] pos) (.isi xa t):=by
 obtain⟨u,hu⟩:=Option.isSome_iff_exists.1 hu;exact plainT (ZgW r.ok ha.1 hs (r.ok.kg _ hg) (r.ok.kg _ ht) hu)<|λ _=>rfl
omit r
include r
theorem Zd9(hg:nm.lookup ("range":Str)=some .globalImplicit)(hs:notStar a=true)(h:PP X (Za T W k) a x):II X (Za T W k) tg (.Call (.Name "range" p) [a] [] pos) (.rng1 x):=⟨ZfE r.ok (r.ok.kg _ hg) hs h.1,λ _=>rfl⟩
theorem Zea(hl:Vn nm x=true)(h1:slot x N=some i):PG X (.Name x pos) (tG X.K (asg (Za T W k) (.name i))):=ZfC r.ok hl (by rw[r.n];exact h1)
theorem ZfQ(hp:Yd i=true)(ho:PP X (Za T W k) o xo)(hi:PP X (Za T W k) i xi):PG X (.Subscript o i pos) (tG X.K (asg (Za T W k) (.sub xo xi))):=Zg4 (by have:=r.ok.room.un;omega) ho.1 hi.1 hp
omit r
end
end
section
variable {X:Cx}{T:Tab}{W k:Nat}{nm:List (Str×NameKind)}{N:List Str}
noncomputable def Zaj:Tgs->Nat
 |.nil=>0
 |.cons _ ts=>Zaj ts+1
theorem Zbo{c:Cl}{ts:Tgs}:∀ {ds:List D}{env:En}{S:Sto}{r:En×Sto},asgs c ts ds env S=some r->ds.length=Zaj ts:=by
 intro ds
 induction ds generalizing ts with
 | nil=>
  intro env S r h;cases ts with
  |nil=>rfl
  |cons t ts=>simp[asgs] at h
 | cons d ds ih=>
  intro env S r h;cases ts with
  |nil=>simp[asgs] at h
  | cons t ts=>
   dsimp only[asgs] at h;obtain⟨r1,h5,h2⟩:=bO h;rw[length_cons,ih h2];rfl
theorem ZfR:PGs X [] (tGs X.K (asgs (Za T W k) .nil)):=Zg3
theorem Zeb(hs:notStar e=true)(h1:PG X e (tG X.K (asg (Za T W k) t)))(h2:PGs X es (tGs X.K (asgs (Za T W k) ts))):PGs X (e::es) (tGs X.K (asgs (Za T W k) (.cons t ts))):=ZfD h1 h2 hs
theorem ZfS(r:RX X T W k nm N){es:List Expr}{j:Nat}{pos:Pos}{ts:Tgs}(hs:es.all notStar=true)(hl:es.length=Zaj ts)(h:PGs X es (tGs X.K (asgs (Za T W k) ts))):PG X (.Tuple es j pos) (tG X.K (asg (Za T W k) (.tup ts))):=by
 obtain⟨l1,l2⟩:=UO (env:=X.env) hs;intro pj s σ H v u Q I rr ⟨mu,env,S,d,he,hw,hd,env',S',hf,q⟩;cases d with
 | tup ds=>
  replace hf:asgs (Za T W k) ts ds env S=some (env',S'):=hf;obtain⟨a,xs,rfl,hq,rs⟩:=hd.tup_at;exact ZeJ r.ok.calm h l1 l2 pj s σ H _ u Q I rr ⟨a,xs,rfl,hq,by rw[<- rs.length,Zbo hf,hl],mu,env,S,ds,he,hw,rs,env',S',hf,q⟩
 | lst ds=>
  replace hf:asgs (Za T W k) ts ds env S=some (env',S'):=hf;obtain⟨a,xs,rfl,hq,rs⟩:=hd.lst_at;exact ZfA r.ok.calm h l1 l2 pj s σ H _ u Q I rr ⟨a,xs,rfl,hq,by rw[<- rs.length,Zbo hf,hl],mu,env,S,ds,he,hw,rs,env',S',hf,q⟩
 |_=>(first | cases hf | (simp[asg] at hf))
theorem Zbp:Jx X [] (tT X.K (evTs c .nil)):=by
 intro pj s σ H Q I ⟨mu,env,S,he,hw,b,S',hf,q⟩;dsimp only[evTs] at hf;cases hf
 exact wpAny_tests_nil ⟨H,I,q mu H .refl hw⟩
theorem RX.blk(r:RX X T W k nm N)(hc:Y9 N nm scope=true)(hk:X.env.scope.kind=.function)(C:Addr)(s2:Shared)(H2:Hp)(fp:List Addr)(pj:zPn):RX (Zm X (Yh scope) scope C s2 H2 fp pj) T W k scope.names (Yh scope):=
 ⟨Zd7 r.ok (by rw[r.n];exact hc) hk C s2 H2 fp pj,rfl⟩
theorem RX.cn(r:RX X T W k nm N)(hc:Y9 N nm scope=true)(ho:(ownN scope).length=own)(hp:((Jd scope).map λ y=>(slot y N).getD 0)=caps):JD X scope (Yh scope) own caps:=by
 have:=ZfI r.ok (scope:=scope) (by rw[r.n];exact hc)
 rw[r.n,ho,hp] at this;exact this
structure CR(X:Cx)(T:Tab)(W k:Nat)(elt tgt iter:Expr)(ifs:List Expr)(scope:Scope)(own:Nat)(caps:List Nat)(t:Tg)(it:Itx)(xi:Exs)(xe:Ex):Prop where
 n:JD X scope (Yh scope) own caps
 i:II X (Za T W k) tgt iter it
 b:X.env.scope.kind=.function->∀ (C:Addr) (s2:Shared) (H2:Hp) (fp:List Addr) (pj:zPn),PG (Zm X (Yh scope) scope C s2 H2 fp pj) tgt (tG X.K (λ d e S=>asg (Za T W k) t d e S))/\Jx (Zm X (Yh scope) scope C s2 H2 fp pj) ifs (tT X.K (λ e S=>evTs (Za T W k) xi e S))/\PE (Zm X (Yh scope) scope C s2 H2 fp pj) elt (tE X.K (λ e S=>ev (Za T W k) xe e S))
theorem Zhp(r:RX X T W k nm N)(hc:Y9 N nm scope=true)(ho:(ownN scope).length=own)(hp:((Jd scope).map λ y=>(slot y N).getD 0)=caps)(hi:II X (Za T W k) tgt iter it)
  (hb:∀ Y:Cx,RX Y T W k scope.names (Yh scope)->PG Y tgt (tG Y.K (asg (Za T W k) t))/\Jx Y ifs (tT Y.K (evTs (Za T W k) xi))/\PP Y (Za T W k) elt xe):CR X T W k elt tgt iter ifs scope own caps t it xi xe:=
 ⟨r.cn hc ho hp,hi,λ hk C s2 H2 fp pj=>by
  obtain⟨a,b,c⟩:=hb _<|r.blk hc hk C s2 H2 fp pj;exact⟨a,b,c.1⟩⟩
theorem ZfT(r:RX X T W k nm N)(cr:CR X T W k elt tgt iter ifs scope own caps t it xi xe)(b:Bool) :
  PP X (Za T W k) (.ListComp elt [⟨tgt,iter,ifs,0⟩] scope pos) (asL b (.comp own caps t it xi xe)):=by
 refine plainT (Vp b ?_)<|λ _=>rfl;intro pj s σ H Q I q;have pc:=zJ (elt:=elt) (tgt:=tgt) (iter:=iter) (ifs:=ifs) (pos:=pos) r.ok.calm cr.n cr.i.1 cr.i.2<|cr.b I.ok.kind;refine pc pj s σ H Q I ?_;obtain⟨mu,env,S,he,hw,d,S',hf,k'⟩:=q;exact⟨mu,env,S,he,hw,d,S',by dsimp only[evL] at hf;exact hf,k'⟩
theorem Zec(r:RX X T W k nm N)(cr:CR X T W k elt tgt iter ifs scope own caps t it xi xe) :
  PP X (Za T W k) (.ListComp elt [⟨tgt,iter,ifs,0⟩] scope pos) (.lv (.comp own caps t it xi xe)):=ZfT r cr false
theorem Zhq(hc:swapsWithSole [tg] e pos.line X.env=pure false)(hw:swappedStores [tg] e X.env=pure none)(h1:(assignEach [tg] X.env).map (·.2)=[assign tg X.env])(he:PP X (Za T W k) e x)(hg:PG X tg (tG X.K (asg (Za T W k) t))):PS X (.Assign [tg] e pos) (tSt X.K (evS (Za T W k) W (.asg t x))):=Zai he.1 hg hc hw h1
theorem ZfU(r:RX X T W k nm N)(hn:qo nm tes=true)(he:PP X (Za T W k) (.Tuple es k2 p2) x)(hg:PG X (.Tuple tes k1 p1) (tG X.K (asg (Za T W k) t))):PS X (.Assign [.Tuple tes k1 p1] (.Tuple es k2 p2) pos) (tSt X.K (evS (Za T W k) W (.asg t x))):=Zai he.1 hg rfl (Zd6 r.ok hn) rfl
theorem ZfV(r:RX X T W k nm N)(hs:Zc5 nm y py scope pos=true)(hg:PG X (.Name y py) (tG X.K (asg (Za T W k) t)))(cr:CR X T W k elt tgt iter ifs scope own caps t' it xi xe) :
  PS X (.Assign [.Name y py] (.ListComp elt [⟨tgt,iter,ifs,0⟩] scope pos) spos) (tSt X.K (evS (Za T W k) W (.asg t (.lv (.comp own caps t' it xi xe))))):=by
 intro pj s σ H D I ⟨mu,env,S,her,hwr,fl,hf,q⟩;dsimp only[evS] at hf;obtain⟨d,S1,h2,hf⟩:=bP hf;obtain⟨⟨env',S2⟩,h3,e'⟩:=bM hf;cases e'
 unfold Zc5 at hs;rw[and_eq_true,and_eq_true] at hs;have hbk:X.env.blockKind=.function:=by unfold Env.blockKind;rw[I.ok.kind];rfl
 have hsw:swapsWith (.ListComp elt [⟨tgt,iter,ifs,0⟩] scope pos) (some<|.Name y py) spos.line X.env=pure true:=by
  unfold swapsWith;show (pure (X.env.blockKind==.function&&X.env.kindOf y==some .local&&py.line==pos.line&&!(scope.names.any λ (n,k)=>n==y&&(k==.local||k==.cell))):Sem Bool)=_;have ky:X.env.kindOf y=some .local:=r.ok.kl y<|oAj hs.1.1;rw[hbk,ky,hs.1.2,hs.2];rfl
 refine Zd3 (elt:=elt) (tgt:=tgt) (iter:=iter) (ifs:=ifs) (pos:=pos) r.ok.calm cr.n cr.i.1 cr.i.2 (cr.b I.ok.kind) hsw hg pj s σ H D I ?_;dsimp only[ev] at h2;obtain⟨⟨ds,S3⟩,h4,e⟩:=bM h2;cases e
 dsimp only[evL] at h4;refine⟨mu,env,S,her,hwr,ds,_,h4,λ vs p mu1 H1 e1 w1 hp r1=>?_⟩;exact⟨mu1,env,_,_,her.mono<|e1.trans<|Ext.new w1 hp,w1.keep hp,qk w1 hp r1,env',S2,h3,λ σ' mu' H' e2 w2 r2=>q σ' mu' H' ((e1.trans<|Ext.new w1 hp).trans e2) w2 r2⟩
theorem Zhr(r:RX X T W k nm N)(h:Vt nm x y px py a b=true)(hi:slot x N=some i)(hj:slot y N=some j)(ha:PP X (Za T W k) a xa)(hb:PP X (Za T W k) b xb):PS X (.Assign [.Tuple [.Name x px,.Name y py] kt pt] (.Tuple [a,b] k2 pt2) pos) (tSt X.K (evS (Za T W k) W (.par i j xa xb))):=Zg7 r.ok h (by rw[r.n];exact hi) (by rw[r.n];exact hj) ha.1 hb.1
theorem Zhs(he:PP X (Za T W k) e x):PS X (.Return (some e) pos) (tSt X.K (evS (Za T W k) W (.ret x))):=Zg8 he.1
theorem q_if(ht:PP X (Za T W k) t x)(ha:PSs X a (tSt X.K (evSs (Za T W k) W xa)))(hb:PSs X b (tSt X.K (evSs (Za T W k) W xb))):PS X (.If t a b pos) (tSt X.K (evS (Za T W k) W (.ifs x xa xb))):=p_if ht.2 ha hb
theorem Zht(r:RX X T W k nm N)(hi:II X (Za T W k) tg it x)(hg:PG X tg (tG X.K (asg (Za T W k) t)))(hb:PSs X b (tSt X.K (evSs (Za T W k) W xb))):PS X (.For tg it b [] pos) (tSt X.K (evS (Za T W k) W (.fr t x xb))):=Zha r.ok hi.1 hi.2 hg hb
end
section
variable {X:Cx}{T:Tab}{W k:Nat}{nm:List (Str×NameKind)}{c:Cl}{pj:zPn}{σ:St}{H:Hp}{s:Shared}{mu:List Addr}{S:Sto}
noncomputable def ItT(d:Addr)(o:Obj)(us:List (List Key×V)):It:=⟨λ i H=>H d=some (.frz o (.dT us))/\i<us.length,λ i H x H'=>H'=H/\∃ b p,x=.ref b/\us[i]?=some p/\H b=some (.tup (p.1.map kV)),λ i H=>H d=some (.frz o (.dT us))/\us.length<=i⟩
theorem Wc{α β:Type}{R:α->β->Prop}:∀ {l:List α}{m:List β}{i:Nat}{x:α},Paired R l m->l[i]?=some x->∃ y,m[i]?=some y/\R x y
 |_,_,i,x,.nil,e=>by simp at e
 |_,_,0,x,.cons r _,e=>by simp at e;subst e;exact⟨_,rfl,r⟩
 | _,_,i+1,x,.cons _ t,e=>by
  obtain⟨y,h1,h2⟩:=Wc (i:=i) t (by simpa using e);exact⟨y,by simpa using h1,h2⟩
theorem Zbq{d:Addr}{o:Obj}{us:List (List Key×V)}{es:Array DictEntry}{ep:Nat}(hok:HOk X.prog X.w H s.heap)(e:H d=some (.frz o (.dT us)))(hd:o.data=.dict es ep):s.heap.get? d=some o/\es.size=us.length/\∀ (i:Nat) (p:List Key×V),us[i]?=some p->∃ en b,es[i]?=some en/\en.key=.ref b/\H b=some (.tup (p.1.map kV)):=by
 obtain⟨h1,h2⟩:=(show s.heap.get? d=some o/\Zr X.prog X.w H s.heap d (.dT us) from hok d _ e);obtain⟨z,hs,xs,rel,o',es',ep',g1,g2,g3,g4,g5⟩:=h2;rw[h1] at g1;cases g1
 rw[hd] at g3;cases g3
 have hl:es.size=xs.length:=by
  have:=congrArg List.length g4;simpa using this
 refine⟨h1,by rw[hl];exact(Paired.length rel).symm,λ i p hp=>?_⟩
 obtain⟨q,q1,q2⟩:=Wc rel hp;refine⟨entryOfKey (tupleKind<|ZA X.prog X.w) q,q.2.1,?_,rfl,?_⟩
 ·rw[<- getElem?_toList,g4,getElem?_map,q1];rfl
 ·rw[q2.2.1]
theorem Zed{P:Program}{w:World}{K:Frag}{tg:Expr}(d it:Addr)(o:Obj)(us:List (List Key×V))(es:Array DictEntry)(ep:Nat)(hd:o.data=.dict es ep)(hz:es.size=us.length):Turn P w K tg (ItT d o us) [it] it (λ i h=>h.IsKeyIter it d i es.size ep) where
 mem:=by simp
 obj:=λ i h st b hb=>by
  have:b=it:=by simpa using hb
  subst this;obtain⟨o,e,c,d⟩:=st;exact⟨o,e,λ v z=>by rw[d] at z;cases z⟩
 keep:=λ i h h' st k=>st.at λ o e=>k it (by simp) o e
 item:=by
  intro X hP hw hK hc i pj s σ H E I hf st hg;subst hP hw hK;obtain⟨f0,f1,f2,f3,f4,f5⟩:=hf it (by simp);obtain⟨h1,_,h3⟩:=Zbq I.hok hg.1 hd;obtain⟨en,b,h4,h5,h6⟩:=h3 i (us[i]'hg.2)<|oAt hg.2;refine DI.ZdJ h1 hd st h4 λ h' st' sb=>?_;have I1:Inv X pj σ H { s with heap:=h' }:=I.turned (t':=s.toks) (λ b o hb e=>(sb.2 b hb).trans e) f0 f1 f3 f4 f5;obtain⟨oi,e,c,dd⟩:=id st';refine⟨en.key,rfl,U9 (s:={ s with heap:=h' }) e c dd (by decide) ⟨.ref b,H,I1,?_,⟨rfl,b,us[i]'hg.2,rfl,oAt hg.2,h6⟩,st',λ b hb=>(hf b hb).1⟩⟩;rw[h5];rfl
 done:=by
  intro X hP hw hK hc i pj s σ H E I hf st hg;subst hP hw hK;obtain⟨f0,f1,f2,f3,f4,f5⟩:=hf it (by simp);obtain⟨h1,h2,h3⟩:=Zbq I.hok hg.1 hd;exact DI.Zfj (I.ok.hd hc) h1 hd st (by rw[Array.getElem?_eq_none];rw[h2];exact hg.2) λ h' eb=>⟨rfl,I.turned (t':=s.toks) (λ b o hb e=>eb b o hb e) f0 f1 f3 f4 f5⟩
 self:=λ _ _ _ _ _ st h=>wpAny_pyIter_keyiter st h
theorem Inv.freeze(I:Inv X pj σ H s)(e:H d=some (.dT us)):∃ o es ep,s.heap.get? d=some o/\o.ExactDict/\(d==sysModules)=false/\o.data=.dict es ep/\es.size=us.length/\Inv X pj σ (upd H d (.frz o (.dT us))) s:=by
 obtain⟨z,hs,xs,rel,o,es,ep,g1,g2,g3,g4,g5⟩:=(show Zr X.prog X.w H s.heap d (.dT us) from I.hok d _ e);have hl:es.size=us.length:=by
  have:=congrArg List.length g4;rw[Paired.length rel];simpa using this
 refine⟨o,es,ep,g1,g2,hs,g3,hl,?_⟩;have:=I.write (x:=d) (e:=d) (o:=.frz o<|.dT us) (t':=s.toks) (h':=s.heap) (by rw[e];exact True.intro) (.inl rfl) (λ b u _ z=>z) ⟨o,g1⟩ ⟨g1,z,hs,xs,Paired.mapP rel λ p q hq=>⟨hq.1,by rw[Zf<|JT hq.2.1 e (λ z=>nomatch z)];exact hq.2.1,hq.2.2⟩,o,es,ep,g1,g2,g3,g4,g5⟩
 exact this
theorem Inv.thaw(I:Inv X pj σ H s)(e:H d=some (.frz o (.dT us)))(hn:∀ o u,X.H₀ d≠some (.frz o u)):Inv X pj σ (upd H d (.dT us)) s:=by
 have nn:∀ b,H b=none->upd H d (.dT us) b=none:=λ b hb=>by rw[Zf (λ z=>by subst z;rw[e] at hb;cases hb)];exact hb
 refine⟨I.ok,I.os,I.bare,⟨I.base.keep,I.base.slot,λ b o' q n hx=>nn b<|I.base.free b o' q n hx,I.base.there,λ b xs q=>?_,λ b o' u q=>?_,λ b ps q=>?_⟩,I.loc,I.cell,nn _ I.free,λ x c q=>nn c<|I.freeC x c q,λ p hp=>?_,λ b u q=>?_,I.len⟩
 ·have z:=I.base.tups b xs q;rw[Zf<|JT z e (λ z=>nomatch z)];exact z
 ·have z:=I.base.frzs b o' u q;rw[Zf (λ w=>by subst w;exact hn o' u q)];exact z
 ·obtain⟨more,z⟩:=I.base.tbls b ps q;exact⟨more,by rw[Zf<|JT z e (λ z=>nomatch z)];exact z⟩
 ·obtain⟨p1,p2,p3⟩:=I.pin p hp;exact⟨p1,nn _ p2,p3⟩
 ·by_cases hb:b=d
  ·subst hb;rw[Zo] at q;cases q
   obtain⟨h1,z,hs,xs,rel,rest⟩:=(show s.heap.get? b=some o/\Zr X.prog X.w H s.heap b (.dT us) from I.hok b _ e);exact⟨z,hs,xs,Paired.mapP rel λ p q hq=>⟨hq.1,by rw[Zf<|JT hq.2.1 e (λ z=>nomatch z)];exact hq.2.1,hq.2.2⟩,rest⟩
  ·rw[Zf hb] at q;refine(I.hok b u q).stay (λ c v hc q=>q) (λ c q=>by rw[Zf<|JT q e (λ z=>nomatch z)];exact q) λ c xs q=>by rw[Zf<|JT q e (λ z=>nomatch z)];exact q
structure Ext0(mu:List Addr)(H:Hp)(mu':List Addr)(H':Hp):Prop where
 more:∃ z,mu'=mu++z
 keep:∀ a o,H a=some o->a∉mu->H' a=some o/\a∉mu'
theorem Ext0.get{mu mu':List Addr}{H H':Hp}(e:Ext0 mu H mu' H'){n:Nat}{a:Addr}(h:mu[n]?=some a):mu'[n]?=some a:=by
 obtain⟨z,rfl⟩:=e.more;have:n<mu.length:=(List.getElem?_eq_some_iff.1 h).1;rw[getElem?_append_left this];exact h
theorem Ext0.rd(e:Ext0 mu H mu' H')(n:a∉mu)(h:Rd H a u):a∉mu'/\Rd H' a u:=by
 rcases h with h | ⟨o,h⟩
 ·exact⟨(e.keep a _ h n).2,.inl (e.keep a _ h n).1⟩
 ·exact⟨(e.keep a _ h n).2,.inr ⟨o,(e.keep a _ h n).1⟩⟩
mutual
theorem RD.mono0{K:Frag}{mu mu':List Addr}{H H':Hp}(e:Ext0 mu H mu' H'):∀ (d:D) (v:V),RD K mu H d v->RD K mu' H' d v
 |.non,v,h=>by dsimp only[RD] at h ⊢;exact h
 |.bl _,v,h=>by dsimp only[RD] at h ⊢;exact h
 |.int _,v,h=>by dsimp only[RD] at h ⊢;exact h
 |.str _,v,h=>by dsimp only[RD] at h ⊢;exact h
 | .tup ds,v,h=>by
  dsimp only[RD] at h ⊢;obtain⟨a,xs,ev,h,hs⟩:=h;refine⟨a,xs,ev,?_,RDs.mono0 e ds xs hs⟩
  rcases h with ⟨n,h⟩ | h
  ·exact .inl ⟨(e.keep a _ h n).2,(e.keep a _ h n).1⟩
  ·exact .inr h
 | .lst ds,v,h=>by
  dsimp only[RD] at h ⊢;obtain⟨a,xs,ev,h,hs⟩:=h;refine⟨a,xs,ev,?_,RDs.mono0 e ds xs hs⟩
  rcases h with ⟨n,h⟩ | h
  ·exact .inl<|e.rd n h
  ·exact .inr h
 | .ref n,v,h=>by
  dsimp only[RD] at h ⊢;obtain⟨a,h,ev⟩:=h;exact⟨a,e.get h,ev⟩
theorem RDs.mono0{K:Frag}{mu mu':List Addr}{H H':Hp}(e:Ext0 mu H mu' H'):∀ (d:List D) (v:List V),RDs K mu H d v->RDs K mu' H' d v
 |[],v,h=>by dsimp only[RDs] at h ⊢;exact h
 | d::ds,v,h=>by
  dsimp only[RDs] at h ⊢;obtain⟨x,r,a,b,c⟩:=h;exact⟨x,r,a,RD.mono0 e d x b,RDs.mono0 e ds r c⟩
end
theorem RO.mono0{K:Frag}{mu mu':List Addr}{H H':Hp}(e:Ext0 mu H mu' H'){a:Addr}{o:Ob}(hk:H' a=H a)(h:RO K mu H a o):RO K mu' H' a o:=by
 cases o with
 | lst ds=>
  obtain⟨xs,h1,h2⟩:=h;exact⟨xs,by rw[hk];exact h1,RDs.mono0 e _ _ h2⟩
 | dk kvs=>
  obtain⟨xs,h1,h0,h2⟩:=h;exact⟨xs,by rw[hk];exact h1,h0,RDs.mono0 e _ _ h2⟩
 | dt kvs=>
  obtain⟨xs,h1,h0,h2⟩:=h;exact⟨xs,by rw[hk];exact h1,h0,RDs.mono0 e _ _ h2⟩
 | dtf kvs=>
  obtain⟨o,xs,h1,h0,h2⟩:=h;exact⟨o,xs,by rw[hk];exact h1,h0,RDs.mono0 e _ _ h2⟩
 | ins C fs=>
  obtain⟨Ca,dx,xs,h1,h0,h3,h2⟩:=h;exact⟨Ca,dx,xs,by rw[hk];exact h1,h0,h3,RDs.mono0 e _ _ h2⟩
theorem WR.thaw{K:Frag}(w:WR K mu H S){n:Nat}{a:Addr}{kvs:List (List Key×D)}{us:List (List Key×V)}(h:mu[n]?=some a)(hn:n<S.length)(dr:DRel K mu H kvs us):Ext0 mu H mu (upd H a (.dT us))/\WR K mu (upd H a (.dT us)) (S.set n (.dt kvs)):=by
 have ex:Ext0 mu H mu (upd H a<|.dT us):=⟨⟨[],by simp⟩,λ b u e hb=>⟨by
  rw[Zf];exact e
  intro z;subst z
  exact hb<|mem_of_getElem? h,hb⟩⟩
 refine⟨ex,by simp[w.len],w.nd,λ i u e=>?_⟩;by_cases hi:n=i
 ·subst hi;rw[getElem?_set_self hn] at e;cases e
  exact⟨a,h,us,Zo,dr.1,RDs.mono0 ex _ _ dr.2⟩
 ·rw[getElem?_set_ne hi] at e;obtain⟨b,h1,h2⟩:=w.ob i u e;refine⟨b,h1,h2.mono0 ex ?_⟩;rw[Zf];intro z;subst z
  exact hi<|w.same h h1
theorem WR.notup{K:Frag}(w:WR K mu H S){b:Addr}{xs:List V}(h:H b=some (.tup xs)):b∉mu:=λ hm=>by
 obtain⟨n,hn,e⟩:=List.mem_iff_getElem.1 hm;obtain⟨o,ho⟩:∃ o,S[n]?=some o:=⟨S[n]'(by rw[<- w.len];exact hn),by simp⟩
 obtain⟨a,h1,h2⟩:=w.ob n o ho;have:a=b:=by rw[oAt hn] at h1;rw[<- e];exact(oAk h1).symm
 subst this;cases o with
 |lst ds=>obtain⟨xs,h1,_⟩:=h2;rw[h1] at h;cases h
 |dk ds=>obtain⟨xs,h1,_⟩:=h2;rw[h1] at h;cases h
 |dt ds=>obtain⟨xs,h1,_⟩:=h2;rw[h1] at h;cases h
 |dtf ds=>obtain⟨o,xs,h1,_⟩:=h2;rw[h1] at h;cases h
 |ins C fs=>obtain⟨Ca,dx,xs,h1,_⟩:=h2;rw[h1] at h;cases h
theorem Wd{K:Frag}:∀ l:List Key,RDs K mu H (l.map unkey) (l.map kV)
 |[]=>.nil
 |x::l=>.cons Zcv<|Wd l
theorem Zhu{e tg:Expr}{x:Ex}(h:PE X e (tE X.K (ev c x))):PI X tg e (tI X.K (evI c (.dkt x))):=by
 intro pj s σ H R I ⟨mu,env,S,he,hw,ds,S',hf,q⟩;dsimp only[evI] at hf;obtain⟨da,S1,h1,hf⟩:=bP hf;cases da with
 | ref n=>
  dsimp only at hf;cases q9:S1[n]? with
  |none=>rw[q9] at hf;cases hf
  | some ob=>
   rw[q9] at hf;cases ob with
   | dt kvs=>
    cases hf
    refine thn (h pj s σ H (λ v H1=>Nx X.K mu H H1 S1 λ mu1=>RD X.K mu1 H1 (.ref n) v) I ⟨mu,env,S,he,hw,_,S1,h1,λ v mu1 H1 e1 w1 r1=>⟨mu1,e1,w1,r1⟩⟩) λ v s1 ⟨xv,H1,I1,rx,mu1,e1,w1,r1⟩=>?_;obtain⟨a,us,rfl,hm,ha,dr⟩:=Zc4 w1 (show dtOf S1 (.ref n)=some kvs by show (match S1[n]? with | some (.dt kvs)=>some kvs | _=>none)=_;rw[q9]) r1
    cases rx
    obtain⟨o,es,ep,ho,hc,hs,hd,hz,I2⟩:=Inv.freeze I1 ha;have ex:Ext mu1 H1 mu1 (upd H1 a<|.frz o<|.dT us):=Ext.write w1 hm<|YO ha;have dr2:=dr.mono ex;have w2:WR X.K mu1 (upd H1 a<|.frz o<|.dT us) (S1.set n<|.dtf kvs):=w1.writeO hm (YO ha) ⟨o,us,Zo,dr2.1,dr2.2⟩;refine DI.ZdK hs hc ho hd ?_;refine⟨s1.heap.objs.size,[s1.heap.objs.size],_,_,_,rfl,I2.kept (t':=s1.toks) λ b o e=>oAd _ e,Zed a s1.heap.objs.size o us es ep hd hz,⟨_,oAe _ rfl,rfl,rfl⟩,λ b hb=>?_,q _ mu1 _ (e1.trans ex) w2 ?_⟩
    ·have:b=s1.heap.objs.size:=by simpa using hb
     subst this;exact I2.fpOk (oAl _)<|I2.hok.fresh<|oAl _
    ·have hl:us.length=kvs.length:=by have:=congrArg List.length dr.1;simpa using this
     refine JO λ mu3 H3 S3 ex3 w3 i=>⟨λ d hd'=>?_,λ hi=>?_⟩
     ·have hi:i<kvs.length:=by
       have:=(List.getElem?_eq_some_iff.1 hd').1;simpa using this
      refine⟨⟨ex3.frz a o _ Zo,by rw[hl];exact hi⟩,λ x H4 ⟨e4,b,p,ex',hp,hb⟩=>?_⟩
      subst e4 ex';refine⟨.refl,w3,?_⟩;rw[getElem?_map,oAt hi] at hd';have ed:D.tup (kvs[i].1.map unkey)=d:=by simpa using hd'
      have ep:p.1=kvs[i].1:=by
       have z:=congrArg (λ l=>l[i]?) dr.1;simp only[getElem?_map,hp,List.getElem?_eq_getElem hi] at z;simpa using z
      rw[<- ed];dsimp only[RD]
      exact⟨b,_,rfl,.inl ⟨w3.notup hb,hb⟩,by rw[<- ep];exact Wd _⟩
     ·exact⟨ex3.frz a o _ Zo,by simp at hi;lia⟩
   |_=>cases hf
 |_=>cases hf
theorem Zcx(h:a≠b):upd (upd H a u) b v=upd (upd H b v) a u:=by
 funext x
 unfold upd;by_cases h1:x=a
 ·subst h1;simp[h]
 ·by_cases h2:x=b
  ·subst h2;simp[h1]
  ·simp[h1,h2]
theorem Zee{elt tgt iter:Expr}{scope:Scope}{pos:Pos}{N:List Str}{own i:Nat}{caps:List Nat}{t:Tg}{xe:Ex}(calm:X.calm=true)(cn:JD X scope N own caps)(hi:PE X iter (tE X.K (ev c (.var i))))(hs:∀ y,foldedSetIterable iter X.env y=pure y)
  (blk:X.env.scope.kind=.function->∀ (C:Addr) (s2:Shared) (H2:Hp) (fp:List Addr) (pj:zPn),PG (Zm X N scope C s2 H2 fp pj) tgt (tG X.K (λ d e S=>asg c t d e S))/\PE (Zm X N scope C s2 H2 fp pj) elt (tE X.K (λ e S=>ev c xe e S))) :
  PE X (.ListComp elt [⟨tgt,iter,[],0⟩] scope pos) (tN X.K (evL c (.compD own caps t (.var i) xe))):=by
 intro pj s σ H Q I ⟨mu,env,S,he,hw,acc,S',hf,kk⟩;dsimp only[evL] at hf;obtain⟨da,S1,h1,hf⟩:=bP hf;have eS:S1=S:=by
  dsimp only[ev] at h1;split at h1
  ·cases h1;rfl
  ·cases h1
 subst eS;cases da with
 | ref n=>
  dsimp only at hf;cases q9:S1[n]? with
  |none=>rw[q9] at hf;cases hf
  | some ob=>
   rw[q9] at hf;cases ob with
   | dt kvs=>
    dsimp only at hf;obtain⟨ac,S2,h2,hf⟩:=bP hf;dsimp only at hf;cases q8:S2[n]? with
    |none=>rw[q8] at hf;cases hf
    | some ob2=>
     rw[q8] at hf;cases ob2 with
     | dtf kvs'=>
      cases hf
      obtain⟨a,hm,us0,ha,_⟩:=hw.get q9;have bk:=blk I.ok.kind;refine oAc (zJ (elt:=elt) (tgt:=tgt) (iter:=iter) (ifs:=[]) (pos:=pos) (fI:=evI c<|.dkt<|.var i) (fG:=λ d e S=>asg c t d e S) (fT:=λ e S=>evTs c .nil e S) (fE:=λ e S=>ev c xe e S) calm cn (Zhu hi) hs (λ C s2 H2 fp pj=>⟨(bk C s2 H2 fp pj).1,Zbp,(bk C s2 H2 fp pj).2⟩) pj s σ H (λ v H'=>∃ p vs mu1 H1,v=.ref p/\H'=upd H1 p (.lst vs)/\Ext mu H mu1 H1/\WR X.K mu1 H1 S2/\H1 p=none/\RDs X.K mu1 H1 acc vs) I ⟨mu,env,S1,he,hw,acc,S2,?_,λ vs p mu1 H1 e1 w1 hp rs=>⟨p,vs,mu1,H1,rfl,rfl,e1,w1,hp,rs⟩⟩) (λ v s4 q4=>?_) λ _ _ z=>z
      ·have e0:evI c (.dkt<|.var i) env S1=some (.vs<|kvs.map λ kv=>D.tup<|kv.1.map unkey,S1.set n<|.dtf kvs):=by
        dsimp only[evI];rw[h1]
        dsimp only[Option.bind];rw[q9]
       show (evI c (.dkt<|.var i) env S1).bind _=_;rw[e0];show ZV (.vs<|kvs.map λ kv=>D.tup<|kv.1.map unkey) (ZO (λ d e S=>asg c t d e S) (λ e S=>evTs c .nil e S)<|λ e S=>ev c xe e S) (Sr.fuel<|.vs<|kvs.map λ kv=>D.tup<|kv.1.map unkey) 0 (ZJ own caps env) (S1.set n<|.dtf kvs) []=_;have ef:Sr.fuel (.vs<|kvs.map λ kv=>D.tup<|kv.1.map unkey)=kvs.length+1:=by show (kvs.map _).length+1=_;rw[length_map]
       rw[ef];have et:(λ e S=>evTs c .nil e S)=(λ (e:En) (S:Sto)=>some (true,S)):=by funext e S;dsimp only[evTs]
       rw[et];exact h2
      ·obtain⟨xv,H4,J,rx,p,vs,mu1,H1,ex,eH,e1,w1,hp,rs⟩:=q4;subst ex eH;obtain⟨a',hm',o,us,ha',dr⟩:=w1.get q8;have ea:a'=a:=by
        have:=e1.get hm;rw[hm'] at this;exact oAk this
       subst ea;have nap:a'≠p:=λ z=>by rw[z,hp] at ha';cases ha'
       have hn2:n<S2.length:=(List.getElem?_eq_some_iff.1 q8).1;obtain⟨x0,w2⟩:=w1.thaw (kvs:=kvs') hm' hn2 dr;have J2:=Inv.thaw (d:=a') (o:=o) (us:=us) J (by rw[Zf nap];exact ha') (λ o' u' z=>by
        have:=I.base.frzs a' o' u' z;rw[ha] at this;cases this)
       rw[Zcx nap.symm] at J2;refine⟨.ref p,_,J2,rx,kk vs p mu1 _ ⟨e1.more,λ b u hb nb=>?_,λ b o' u hb=>?_⟩ w2 (by rw[Zf nap.symm];exact hp)<|RDs.mono0 x0 _ _ rs⟩
       ·obtain⟨g1,g2⟩:=e1.keep b u hb nb;exact⟨by rw[Zf<|λ z=>nb (by rw[z];exact mem_of_getElem? hm)];exact g1,g2⟩
       ·rw[Zf (λ z=>by subst z;rw[ha] at hb;cases hb)]
        exact e1.frz b o' u hb
     |_=>cases hf
   |_=>cases hf
 |_=>cases hf
end
open PySem PySem.Spec PyProof.Rows L2
section
variable {X:Cx}{T:Tab}{W k:Nat}{nm:List (Str×NameKind)}{N:List Str}
theorem ZfW(r:RX X T W k nm N)(hm:lastMarks [op,op'] [b,e]=false)(ha:PP X (Za T W k) a xa)(hb:PP X (Za T W k) b xb)(he:PP X (Za T W k) e xe):PP X (Za T W k) (.Compare a [op,op'] [b,e] pos) (.cmp2 op op' xa xb xe):=by
 have hu:X.A.units+100<cLine:=by have:=r.ok.room.un;omega
 exact⟨Zfq hu ha.1 hb.1 he.1 hm,ZdO hu ha.1 hb.1 he.1 hm⟩
theorem ZfX(r:RX X T W k nm N)(ht:isTup tg=true)(hg:nm.lookup ("zip":Str)=some .globalImplicit)(hs:notStar a=true)(hs2:notStar b=true)(h:PP X (Za T W k) a x)(h2:PP X (Za T W k) b y):II X (Za T W k) tg (.Call (.Name "zip" p) [a,b] [] pos) (.zip x y):=⟨Zg6 r.ok (r.ok.kg _ hg) hs hs2 ht h.1 h2.1,λ _=>rfl⟩
theorem YV(h:T.gds.lookup x=some kvs):(Za T W k).gd x=some kvs:=by cases k<;>exact h
theorem Zhv(r:RX X T W k nm N)(hn:Zz x=true)(hl:nm.lookup x=some .globalImplicit)(hd:T.gds.lookup x=some kvs)(ha:PP X (Za T W k) a xa):PP X (Za T W k) (.Compare a [.In] [.Name x p] pos) (.gin x xa):=
 ⟨WO (Zc3 hn (r.ok.kg _ hl) (r.ok.gd x kvs hd) (YV hd) ha.1) rfl,qj (Zc3 hn (r.ok.kg _ hl) (r.ok.gd x kvs hd) (YV hd) ha.1) rfl⟩
theorem ZfY(r:RX X T W k nm N)(hn:Zz x=true)(hl:nm.lookup x=some .globalImplicit)(hd:T.gds.lookup x=some kvs)(ha:PP X (Za T W k) a xa):PP X (Za T W k) (.Compare a [.NotIn] [.Name x p] pos) (.not (.gin x xa)):=
 ⟨WO (Zbf hn (r.ok.kg _ hl) (r.ok.gd x kvs hd) (YV hd) ha.1) rfl,qj (Zbf hn (r.ok.kg _ hl) (r.ok.gd x kvs hd) (YV hd) ha.1) rfl⟩
theorem Zhw(r:RX X T W k nm N)(hn:Zz x=true)(hl:nm.lookup x=some .globalImplicit)(hd:T.gds.lookup x=some kvs)(hp:Yd a=true)(ha:PP X (Za T W k) a xa):PP X (Za T W k) (.Subscript (.Name x p) a pos) (.gsb x xa):=
 plainT (ZgT hn (r.ok.kg _ hl) (r.ok.gd x kvs hd) (YV hd) ha.1 hp)<|λ _=>rfl
end
open PySem PySem.Spec PyProof.Rows L2
section
variable {X:Cx}{T:Tab}{W k:Nat}{nm:List (Str×NameKind)}{N:List Str}
theorem Zhx(ha:PP X c a xa):PP X c (.Subscript a (.Slice none none (some (.UnaryOp .USub (.Constant (.int 1) j p1) p2)) p3) pos) (.rev xa):=plainT (Zg2 ha.1)<|λ _=>rfl
theorem ZfZ(r:RX X T W k nm N)(hn:Zz y=true)(h1:slot y N=some i)(hv:visK nm y=true):PP X (Za T W k) (.Dict [some (.Constant (.str a) j1 p1)] [.Name y p2] pos) (.dvar a i):=by
 refine plainT (Zfy hn (by rw[r.n];exact h1)<|r.ok.kv _ ?_)<|λ _=>rfl
 unfold visK at hv;rw[or_eq_true,or_eq_true] at hv
 rcases hv with (hv | hv) | hv
 ·exact .inl<|oAj hv
 ·exact .inr<|.inl<|oAj hv
 ·exact .inr<|.inr<|oAj hv
theorem Zf0:PP X c (.Dict [] [] pos) .dnew:=plainT Zfx<|λ _=>rfl
theorem Zf1(r:RX X T W k nm N)(hp:Yd i=true)(ha:PP X (Za T W k) a xa)(hi:PP X (Za T W k) i xi):PP X (Za T W k) (.Subscript a i pos) (.subK xa xi):=plainT (ZfF (by have:=r.ok.room.un;omega) ha.1 hi.1 hp)<|λ _=>rfl
theorem Zef(r:RX X T W k nm N)(hp:Yd i=true)(ho:PP X (Za T W k) o xo)(hi:PP X (Za T W k) i xi):PG X (.Subscript o i pos) (tG X.K (asg (Za T W k) (.subK xo xi))):=ZfG (by have:=r.ok.room.un;omega) ho.1 hi.1 hp
theorem Zf2(hs:notStar a=true)(hl:Zbc ap pos=true)(ha:PP X c a xa):PP X c (.Call (.Attribute (.Constant (.str sep) jj p) "join" ap) [a] [] pos) (.join sep xa):=plainT (ZfH ha.1 hs hl)<|λ _=>rfl
theorem Zf3(r:RX X T W k nm N)(hk:nm.lookup y=some .cell)(he:PP X (Za T W k) (.ListComp elt gens scope p) x)(hg:PG X (.Name y py) (tG X.K (asg (Za T W k) t))):PS X (.Assign [.Name y py] (.ListComp elt gens scope p) pos) (tSt X.K (evS (Za T W k) W (.asg t x))):=by
 refine Zai he.1 hg ?_ rfl rfl;have hk:=r.ok.kc y<|.inl hk;show swapsWith (.ListComp elt gens scope p) (some<|.Name y py) pos.line X.env=pure false;unfold swapsWith;show (pure (X.env.blockKind==.function&&X.env.kindOf y==some .local&&py.line==p.line&&!(scope.names.any λ (n,k)=>n==y&&(k==.local||k==.cell))):Sem Bool)=_;rw[hk];have z:(some NameKind.cell==some NameKind.local)=false:=rfl;rw[z,Bool.and_false,Bool.false_and,Bool.false_and]
theorem Zhy(r:RX X T W k nm N)(hg:nm.lookup ("len":Str)=some .globalImplicit)(hg2:nm.lookup ("set":Str)=some .globalImplicit)(hs:notStar a=true)(ha:PP X (Za T W k) a xa):PP X (Za T W k) (.Call (.Name "len" p) [.Call (.Name "set" p2) [a] [] pos2] [] pos) (.slT xa):=plainT (Zg0 r.ok (r.ok.kg _ hg) (r.ok.kg _ hg2) hs ha.1)<|λ _=>rfl
theorem Zhz(r:RX X T W k nm N)(hg:nm.lookup ("len":Str)=some .globalImplicit)(hg2:nm.lookup ("set":Str)=some .globalImplicit)(hs:notStar a=true)(ha:PP X (Za T W k) a xa):PP X (Za T W k) (.Call (.Name "len" p) [.Call (.Name "set" p2) [a] [] pos2] [] pos) (.slX xa):=plainT (Zg1 r.ok (r.ok.kg _ hg) (r.ok.kg _ hg2) hs ha.1)<|λ _=>rfl
theorem Zeg(r:RX X T W k nm N)(hc:Y9 N nm scope=true)(ho:(ownN scope).length=own)(hp:((Jd scope).map λ y=>(slot y N).getD 0)=caps)(hs:∀ y,foldedSetIterable iter X.env y=pure y)(hi:PP X (Za T W k) iter (.var i))
  (hb:∀ Y:Cx,RX Y T W k scope.names (Yh scope)->PG Y tgt (tG Y.K (asg (Za T W k) t))/\Jx Y [] (tT Y.K (evTs (Za T W k) .nil))/\PP Y (Za T W k) elt xe) :
  PP X (Za T W k) (.ListComp elt [⟨tgt,iter,[],0⟩] scope pos) (.lv (.compD own caps t (.var i) xe)):=
 plainT (Vp false (Zee r.ok.calm (r.cn hc ho hp) hi.1 hs (λ hk C s2 H2 fp pj=>by
  obtain⟨a,_,b⟩:=hb _<|r.blk hc hk C s2 H2 fp pj;exact⟨a,b.1⟩)))<|λ _=>rfl
end
open PySem PySem.Spec PyProof.Rows L2
section
variable {P:Program}{w:World}{K:Frag}{mg:Str->Option Value}{base:Heap}{T:Tab}{W:Nat}
noncomputable def Zj(st:Stmt):List Str:=(Yj st).args.map (·.arg)
noncomputable def namesOf(st:Stmt):List Str:=Zj st++(((Zi st).names.filter λ p=>(decide (p.2=.local)||decide (p.2=.cell))&&!(Zj st).contains p.1).map (·.1))
structure J1(T:Tab)(W:Nat)(K:Frag)(mg:Str->Option Value)(x:Str)(fi:FI)(st:Stmt)(fa:Addr)(fd:FuncData):Prop where
 fn:Fun K x x st fa fd
 gl:mg x=some (.ref fa)
 sc:Z7 (namesOf st) (Zj st) (Zi st)
 bd:Binds K fd (Zj st) []
 pl:(Zj st).length=fi.ps
 nl:(namesOf st).length=fi.nn
 cs:∀ (k:Nat) (X:Cx),RX X T W k (Zi st).names (namesOf st)->PSs X (ZE st) (tSt X.K (evSs (Za T W k) W fi.body))
theorem Zcy(r:RDs K mu H ds vs):ER K mu H (Yc N.length ds) (L2.start N vs):=by
 unfold Yc L2.start;have hl:=r.length;refine⟨by simp[hl],λ i d h=>?_⟩;by_cases hi:i<ds.length
 ·rw[getElem?_append_left (by simpa using hi),getElem?_map] at h;obtain⟨d',h1,h2⟩:=bM h;cases h2
  obtain⟨x,h3,h4⟩:=r.get h1;exact⟨x,by rw[getElem?_append_left (by simpa [<- hl] using hi),getElem?_map,h3];rfl,h4⟩
 ·rw[getElem?_append_right (by simpa using hi),List.getElem?_replicate] at h;split at h<;>cases h
structure JE(T:Tab)(W:Nat)(K:Frag)(mg:Str->Option Value)(C m:Str)(fi:FI)(st:Stmt)(Ca fa:Addr)(fd:FuncData):Prop where
 fn:Fun K m (ZC C m) st fa fd
 cl:PySem.W.nsIn K mainGlobals C=some (some (.ref Ca))
 me:m≠"__init__"->Cls K Ca/\Meth K Ca m fa
 mi:m="__init__"->mg C=some (.ref Ca)/\Mk K Ca fa
 sc:Z7 (namesOf st) (Zj st) (Zi st)
 bd:Binds K fd (Zj st) []
 pl:(Zj st).length=fi.ps
 nl:(namesOf st).length=fi.nn
 cs:∀ (k:Nat) (X:Cx),RX X T W k (Zi st).names (namesOf st)->PSs X (ZE st) (tSt X.K (evSs (Za T W k) W fi.body))
def FnsA(P:Program)(w:World)(K:Frag)(mg:Str->Option Value)(base:Heap)(T:Tab)(W k:Nat):Prop:=∀ (f:Str) (fi:FI) (st:Stmt) (fa:Addr) (fd:FuncData),T.lookup f=some fi->J1 T W K mg f fi st fa fd->FnOk P w K mg base CX0 k fa fd (Zj st) (spOf K T W k f)
def FnsM(P:Program)(w:World)(K:Frag)(mg:Str->Option Value)(base:Heap)(T:Tab)(W k:Nat):Prop:=∀ (C m:Str) (fi:FI) (st:Stmt) (Ca fa:Addr) (fd:FuncData),T.mts.lookup (ZC C m)=some fi->JE T W K mg C m fi st Ca fa fd->FnOk P w K mg base CX0 k fa fd (Zj st) (spM K T W k (ZC C m))
theorem Zbr(all:∀ f fi,T.lookup f=some fi->∃ st fa fd,J1 T W K mg f fi st fa fd)(mets:∀ C m fi,T.mts.lookup (ZC C m)=some fi->∃ st Ca fa fd,JE T W K mg C m fi st Ca fa fd)(bl:∀ f∈blts,mg f=none)
  (gl:∀ x d,T.gls.lookup x=some d->∃ u v,mg x=some u/\RelV v u/\∀ mu H,RD K mu H d v)(gd:∀ x kvs,T.gds.lookup x=some kvs->GdF K w mg x kvs)(cf:FdF T K){k:Nat}(ihA:FnsA P w K mg base T W k)(ihM:FnsM P w K mg base T W k)(ihN:∀ j,k=j+1->FnsM P w K mg base T W j)
  {qual:Str}{st:Stmt}{fa:Addr}{cdv:Value}{A:Around}{outer:List Env}{s:Shared}{H:Hp}{E:XK}(sc:Z7 (namesOf st) (Zj st) (Zi st))(hr:Room k (A.deeper (envOfC qual (Zi st) s.heap.objs.size fa cdv))) :
  XOk (cxOf CX0 P w K mg base (namesOf st) qual (Zi st) fa cdv A outer s H E).nox T W k (Zi st).names:=by
 have nf:∀ x,(Zi st).names.lookup x≠some .free:=λ x hx=>sc.nofree _ (PySem.mem_of_lookup hx) rfl;refine⟨rfl,hr,sc.nd,PassesOwn.never,λ x hx=>hx,λ x hx=>?_,λ x hx=>hx,λ x hx=>hx,λ x hx=>?_,bl,λ g gi hg=>?_,gl,gd,cf,λ C m fi hmi hl=>?_,λ j hj C fi hl=>?_⟩
 ·unfold Vn at hx;rw[or_eq_true] at hx
  rcases hx with hx | hx
  ·exact⟨.inl<|oAj hx,.inl rfl⟩
  ·exact⟨.inr<|oAj hx,.inl rfl⟩
 ·rcases hx with hx | hx
  ·exact hx
  ·exact absurd hx<|nf x
 ·obtain⟨st',fa',fd',d'⟩:=all g gi hg;exact⟨fa',fd',Zj st',d'.pl,d'.gl,d'.fn.kp,d'.bd,ihA g gi st' fa' fd' hg d'⟩
 ·obtain⟨st',Ca,fa',fd',d'⟩:=mets C m fi hl;exact⟨Ca,fa',fd',Zj st',d'.pl,d'.cl,(d'.me hmi).1,(d'.me hmi).2,d'.bd,ihM C m fi st' Ca fa' fd' hl d'⟩
 ·obtain⟨st',Ca,fa',fd',d'⟩:=mets C "__init__" fi hl;exact⟨Ca,fa',fd',Zj st',d'.pl,d'.cl,(d'.mi rfl).1,(d'.mi rfl).2,d'.bd,ihN j hj C "__init__" fi st' Ca fa' fd' hl d'⟩
theorem Zbs{mu:List Addr}{H:Hp}{S S':Sto}{ds:List D}{vs:List V}{Q:VK}{fi:FI}{st:Stmt}{k:Nat}{dd:D}(nl:(namesOf st).length=fi.nn)(hw:WR K mu H S)(r:RDs K mu H ds vs)
  (h:(if ds.length=fi.ps then (evSs (Za T W k) W fi.body (Yc fi.nn ds) S).bind fin else none)=some (dd,S'))(q:∀ v mu' H',Ext mu H mu' H'->WR K mu' H' S'->RD K mu' H' dd v->Q v H') :
  tSt K (evSs (Za T W k) W fi.body) { nx:=λ _ H'=>Q .non H',rt:=Q } (L2.start (namesOf st) vs) H:=by
 split at h
 ·obtain⟨fl,h1,h2⟩:=bO h;refine⟨mu,Yc fi.nn ds,S,by rw[<- nl];exact Zcy r,hw,fl,h1,?_⟩
  cases fl with
  |rt d' S1=>cases h2;exact λ v mu' H' e w r=>q v mu' H' e w r
  |nx env S1=>cases h2;exact λ σ mu' H' e w r=>q .non mu' H' e w qg
  |bk env S1=>cases h2
  |ct env S1=>cases h2
 ·cases h
theorem Zf4(all:∀ f fi,T.lookup f=some fi->∃ st fa fd,J1 T W K mg f fi st fa fd)(mets:∀ C m fi,T.mts.lookup (ZC C m)=some fi->∃ st Ca fa fd,JE T W K mg C m fi st Ca fa fd)(bl:∀ f∈blts,mg f=none)
  (gl:∀ x d,T.gls.lookup x=some d->∃ u v,mg x=some u/\RelV v u/\∀ mu H,RD K mu H d v)(gd:∀ x kvs,T.gds.lookup x=some kvs->GdF K w mg x kvs)(cf:FdF T K) :
  ∀ k,FnsA P w K mg base T W k/\FnsM P w K mg base T W k/\∀ j,k=j+1->FnsM P w K mg base T W j:=by
 intro k
 induction k with
 | zero=>
  refine⟨λ f fi st fa fd hl d=>⟨λ vs H Q E h=>?_,λ A outer s H args us vs Q E hr he hb hv h=>?_⟩,λ C m fi st Ca fa fd hl d=>⟨λ vs H Q E h=>?_,λ A outer s H args us vs Q E hr he hb hv h=>?_⟩,λ j hj=>by lia⟩
  ·obtain⟨mu,S,ds,_,_,_,d,S',h,_⟩:=h;cases h
  ·obtain⟨mu,S,ds,_,_,_,d,S',h,_⟩:=h;cases h
  ·obtain⟨mu,S,ds,_,_,_,d,S',h,_⟩:=h;cases h
  ·obtain⟨mu,S,ds,_,_,_,d,S',h,_⟩:=h;cases h
 | succ k ih=>
  obtain⟨ihA,ihM,ihN⟩:=ih;refine⟨λ f fi st fa fd hl d=>d.fn.ok d.sc (λ vs H Q E h=>?_)<|λ cdv A outer s H vs Q E hr h=>?_,λ C m fi st Ca fa fd hl d=>d.fn.ok d.sc (λ vs H Q E h=>?_)<|λ cdv A outer s H vs Q E hr h=>?_,λ j hj=>by cases hj;exact ihM⟩
  ·obtain⟨mu,S,ds,_,r,⟨fi',h1,h2⟩,_⟩:=h;rw[hl] at h1;cases h1
   rw[<- r.length,h2,d.pl]
  ·obtain⟨mu,S,ds,hw,r,_,dd,S',h,q⟩:=h;refine⟨_,d.cs k _ ⟨Zbr all mets bl gl gd cf ihA ihM ihN d.sc hr,rfl⟩,?_⟩;replace h:((T.lookup f).bind λ fi=>if ds.length=fi.ps then (evSs (Za T W k) W fi.body (Yc fi.nn ds) S).bind fin else none)=some (dd,S'):=h;rw[hl] at h;exact Zbs d.nl hw r h q
  ·obtain⟨mu,S,ds,_,r,⟨fi',h1,h2⟩,_⟩:=h;rw[hl] at h1;cases h1
   rw[<- r.length,h2,d.pl]
  ·obtain⟨mu,S,ds,hw,r,_,dd,S',h,q⟩:=h;refine⟨_,d.cs k _ ⟨Zbr all mets bl gl gd cf ihA ihM ihN d.sc hr,rfl⟩,?_⟩;replace h:((T.mts.lookup<|ZC C m).bind λ fi=>if ds.length=fi.ps then (evSs (Za T W k) W fi.body (Yc fi.nn ds) S).bind fin else none)=some (dd,S'):=h;rw[hl] at h;exact Zbs d.nl hw r h q
theorem Zf5(all:∀ f fi,T.lookup f=some fi->∃ st fa fd,J1 T W K mg f fi st fa fd)(mets:∀ C m fi,T.mts.lookup (ZC C m)=some fi->∃ st Ca fa fd,JE T W K mg C m fi st Ca fa fd)(bl:∀ f∈blts,mg f=none)
  (gl:∀ x d,T.gls.lookup x=some d->∃ u v,mg x=some u/\RelV v u/\∀ mu H,RD K mu H d v)(gd:∀ x kvs,T.gds.lookup x=some kvs->GdF K w mg x kvs)(cf:FdF T K)(k:Nat):FnsA P w K mg base T W k:=(Zf4 all mets bl gl gd cf k).1
theorem Zf6(hl:T.lookup x=some fi)(hp:fi.ps=1)(run:∀ ns:List Int,ns.length<=63->∃ S',(Za T W k).fn x [.lst (ns.map D.int)] []=some (.bl true,S'))
  (H:Hp)(a:Addr)(ns:List Int)(h:ns.length<=63)(hS:SqL K H a (ns.map V.int))(E:XK):spOf K T W k x [.ref a] H (λ v _=>v=.bl true) E:=by
 obtain⟨S',h1⟩:=run ns h;refine⟨[],[],[.lst<|ns.map D.int],⟨rfl,nodup_nil,λ n o e=>by simp at e⟩,?_,⟨fi,hl,hp.symm⟩,.bl true,S',h1,λ v mu' H' e w r=>YS r⟩;refine .cons ?_ .nil;dsimp only[RD];refine⟨a,ns.map V.int,rfl,?_,?_⟩
 ·rcases hS with h | h
  ·exact .inl ⟨by simp,h⟩
  ·exact .inr h
 ·clear h h1 hS
  induction ns with
  |nil=>exact .nil
  |cons n ns ih=>exact .cons Zs ih
end
section
variable {K:Frag}{mg:Str->Option Value}
structure YW(K:Frag)(x:Str)(st:Stmt):Prop where
 ex:∃ (f:Addr) (oc:Value) (od an:Option Addr) (sl:Array (Option Value)) (kV doc pm cdv ct:Value),PySem.W.nsIn K mainGlobals x=some (some (.ref f)) /\
  K.lookup f=some ⟨oc,od,.func (PySem.W.fnOf x x (Yj st) (ZE st) (Zi st) .none kV doc pm an cdv ct),sl⟩/\PySem.W.codeIn K cdv x=true/\PySem.W.keepIn K (.ref f)=true
theorem YW.mk'{x:Str}{st:Stmt}{f:Addr}{oc:Value}{od an:Option Addr}{sl:Array (Option Value)}{kV doc pm cdv ct:Value}(a:PySem.W.nsIn K mainGlobals x=some (some (.ref f)))
  (l:K.lookup f=some ⟨oc,od,.func (PySem.W.fnOf x x (Yj st) (ZE st) (Zi st) .none kV doc pm an cdv ct),sl⟩)(c:PySem.W.codeIn K cdv x=true)(k:PySem.W.keepIn K (.ref f)=true):YW K x st:=
 ⟨⟨f,oc,od,an,sl,kV,doc,pm,cdv,ct,a,l,c,k⟩⟩
def qt(x:Str)(st:Stmt):Prop:=∀ (kV doc pm:Value) (an:Option Addr) (cdv ct:Value) (us:List Value),us.length=(Zj st).length->bindArgs (PySem.W.fnOf x x (Yj st) (ZE st) (Zi st) .none kV doc pm an cdv ct) ⟨us,[]⟩=pure ((Zj st).zip us)
theorem YW.ok{T:Tab}{W:Nat}{h:Heap}{x:Str}{st:Stmt}{fi:FI}(KX:K.In h)(G:h.Ns mainGlobals mg)(d:YW K x st)(sc:Z7 (namesOf st) (Zj st) (Zi st))(b:qt x st)
  (hp:(Zj st).length=fi.ps)(hn:(namesOf st).length=fi.nn)(hc:∀ (k:Nat) (X:Cx),RX X T W k (Zi st).names (namesOf st)->PSs X (ZE st) (tSt X.K (evSs (Za T W k) W fi.body))):∃ st fa fd,J1 T W K mg x fi st fa fd:=by
 obtain⟨f,oc,od,an,sl,kV,doc,pm,cdv,ct,a,l,c,k⟩:=d.ex;have F:=ZaU (st:=st) l c k;exact⟨st,f,_,F,PySem.W.mg_of KX G a,sc,F.binds<|λ kV doc pm an cdv ct us hl=>b kV doc pm an cdv ct us hl,hp,hn,hc⟩
theorem YW.ok2{T:Tab}{W:Nat}{h:Heap}{x:Str}{st:Stmt}{fi:FI}(KX:K.In h)(G:h.Ns mainGlobals mg)(d:YW K x st)(sc:Z7 (namesOf st) (Zj st) (Zi st))(b:qt x st)
  (hp:(Zj st).length=fi.ps)(hn:(namesOf st).length=fi.nn)(hc:∀ (k:Nat) (X:Cx),RX X T W k (Zi st).names (namesOf st)->PSs X (ZE st) (tSt X.K (evSs (Za T W k) W fi.body))) :
  ∃ fa fd,J1 T W K mg x fi st fa fd/\∀ (s:Shared) (us:List Value),us.length=(Zj st).length->BindsTo s fd ⟨us,[]⟩ ((Zj st).zip us):=by
 obtain⟨f,oc,od,an,sl,kV,doc,pm,cdv,ct,a,l,c,k⟩:=d.ex;have F:=ZaU (st:=st) l c k;exact⟨f,_,⟨F,PySem.W.mg_of KX G a,sc,F.binds<|λ kV doc pm an cdv ct us hl=>b kV doc pm an cdv ct us hl,hp,hn,hc⟩,λ s us hl=>.of_eq<|b _ _ _ _ _ _ us hl⟩
theorem ZhA(KX:K.In h)(G:h.Ns mainGlobals mg)(b:∀ f∈blts,PySem.W.nsIn K mainGlobals f=some none):∀ f∈blts,mg f=none:=λ f hf=>PySem.W.mg_none_of KX G<|b f hf
theorem Zf7{T:Tab}{C:Str->FI->Prop}(h:∀ p∈T.fns,C p.1 p.2):∀ f fi,T.lookup f=some fi->C f fi:=λ f fi hl=>h (f,fi)<|PySem.mem_of_lookup (l:=T.fns) hl
end
open PySem L2
section
variable {T:Tab}{W k:Nat}{S:Sto}
theorem Zeh(hl:T.lookup f=some fi)(hp:ds.length=fi.ps):(Za T W (k+1)).fn f ds S=(evSs (Za T W k) W fi.body (Yc fi.nn ds) S).bind fin:=by
 show ((T.lookup f).bind λ fi=>if ds.length=fi.ps then (evSs (Za T W k) W fi.body (Yc fi.nn ds) S).bind fin else none)=_;rw[hl];show (if ds.length=fi.ps then _ else none)=_;rw[if_pos hp]
theorem Zei:bltD S .abs [.int i]=some (.int (if i<0 then -i else i)):=rfl
theorem zL:bltD S .min [.int i,.int j]=some (.int (if j<i then j else i)):=rfl
theorem Zbt:bltD S .int [.bl b]=some (.int (if b then 1 else 0)):=rfl
theorem Yk:bltD S .len [.lst ds]=some (.int ds.length):=rfl
theorem UP:bltD S .len [.tup ds]=some (.int ds.length):=rfl
theorem Yp:Yb.lookup ("int":Str)=some "int":=by decide +kernel
theorem Jb:Yb.lookup ("bool":Str)=some "bool":=by decide +kernel
theorem za:isiD S (.int i) "int"=some true:=by rw[isiD,Yp];rfl
theorem qu:isiD S (.int i) "bool"=some false:=by rw[isiD,Jb];rfl
theorem zb(h1:-(2 ^ 64)<i)(h2:i<2 ^ 64):binop S .Mult (.int i) (.int j)=some (.int (i * j)):=by
 show (if MulOk i j then some (D.int<|i * j) else none)=_;rw[if_pos<|.inl ⟨h1,h2⟩]
theorem zc(h1:-(2 ^ 64)<j)(h2:j<2 ^ 64):binop S .Mult (.int i) (.int j)=some (.int (i * j)):=by
 show (if MulOk i j then some (D.int<|i * j) else none)=_;rw[if_pos<|.inr<|.inl ⟨h1,h2⟩]
theorem Zej(h1:i.natAbs<2 ^ 100000)(h2:j.natAbs<2 ^ 100000):binop S .Mult (.int i) (.int j)=some (.int (i * j)):=by
 show (if MulOk i j then some (D.int<|i * j) else none)=_;rw[if_pos<|.inr<|.inr ⟨h1,h2⟩]
theorem Zek(h:0<j):binop S .Mod (.int i) (.int j)=some (.int (i % j)):=by
 show (if 0<j then some (D.int<|i % j) else none)=_;rw[if_pos h]
theorem Zf8(h:j<=10 ^ 70):j<bigJ:=by
 have e:(10:Int) ^ 70<bigJ:=by unfold bigJ;decide +kernel
 lia
theorem Zcz(h:0<j)(h2:j<=10 ^ 70):binop S .FloorDiv (.int i) (.int j)=some (.int (i / j)):=by
 show (if 0<j/\j<bigJ then some (D.int<|i / j) else none)=_;rw[if_pos ⟨h,Zf8 h2⟩]
theorem pow10(h:0<=n)(h2:n<=1000):binop S .Pow (.int 10) (.int n)=some (.int (10 ^ n.toNat)):=by
 show (if JX 10 n then some (D.int<|10 ^ n.toNat) else none)=_;rw[if_pos ⟨h,.inl ⟨by lia,by decide⟩⟩]
end
open PySem L2
inductive Ev(o:Option (D×Sto))(P:D->Sto->Prop):Prop
 |it (d:D) (S:Sto) (e:o=some (d,S)) (k:P d S)
inductive Es(o:Option (List D×Sto))(P:List D->Sto->Prop):Prop
 |it (d:List D) (S:Sto) (e:o=some (d,S)) (k:P d S)
inductive Eo(o:Option (Option Int×Sto))(P:Option Int->Sto->Prop):Prop
 |it (d:Option Int) (S:Sto) (e:o=some (d,S)) (k:P d S)
inductive Eg(o:Option (En×Sto))(P:En->Sto->Prop):Prop
 |it (d:En) (S:Sto) (e:o=some (d,S)) (k:P d S)
inductive Op{α:Type}(o:Option α)(P:α->Prop):Prop
 |it (d:α) (e:o=some d) (k:P d)
inductive Fo(o:Option Fl)(P:Fl->Prop):Prop
 |it (f:Fl) (e:o=some f) (k:P f)
def UA(c:Cl)(W:Nat)(ss:Sms)(P:Fl->Prop):Fl->Prop
 |.nx e S=>Fo (evSs c W ss e S) P
 |.rt d S=>P (.rt d S)
 |.bk e S=>P (.bk e S)
 |.ct e S=>P (.ct e S)
def finK(P:D->Sto->Prop):Fl->Prop
 |.rt d S=>P d S
 |.nx _ S=>P .non S
 |_=>False
section
variable {c:Cl}{W:Nat}{env:En}{S:Sto}{P:D->Sto->Prop}{Q:Fl->Prop}{R:List D->Sto->Prop}{G:En->Sto->Prop}
theorem Op.mk{α:Type}{o:Option α}{a:α}{P:α->Prop}(h:o=some a)(k:P a):Op o P:=⟨a,h,k⟩
theorem Ev.mono{P P':D->Sto->Prop}(h:Ev o P)(k:∀ d S,P d S->P' d S):Ev o P':=by
 obtain⟨d,S,e,p⟩:=h;exact⟨d,S,e,k d S p⟩
theorem Zc(h:env[i]?=some (some d))(k:P d S):Ev (ev c (.var i) env S) P:=⟨d,S,by dsimp only[ev];rw[h],k⟩
theorem ZhB(k:P (.bl b) S):Ev (ev c (.bl b) env S) P:=⟨_,S,by dsimp only[ev],k⟩
theorem Zg(k:P (.int b) S):Ev (ev c (.int b) env S) P:=⟨_,S,by dsimp only[ev],k⟩
theorem Z1(k:P (.str b) S):Ev (ev c (.str b) env S) P:=⟨_,S,by dsimp only[ev],k⟩
theorem Zv(h:Ev (ev c a env S) λ x S1=>Ev (ev c b env S1) λ y S2=>Op (binop S2 op x y) λ d=>P d S2):Ev (ev c (.bin op a b) env S) P:=by
 obtain⟨x,S1,h1,y,S2,h2,d,h3,k⟩:=h;refine⟨d,S2,?_,k⟩;dsimp only[ev];rw[h1];show (ev c b env S1).bind _=_;rw[h2];show (binop S2 op x y).map _=_;rw[h3];rfl
theorem Z2(h:Ev (ev c a env S) λ x S1=>Op (truth S1 x) λ b=>P (.bl (!b)) S1):Ev (ev c (.not a) env S) P:=by
 obtain⟨x,S1,h1,b,h2,k⟩:=h;refine⟨_,S1,?_,k⟩;dsimp only[ev];rw[h1];show (truth S1 x).map _=_;rw[h2];rfl
theorem JP(h:Ev (ev c a env S) λ x S1=>Op (truth S1 x) λ t=>(t=true->Ev (ev c b env S1) P)/\(t=false->P x S1)):Ev (ev c (.and a b) env S) P:=by
 obtain⟨x,S1,h1,t,h2,k1,k2⟩:=h;cases t with
 | true=>
  obtain⟨y,S2,h3,k⟩:=k1 rfl;refine⟨y,S2,?_,k⟩;dsimp only[ev];rw[h1];show (truth S1 x).bind _=_;rw[h2];exact h3
 | false=>
  refine⟨x,S1,?_,k2 rfl⟩;dsimp only[ev];rw[h1];show (truth S1 x).bind _=_;rw[h2];rfl
theorem ZW(h:Ev (ev c a env S) λ x S1=>Op (truth S1 x) λ t=>(t=true->P x S1)/\(t=false->Ev (ev c b env S1) P)):Ev (ev c (.or a b) env S) P:=by
 obtain⟨x,S1,h1,t,h2,k1,k2⟩:=h;cases t with
 | false=>
  obtain⟨y,S2,h3,k⟩:=k2 rfl;refine⟨y,S2,?_,k⟩;dsimp only[ev];rw[h1];show (truth S1 x).bind _=_;rw[h2];exact h3
 | true=>
  refine⟨x,S1,?_,k1 rfl⟩;dsimp only[ev];rw[h1];show (truth S1 x).bind _=_;rw[h2];rfl
theorem Zf9(h:Ev (ev c x env S) λ x S1=>Op (truth S1 x) λ t=>(t=true->Ev (ev c a env S1) P)/\(t=false->Ev (ev c b env S1) P)):Ev (ev c (.ite x a b) env S) P:=by
 obtain⟨x',S1,h1,t,h2,k1,k2⟩:=h;cases t with
 | true=>
  obtain⟨y,S2,h3,k⟩:=k1 rfl;refine⟨y,S2,?_,k⟩;dsimp only[ev];rw[h1];show (truth S1 x').bind _=_;rw[h2];exact h3
 | false=>
  obtain⟨y,S2,h3,k⟩:=k2 rfl;refine⟨y,S2,?_,k⟩;dsimp only[ev];rw[h1];show (truth S1 x').bind _=_;rw[h2];exact h3
theorem YX(h:Ev (ev c a env S) λ x S1=>Ev (ev c b env S1) λ y S2=>Op (cmpop S2 op x y) λ d=>P (.bl d) S2):Ev (ev c (.cmp op a b) env S) P:=by
 obtain⟨x,S1,h1,y,S2,h2,d,h3,k⟩:=h;refine⟨_,S2,?_,k⟩;dsimp only[ev];rw[h1];show (ev c b env S1).bind _=_;rw[h2];show (cmpop S2 op x y).map _=_;rw[h3];rfl
theorem Jk(h:Ev (ev c a env S) λ x S1=>Ev (ev c b env S1) λ y S2=>Op (cmpop S2 op x y) λ t=>(t=true->Ev (ev c e env S2) λ z S3=>Op (cmpop S3 op' y z) λ d=>P (.bl d) S3)/\(t=false->P (.bl false) S2)) :
  Ev (ev c (.cmp2 op op' a b e) env S) P:=by
 obtain⟨x,S1,h1,y,S2,h2,t,h3,k1,k2⟩:=h;cases t with
 | true=>
  obtain⟨z,S3,h4,d,h5,k⟩:=k1 rfl;refine⟨_,S3,?_,k⟩;dsimp only[ev];rw[h1];show (ev c b env S1).bind _=_;rw[h2];show (cmpop S2 op x y).bind _=_;rw[h3];show (ev c e env S2).bind _=_;rw[h4];show (cmpop S3 op' y z).map _=_;rw[h5];rfl
 | false=>
  refine⟨_,S2,?_,k2 rfl⟩;dsimp only[ev];rw[h1];show (ev c b env S1).bind _=_;rw[h2];show (cmpop S2 op x y).bind _=_;rw[h3];rfl
theorem YY(h:Ev (ev c a env S) λ x S1=>Op (isiD S1 x t) λ b=>P (.bl b) S1):Ev (ev c (.isi a t) env S) P:=by
 obtain⟨x,S1,h1,b,h2,k⟩:=h;refine⟨_,S1,?_,k⟩;dsimp only[ev];rw[h1];show (isiD S1 x t).map _=_;rw[h2];rfl
theorem Zw(h:Ev (ev c a env S) λ x S1=>Ev (ev c i env S1) λ y S2=>Op (subD S2 x y) λ d=>P d S2):Ev (ev c (.sub a i) env S) P:=by
 obtain⟨x,S1,h1,y,S2,h2,d,h3,k⟩:=h;refine⟨_,S2,?_,k⟩;dsimp only[ev];rw[h1];show (ev c i env S1).bind _=_;rw[h2];show (subD S2 x y).map _=_;rw[h3];rfl
theorem YZ{a:Ex}{lo hi:Ox}(h:Ev (ev c a env S) λ x S1=>Eo (evO c lo env S1) λ l S2=>Eo (evO c hi env S2) λ u S3=>Op (ZS S3 x l u) λ d=>P d S3):Ev (ev c (.slc a lo hi) env S) P:=by
 obtain⟨x,S1,h1,l,S2,h2,u,S3,h3,d,h4,k⟩:=h;refine⟨_,S3,?_,k⟩;dsimp only[ev];rw[h1];show (evO c lo env S1).bind _=_;rw[h2];show (evO c hi env S2).bind _=_;rw[h3];show (ZS S3 x l u).map _=_;rw[h4];rfl
theorem Jg{P:Option Int->Sto->Prop}(k:P none S):Eo (evO c .no env S) P:=⟨_,S,by dsimp only[evO],k⟩
theorem Y0{P:Option Int->Sto->Prop}(h:Ev (ev c e env S) λ x S1=>∃ i,x=.int i/\P (some i) S1):Eo (evO c (.yes e) env S) P:=by
 obtain⟨x,S1,h1,i,rfl,k⟩:=h;refine⟨_,S1,?_,k⟩;dsimp only[evO];rw[h1];rfl
theorem Ze(k:R [] S):Es (evs c .nil env S) R:=⟨_,S,by dsimp only[evs],k⟩
theorem Zb(h:Ev (ev c e env S) λ x S1=>Es (evs c es env S1) λ xs S2=>R (x::xs) S2):Es (evs c (.cons e es) env S) R:=by
 obtain⟨x,S1,h1,xs,S2,h2,k⟩:=h;refine⟨_,S2,?_,k⟩;dsimp only[evs];rw[h1];show (evs c es env S1).map _=_;rw[h2];rfl
theorem ZG(h:Es (evs c es env S) λ xs S1=>xs.length<=line/\P (.tup xs) S1):Ev (ev c (.tup es) env S) P:=by
 obtain⟨xs,S1,h1,hz,k⟩:=h;refine⟨_,S1,?_,k⟩;dsimp only[ev];rw[h1];show (if xs.length<=line then _ else _)=_;rw[if_pos hz]
theorem ZX(h:Es (evL c l env S) λ xs S1=>P (.lst xs) S1):Ev (ev c (.lv l) env S) P:=by
 obtain⟨xs,S1,h1,k⟩:=h;exact⟨_,_,by dsimp only[ev];rw[h1];rfl,k⟩
theorem ZhC(h:Es (evL c l env S) λ xs S1=>P (.ref S1.length) (S1++[.lst xs])):Ev (ev c (.lr l) env S) P:=by
 obtain⟨xs,S1,h1,k⟩:=h;exact⟨_,_,by dsimp only[ev];rw[h1];rfl,k⟩
theorem Yy(h:Es (evs c es env S) λ xs S1=>xs.length<=line/\R xs S1):Es (evL c (.dsp es) env S) R:=by
 obtain⟨xs,S1,h1,hz,k⟩:=h;exact⟨xs,S1,by dsimp only[evL];rw[h1];show (if xs.length<=line then _ else _)=_;rw[if_pos hz],k⟩
theorem qv(h:Es (evs c es env S) λ xs S1=>Op (bltL S1 f xs) λ ds=>R ds S1):Es (evL c (.blt f es) env S) R:=by
 obtain⟨xs,S1,h1,d,h2,k⟩:=h;exact⟨d,S1,by dsimp only[evL];rw[h1];show (bltL S1 f xs).map _=_;rw[h2];rfl,k⟩
theorem Vu(h:c.gl x=some d)(k:P d S):Ev (ev c (.gl x) env S) P:=⟨d,S,by dsimp only[ev];rw[h];rfl,k⟩
theorem Zy(h:Es (evs c es env S) λ xs S1=>Ev (c.fn f xs S1) P):Ev (ev c (.call f es) env S) P:=by
 obtain⟨xs,S1,h1,d,S2,h2,k⟩:=h;refine⟨d,S2,?_,k⟩;dsimp only[ev];rw[h1];exact h2
theorem Yz(h:Es (evs c es env S) λ xs S1=>Op (bltD S1 f xs) λ d=>P d S1):Ev (ev c (.blt f es) env S) P:=by
 obtain⟨xs,S1,h1,d,h2,k⟩:=h;refine⟨d,S1,?_,k⟩;dsimp only[ev];rw[h1];show (bltD S1 f xs).map _=_;rw[h2];rfl
theorem g_nm(k:G (env.set i (some d)) S):Eg (asg c (.name i) d env S) G:=⟨_,S,by dsimp only[asg],k⟩
theorem g_tp(k:Eg (asgs c ts ds env S) G):Eg (asg c (.tup ts) (.tup ds) env S) G:=by
 obtain⟨e,S1,h1,k⟩:=k;exact⟨e,S1,h1,k⟩
theorem Zbu(k:G env S):Eg (asgs c .nil [] env S) G:=⟨env,S,by dsimp only[asgs],k⟩
theorem VM(h:Eg (asg c t d env S) λ e1 S1=>Eg (asgs c ts ds e1 S1) G):Eg (asgs c (.cons t ts) (d::ds) env S) G:=by
 obtain⟨e1,S1,h1,e2,S2,h2,k⟩:=h;exact⟨e2,S2,by dsimp only[asgs];rw[h1];exact h2,k⟩
theorem g_sb(h:Ev (ev c o env S) λ x S1=>Ev (ev c i env S1) λ y S2=>∃ n kk ds j,x=.ref n/\y=.int kk/\S2[n]?=some (.lst ds)/\L2.ixN ds.length kk=some j/\G env (S2.set n (.lst (ds.set j d)))):Eg (asg c (.sub o i) d env S) G:=by
 obtain⟨x,S1,h1,y,S2,h2,n,kk,ds,j,rfl,rfl,h3,h4,k⟩:=h;refine⟨env,_,?_,k⟩;dsimp only[asg];rw[h1];show (ev c i env S1).bind _=_;rw[h2];show (match S2[n]? with | some (.lst ds)=>(L2.ixN ds.length kk).map λ j=>(env,S2.set n<|.lst<|ds.set j d) | some (.dk kvs)=>(if kvs.length<line then some (env,S2.set n<|.dk<|putD kvs (.inl kk) d) else none) | _=>none)=_
 rw[h3];show (L2.ixN ds.length kk).map _=_;rw[h4];rfl
theorem ZhD(h:Ev (ev c o env S) λ x S1=>Ev (ev c i env S1) λ y S2=>∃ n kk ds j ds',x=.ref n/\y=.int kk/\S2[n]?=some (.lst ds)/\L2.ixN ds.length kk=some j/\ds.set j d=ds' /\
  ∀ S3:Sto,S3[n]?=some (.lst ds')->(∀ m:Nat,m≠n->S3[m]?=S2[m]?)->S3.length=S2.length->G env S3):Eg (asg c (.sub o i) d env S) G:=by
 obtain⟨x,S1,h1,y,S2,h2,n,kk,ds,j,ds',rfl,rfl,h3,h4,h5,k⟩:=h;refine g_sb ⟨_,S1,h1,_,S2,h2,n,kk,ds,j,rfl,rfl,h3,h4,?_⟩;rw[h5];have hr:n<S2.length:=(List.getElem?_eq_some_iff.1 h3).1;exact k _ (getElem?_set_self hr) (λ m hm=>getElem?_set_ne<|Ne.symm hm) (by simp)
theorem Zh(k:Fo (evSs c W ss e S) Q):UA c W ss Q (.nx e S):=k
theorem Zel(k:Q (.rt d S)):UA c W ss Q (.rt d S):=k
theorem Zga(k:P d S):finK P (.rt d S):=k
theorem Ym(k:Q (.nx env S)):Fo (evSs c W .nil env S) Q:=⟨_,by dsimp only[evSs],k⟩
theorem Zd(h:Fo (evS c W s env S) (UA c W ss Q)):Fo (evSs c W (.cons s ss) env S) Q:=by
 obtain⟨f,h1,k⟩:=h;cases f with
 | nx e S1=>
  obtain⟨g,h2,k⟩:=k;exact⟨g,by dsimp only[evSs];rw[h1];exact h2,k⟩
 |rt d S1=>exact⟨_,by dsimp only[evSs];rw[h1];rfl,k⟩
 |bk d S1=>exact⟨_,by dsimp only[evSs];rw[h1];rfl,k⟩
 |ct d S1=>exact⟨_,by dsimp only[evSs];rw[h1];rfl,k⟩
theorem ZD(h:Ev (ev c e env S) λ x S1=>Eg (asg c t x env S1) λ e2 S2=>Q (.nx e2 S2)):Fo (evS c W (.asg t e) env S) Q:=by
 obtain⟨x,S1,h1,e2,S2,h2,k⟩:=h;exact⟨_,by dsimp only[evS];rw[h1];show (asg c t x env S1).map _=_;rw[h2];rfl,k⟩
theorem Zc6(h:Ev (ev c a env S) λ x S1=>Ev (ev c b env S1) λ y S2=>Q (.nx ((env.set i (some x)).set j (some y)) S2)):Fo (evS c W (.par i j a b) env S) Q:=by
 obtain⟨x,S1,h1,y,S2,h2,k⟩:=h;exact⟨_,by dsimp only[evS];rw[h1];show (ev c b env S1).map _=_;rw[h2];rfl,k⟩
theorem ZY(h:Ev (ev c e env S) λ x S1=>Q (.rt x S1)):Fo (evS c W (.ret e) env S) Q:=by
 obtain⟨x,S1,h1,k⟩:=h;exact⟨_,by dsimp only[evS];rw[h1];rfl,k⟩
theorem Zk(h:Ev (ev c x env S) λ x S1=>Op (truth S1 x) λ t=>(t=true->Fo (evSs c W a env S1) Q)/\(t=false->Fo (evSs c W b env S1) Q)):Fo (evS c W (.ifs x a b) env S) Q:=by
 obtain⟨x',S1,h1,t,h2,k1,k2⟩:=h;cases t with
 | true=>
  obtain⟨f,h3,k⟩:=k1 rfl;exact⟨f,by dsimp only[evS];rw[Yw h1 h2];exact h3,k⟩
 | false=>
  obtain⟨f,h3,k⟩:=k2 rfl;exact⟨f,by dsimp only[evS];rw[Yw h1 h2];exact h3,k⟩
def Vv(N:En->Sto->Prop)(Q:Fl->Prop):Fl->Prop
 |.nx e S=>N e S
 |.ct e S=>N e S
 |.bk e S=>Q (.nx e S)
 |.rt d S=>Q (.rt d S)
theorem zM{N:En->Sto->Prop}(k:N e S):Vv N Q (.nx e S):=k
theorem Zak(ds:List D)(S1:Sto)(hi:evI c it env S=some (.vs ds,S1))(Pv:Nat->En->Sto->Prop)(h0:Pv 0 env S1)
  (hs:∀ (i:Nat) (d:D) (e2:En) (S2:Sto),ds[i]?=some d->Pv i e2 S2->Eg (asg c t d e2 S2) λ e3 S3=>Fo (evSs c W b e3 S3) (Vv (Pv (i+1)) Q))(hd:∀ e2 S2,Pv ds.length e2 S2->Q (.nx e2 S2)):Fo (evS c W (.fr t it b) env S) Q:=by
 suffices gen:∀ (n i:Nat) e2 S2,i<=ds.length->n=ds.length - i->Pv i e2 S2->Fo (forL (.vs ds) (λ d e1 S1=>(asg c t d e1 S1).bind λ q=>evSs c W b q.1 q.2) (n+1) i e2 S2) Q by
  obtain⟨f,h1,k⟩:=gen ds.length 0 env S1 (zero_le _) rfl h0;refine⟨f,?_,k⟩;dsimp only[evS];rw[hi]
  exact h1
 intro n
 induction n with
 | zero=>
  intro i e2 S2 hle hn hp;have e:i=ds.length:=by lia
  subst e;refine⟨.nx e2 S2,?_,hd e2 S2 hp⟩;dsimp only[forL];show (some ds[ds.length]?).bind _=_;rw[List.getElem?_eq_none<|oAl _];rfl
 | succ n ih=>
  intro i e2 S2 hle hn hp;have hlt:i<ds.length:=by lia
  have hdd:ds[i]?=some ds[i]:=oAt hlt;obtain⟨e3,S3,h1,f,h2,k⟩:=hs i _ e2 S2 hdd hp;have hst:(asg c t ds[i] e2 S2).bind (λ q=>evSs c W b q.1 q.2)=some f:=by rw[h1];exact h2
  have un:∀ X,(match some f with
   |some (.nx e1 S1)=>forL (.vs ds) (λ d e1 S1=>(asg c t d e1 S1).bind λ q=>evSs c W b q.1 q.2) (n+1) (i+1) e1 S1
   |some (.ct e1 S1)=>forL (.vs ds) (λ d e1 S1=>(asg c t d e1 S1).bind λ q=>evSs c W b q.1 q.2) (n+1) (i+1) e1 S1
   |some (.bk e1 S1)=>some<|.nx e1 S1
   |some (.rt d S1)=>some<|.rt d S1
   |none=>none)=X->forL (.vs ds) (λ d e1 S1=>(asg c t d e1 S1).bind λ q=>evSs c W b q.1 q.2) (n+1+1) i e2 S2=X:=λ X hX=>by
   dsimp only[forL];show (some ds[i]?).bind _=_;rw[hdd];rw[<- hst] at hX;exact hX
  cases f with
  | nx e4 S4=>
   obtain⟨g,h5,k5⟩:=ih (i+1) e4 S4 hlt (by lia) k;exact⟨g,un _ h5,k5⟩
  | ct e4 S4=>
   obtain⟨g,h5,k5⟩:=ih (i+1) e4 S4 hlt (by lia) k;exact⟨g,un _ h5,k5⟩
  |bk e4 S4=>exact⟨_,un _ rfl,k⟩
  |rt d4 S4=>exact⟨_,un _ rfl,k⟩
inductive Et(o:Option (Bool×Sto))(P:Bool->Sto->Prop):Prop
 |it (b:Bool) (S:Sto) (e:o=some (b,S)) (k:P b S)
theorem Vw{P:Bool->Sto->Prop}(k:P true S):Et (evTs c .nil env S) P:=⟨_,S,by dsimp only[evTs],k⟩
theorem UB(r:Sr)(ds:List D)(S1:Sto)(hi:evI c it env S=some (r,S1))(Pv:Nat->En->Sto->List D->Prop)(h0:Pv 0 (ZJ own caps env) S1 [])
  (hr:r=.vs ds\/(ds.length<=line/\∃ m,r=.rf m/\∀ i e2 S2 acc,Pv i e2 S2 acc->S2[m]?=some (.lst ds)))
  (hs:∀ (i:Nat) (d:D) (e2:En) (S2:Sto) (acc:List D),ds[i]?=some d->Pv i e2 S2 acc->Eg (asg c t d e2 S2) λ e3 S3=>Et (evTs c ifs e3 S3) λ b S4=>(b=true->Ev (ev c elt e3 S4) λ x S5=>acc.length<line/\Pv (i+1) e3 S5 (acc++[x]))/\(b=false->Pv (i+1) e3 S4 acc))
  (hd:∀ e2 S2 acc,Pv ds.length e2 S2 acc->R acc S2):Es (evL c (.comp own caps t it ifs elt) env S) R:=by
 have nx:∀ i e2 S2 acc,Pv i e2 S2 acc->r.nx i S2=some ds[i]?:=λ i e2 S2 acc hp=>by
  rcases hr with rfl | ⟨_,m,rfl,hm⟩
  ·rfl
  ·show (items S2<|.ref m).map (λ ds'=>ds'[i]?)=_;rw[items,hm _ _ _ _ hp];rfl
 have fu:ds.length<r.fuel:=by
  rcases hr with rfl | ⟨hl,m,rfl,hm⟩
  ·exact oAs _
  ·have e:(Sr.rf m).fuel=line+2:=rfl;rw[e];lia
 suffices gen:∀ (n i m:Nat) e2 S2 acc,i<=ds.length->n=ds.length - i->n<m->Pv i e2 S2 acc->∃ acc' S3,ZV r (ZO (λ d e S=>asg c t d e S) (λ e S=>evTs c ifs e S)<|λ e S=>ev c elt e S) m i e2 S2 acc=some (acc',S3)/\R acc' S3 by
  obtain⟨acc',S3,h1,k⟩:=gen ds.length 0 r.fuel _ S1 [] (zero_le _) rfl fu h0;refine⟨acc',S3,?_,k⟩;dsimp only[evL];rw[hi]
  exact h1
 intro n
 induction n with
 | zero=>
  intro i m e2 S2 acc hle hn hm hp;have e:i=ds.length:=by lia
  subst e;obtain⟨m,rfl⟩:∃ m',m=m'+1:=⟨m - 1,by lia⟩;refine⟨acc,S2,?_,hd e2 S2 acc hp⟩;dsimp only[ZV];rw[nx _ _ _ _ hp,List.getElem?_eq_none<|oAl _]
  rfl
 | succ n ih=>
  intro i m e2 S2 acc hle hn hm hp;have hlt:i<ds.length:=by lia
  have hdd:ds[i]?=some ds[i]:=oAt hlt;obtain⟨m,rfl⟩:∃ m',m=m'+1:=⟨m - 1,by lia⟩;obtain⟨e3,S3,h1,b,S4,h2,kt,kf⟩:=hs _ _ e2 S2 acc hdd hp;dsimp only[ZV];rw[nx _ _ _ _ hp,hdd]
  cases b with
  | true=>
   obtain⟨x,S5,h3,hz,k⟩:=kt rfl;have hst:ZO (λ d e S=>asg c t d e S) (λ e S=>evTs c ifs e S) (λ e S=>ev c elt e S) ds[i] e2 S2=some (some x,e3,S5):=by
    unfold ZO;dsimp only;rw[h1];show (evTs c ifs e3 S3).bind _=_;rw[h2];show (ev c elt e3 S4).map _=_;rw[h3];rfl
   obtain⟨acc',S6,h6,k6⟩:=ih (i+1) m e3 S5 (acc++[x]) hlt (by lia) (by lia) k;refine⟨acc',S6,?_,k6⟩;show (ZO _ _ _ ds[i] e2 S2).bind _=_;rw[hst];show (if acc.length<line then _ else _)=_;rw[if_pos hz];exact h6
  | false=>
   have hst:ZO (λ d e S=>asg c t d e S) (λ e S=>evTs c ifs e S) (λ e S=>ev c elt e S) ds[i] e2 S2=some (none,e3,S4):=by
    unfold ZO;dsimp only;rw[h1];show (evTs c ifs e3 S3).bind _=_;rw[h2];rfl
   obtain⟨acc',S6,h6,k6⟩:=ih (i+1) m e3 S4 acc hlt (by lia) (by lia)<|kf rfl;refine⟨acc',S6,?_,k6⟩;show (ZO _ _ _ ds[i] e2 S2).bind _=_;rw[hst];exact h6
theorem Zu(hl:T.lookup f=some fi)(hp:ds.length=fi.ps)(h:Fo (evSs (Za T W k) W fi.body (Yc fi.nn ds) S) (finK P)):Ev ((Za T W (k+1)).fn f ds S) P:=by
 obtain⟨fl,h1,k⟩:=h;rw[Zeh hl hp,h1];cases fl with
 |rt d S1=>exact⟨d,S1,rfl,k⟩
 |nx e S1=>exact⟨.non,S1,rfl,k⟩
 |bk e S1=>exact k.elim
 |ct e S1=>exact k.elim
variable {i j:Int}{PD:D->Prop}{PB:Bool->Prop}
theorem p_add(k:PD (.int (i+j))):Op (binop S .Add (.int i) (.int j)) PD:=⟨_,rfl,k⟩
theorem Wv(k:PD (.int (i - j))):Op (binop S .Sub (.int i) (.int j)) PD:=⟨_,rfl,k⟩
theorem qw(h1:-(2 ^ 64)<i)(h2:i<2 ^ 64)(k:PD (.int (i * j))):Op (binop S .Mult (.int i) (.int j)) PD:=⟨_,zb h1 h2,k⟩
theorem Zgb(h1:-(2 ^ 64)<j)(h2:j<2 ^ 64)(k:PD (.int (i * j))):Op (binop S .Mult (.int i) (.int j)) PD:=⟨_,zc h1 h2,k⟩
theorem ZhE(h:0<j)(k:PD (.int (i % j))):Op (binop S .Mod (.int i) (.int j)) PD:=⟨_,Zek h,k⟩
theorem Zbv(h:0<j)(h2:j<=10 ^ 70)(k:PD (.int (i / j))):Op (binop S .FloorDiv (.int i) (.int j)) PD:=⟨_,Zcz h h2,k⟩
theorem Zem(h:0<=n)(h2:n<=1000)(hv:(10:Int) ^ n.toNat=v)(k:PD (.int v)):Op (binop S .Pow (.int 10) (.int n)) PD:=⟨_,pow10 h h2,by rw[hv];exact k⟩
theorem c_lt(k:PB (decide (i<j))):Op (cmpop S .Lt (.int i) (.int j)) PB:=⟨_,rfl,k⟩
theorem c_le(k:PB (decide (i<=j))):Op (cmpop S .LtE (.int i) (.int j)) PB:=⟨_,rfl,k⟩
theorem c_gt(k:PB (decide (j<i))):Op (cmpop S .Gt (.int i) (.int j)) PB:=⟨_,rfl,k⟩
theorem c_ge(k:PB (decide (j<=i))):Op (cmpop S .GtE (.int i) (.int j)) PB:=⟨_,rfl,k⟩
theorem Zal(k:PB (decide (i=j))):Op (cmpop S .Eq (.int i) (.int j)) PB:=by
 refine⟨_,rfl,?_⟩;have e:decide (D.int i=D.int j)=decide (i=j):=by simp
 rw[e];exact k
theorem t_bl(k:PB b):Op (truth S (.bl b)) PB:=⟨_,rfl,k⟩
theorem two_of{p:Prop}[Decidable p]{A B:Prop}(h1:p->A)(h2:¬ p->B):(decide p=true->A)/\(decide p=false->B):=⟨λ h=>h1<|oAj h,λ h=>h2<|of_decide_eq_false h⟩
theorem two_t{A B:Prop}(h:A):(true=true->A)/\(true=false->B):=⟨λ _=>h,λ z=>nomatch z⟩
theorem two_f{A B:Prop}(h:B):(false=true->A)/\(false=false->B):=⟨λ z=>(nomatch z),λ _=>h⟩
theorem two_nt{A B:Prop}(h:A):((!false)=true->A)/\((!false)=false->B):=⟨λ _=>h,λ z=>nomatch z⟩
theorem two_nf{A B:Prop}(h:B):((!true)=true->A)/\((!true)=false->B):=⟨λ z=>(nomatch z),λ _=>h⟩
theorem ZK(h:L2.atI ds i=some d)(k:PD d):Op (subD S (.lst ds) (.int i)) PD:=⟨d,h,k⟩
theorem ZL(h:L2.atI ds i=some d)(k:PD d):Op (subD S (.tup ds) (.int i)) PD:=⟨d,h,k⟩
theorem Zen(hS:S[n]?=some (.lst ds))(h:L2.atI ds i=some d)(k:PD d):Op (subD S (.ref n) (.int i)) PD:=⟨d,by show (items S<|.ref n).bind (λ ds=>L2.atI ds i)=some d;rw[items,hS];exact h,k⟩
end
open PySem L2
def Gr(S S':Sto):Prop:=∃ z,S'=S++z
theorem Gr.one:Gr S (S++[o]):=⟨[o],rfl⟩
theorem Gr.get{S S':Sto}(g:Gr S S'){r:Nat}{o:Ob}(h:S[r]?=some o):S'[r]?=some o:=by
 obtain⟨z,rfl⟩:=g;rw[getElem?_append_left (List.getElem?_eq_some_iff.1 h).1];exact h
def Fr(r:Nat)(S S':Sto):Prop:=S.length<=S'.length/\∀ m,m<S.length->m≠r->S'[m]?=S[m]?
theorem Fr.refl:Fr r S S:=⟨oAl _,λ _ _ _=>rfl⟩
theorem Fr.trans(a:Fr r S S1)(b:Fr r S1 S2):Fr r S S2:=
 ⟨oAq a.1 b.1,λ m hm hr=>(b.2 m (oAo hm a.1) hr).trans<|a.2 m hm hr⟩
theorem ZhF(hl:S'.length=S.length)(ho:∀ m:Nat,m≠r->S'[m]?=S[m]?):Fr r S S':=⟨by omega,λ m _ hm=>ho m hm⟩
theorem Gr.fr(g:Gr S S'):Fr r S S':=by
 obtain⟨z,rfl⟩:=g;exact⟨by simp,λ m hm _=>getElem?_append_left hm⟩
theorem Fr.get(f:Fr r S S')(hr:m≠r)(h:S[m]?=some o):S'[m]?=some o:=by
 rw[f.2 m (List.getElem?_eq_some_iff.1 h).1 hr];exact h
theorem zN:(S++[o])[S.length]?=some o:=by simp
section
variable {c:Cl}{W:Nat}{env:En}{S:Sto}{P:D->Sto->Prop}{Q:Fl->Prop}{G:En->Sto->Prop}{i j:Int}{PD:D->Prop}{PB:Bool->Prop}
theorem Us(h:bltD S b ds=some d)(k:PD d):Op (bltD S b ds) PD:=⟨d,h,k⟩
theorem YA{x d:D}{lo hi:Option Int}(h:ZS S x lo hi=some d)(k:PD d):Op (ZS S x lo hi) PD:=⟨d,h,k⟩
theorem YB(hz:xs.length+ys.length<=line)(k:PD (.tup (xs++ys))):Op (binop S .Add (.tup xs) (.tup ys)) PD:=⟨_,by show (if xs.length+ys.length<=line then some (D.tup<|xs++ys) else none)=_;rw[if_pos hz],k⟩
theorem Zgc(h1:i.natAbs<2 ^ 100000)(h2:j.natAbs<2 ^ 100000)(k:PD (.int (i * j))):Op (binop S .Mult (.int i) (.int j)) PD:=⟨_,Zej h1 h2,k⟩
theorem ZhG(k:PB (!decide (i=j))):Op (cmpop S .NotEq (.int i) (.int j)) PB:=by
 refine⟨_,rfl,?_⟩;have e:decide (D.int i=D.int j)=decide (i=j):=by simp
 rw[e];exact k
theorem zO(h:n<=3840):((10:Int) ^ n).natAbs<2 ^ 100000:=by
 rw[Int.natAbs_pow];have h1:Int.natAbs 10 ^ n<=16 ^ n:=Nat.pow_le_pow_left (by decide) n;have h2:(16:Nat) ^ n=2 ^ (4 * n):=by rw[show (16:Nat)=2 ^ 4 by decide,<-Nat.pow_mul]
 have h3:(2:Nat) ^ (4 * n)<2 ^ 100000:=Nat.pow_lt_pow_right (by decide) (by lia);lia
theorem pow60:binop S .Pow (.int 10) (.int 60)=some (.int 1000000000000000000000000000000000000000000000000000000000000):=by
 rw[pow10 (by decide) (by decide)];rfl
theorem Zeo(k:P (.ref S.length) (S++[.dt []])):Ev (ev c .dnew env S) P:=⟨_,_,by dsimp only[ev],k⟩
theorem Zgd(h:Ev (ev c a env S) λ x S1=>∃ ds,x=.tup ds/\P (.tup ds.reverse) S1):Ev (ev c (.rev a) env S) P:=by
 obtain⟨x,S1,h1,y,rfl,k⟩:=h;exact⟨_,S1,by dsimp only[ev];rw[h1];rfl,k⟩
theorem two_bn{p:Prop}[Decidable p]{A B:Prop}(h1:p->B)(h2:¬ p->A):((!decide p)=true->A)/\((!decide p)=false->B):=by
 by_cases h:p
 ·rw[oAi h];exact⟨λ z=>(nomatch z),λ _=>h1 h⟩
 ·rw[oAh h];exact⟨λ _=>h2 h,λ z=>(nomatch z)⟩
theorem VN{n i:Nat}{d:D}(h:((List.range n).map λ (k:Nat)=>D.int (0+(k:Int)))[i]?=some d):i<n/\d=.int i:=by
 have hi:i<n:=by
  have:=(List.getElem?_eq_some_iff.1 h).1;simpa using this
 refine⟨hi,?_⟩;rw[getElem?_map,List.getElem?_range hi] at h;have:=(oAk h).symm;rw[this];simp
theorem Zbw(he:ev c e env S=some (.int z,S'))(z1:-(2 ^ 62)<=z)(z2:z<2 ^ 62):evI c (.rng1 e) env S=some (.vs ((List.range z.toNat).map λ (k:Nat)=>D.int (0+(k:Int))),S'):=by
 dsimp only[evI];rw[he];show (if -(2 ^ 62)<=z/\z<2 ^ 62 then _ else _)=_;rw[if_pos ⟨z1,z2⟩]
theorem JQ(h:Ev (ev c a env S) λ d S1=>∃ (z:Int) (Pv:Nat->En->Sto->Prop),d=.int z/\-(2 ^ 62)<=z/\z<2 ^ 62/\Pv 0 env S1 /\
      (∀ (i:Nat) (e2:En) (S2:Sto),i<z.toNat->Pv i e2 S2->Eg (asg c t (.int i) e2 S2) λ e3 S3=>Fo (evSs c W b e3 S3) (Vv (Pv (i+1)) Q))/\(∀ e2 S2,Pv z.toNat e2 S2->Q (.nx e2 S2))):Fo (evS c W (.fr t (.rng1 a) b) env S) Q:=by
  obtain⟨d,S1,h1,z,Pv,rfl,z1,z2,h0,hs,hd⟩:=h;refine Zak _ S1 (by dsimp only[evI];rw[h1];show (if -(2 ^ 62)<=z/\z<2 ^ 62 then _ else _)=_;rw[if_pos ⟨z1,z2⟩]) Pv h0 ?_ ?_
  · intro i d e2 S2 hi hp;obtain⟨a1,rfl⟩:=VN hi;exact hs i e2 S2 a1 hp
  · intro e2 S2 hp;refine hd e2 S2 ?_;simpa using hp
end
open PySem PySem.Spec PyProof.Rows L2
def GlIn(K:Frag)(x:Str)(d:D):Prop:=∃ (u:Value) (v:V),PySem.W.nsIn K mainGlobals x=some (some u)/\RelV v u/\∀ mu H,RD K mu H d v
section
variable {K:Frag}{mg:Str->Option Value}
theorem gl_str{x s s':Str}{tk:Tok}(h:PySem.W.nsIn K mainGlobals x=some (some (.str s' tk)))(e:s'=s):GlIn K x (.str s):=by
 subst e;exact⟨_,.str s',h,⟨tk,rfl⟩,λ mu H=>by dsimp only[RD]⟩
theorem gl_int{x:Str}{z:Int}{tk:Tok}(h:PySem.W.nsIn K mainGlobals x=some (some (.int z tk))):GlIn K x (.int z):=⟨_,.int z,h,⟨tk,rfl⟩,λ mu H=>by dsimp only[RD]⟩
theorem Zge{T:Tab}{h:Heap}(KX:K.In h)(G:h.Ns mainGlobals mg)(b:∀ p∈T.gls,GlIn K p.1 p.2):∀ x d,T.gls.lookup x=some d->∃ u v,mg x=some u/\RelV v u/\∀ mu H,RD K mu H d v:=λ x d hl=>by
 obtain⟨u,v,h1,h2,h3⟩:=b (x,d)<|PySem.mem_of_lookup (l:=T.gls) hl;exact⟨u,v,PySem.W.mg_of KX G h1,h2,h3⟩
end
open PySem PySem.Spec PyProof.Rows L2
section
variable {K:Frag}{mg:Str->Option Value}
structure UC(K:Frag)(C m:Str)(st:Stmt):Prop where
 ex:∃ (Ca f:Addr) (q:Str) (oc:Value) (od an:Option Addr) (sl:Array (Option Value)) (kV doc pm cdv ct:Value),PySem.W.nsIn K mainGlobals C=some (some (.ref Ca))/\Cls K Ca/\(m="__init__"->PySem.W.makesIn K Ca=true/\PySem.W.keepIn K (.ref Ca)=true) /\
  PySem.W.findIn K (.ref Ca) m=some (some (.ref f))/\PySem.W.isFn K (.ref f)=true/\q=ZC C m /\
  K.lookup f=some ⟨oc,od,.func (PySem.W.fnOf m q (Yj st) (ZE st) (Zi st) .none kV doc pm an cdv ct),sl⟩/\PySem.W.codeIn K cdv q=true/\PySem.W.keepIn K (.ref f)=true
def Zc7(m q:Str)(st:Stmt):Prop:=∀ (kV doc pm:Value) (an:Option Addr) (cdv ct:Value) (us:List Value),us.length=(Zj st).length->bindArgs (PySem.W.fnOf m q (Yj st) (ZE st) (Zi st) .none kV doc pm an cdv ct) ⟨us,[]⟩=pure ((Zj st).zip us)
theorem UC.ok{T:Tab}{W:Nat}{h:Heap}{C m:Str}{st:Stmt}{fi:FI}(KX:K.In h)(G:h.Ns mainGlobals mg)(d:UC K C m st)(sc:Z7 (namesOf st) (Zj st) (Zi st))(b:Zc7 m (ZC C m) st)
  (hp:(Zj st).length=fi.ps)(hn:(namesOf st).length=fi.nn)(hc:∀ (k:Nat) (X:Cx),RX X T W k (Zi st).names (namesOf st)->PSs X (ZE st) (tSt X.K (evSs (Za T W k) W fi.body))):∃ st Ca fa fd,JE T W K mg C m fi st Ca fa fd:=by
 obtain⟨Ca,f,q,oc,od,an,sl,kV,doc,pm,cdv,ct,h1,h2,h3,h4,h5,rfl,h6,h7,h8⟩:=d.ex;refine⟨st,Ca,f,_,⟨⟨oc,od,kV,doc,pm,an,cdv,ct,sl,rfl,h6,h7⟩,h8⟩,h1,λ _=>⟨h2,h4,h5,h8⟩,λ e=>?_,sc,.all<|λ us hl=>b _ _ _ _ _ _ us hl,hp,hn,hc⟩;subst e;exact⟨PySem.W.mg_of KX G h1,(h3 rfl).1,h4,h5,(h3 rfl).2⟩
def EntK(P:Params):List DictEntry->List (Str×Int)->Prop
 |[],[]=>True
 |e::es,(x,i)::kvs=>(∃ t,e.key=.str x t/\e.hash=PyData.keyHash P x)/\(∃ u,e.val=.int i u)/\EntK P es kvs
 |_,_=>False
theorem EntK.keys{P:Params}:∀ {es:List DictEntry}{kvs:List (Str×Int)},EntK P es kvs->PySem.W.KeysLit P es
 |[],[],_=>trivial
 |e::es,(x,i)::kvs,h=>⟨⟨x,h.1.choose,h.1.choose_spec⟩,EntK.keys h.2.2⟩
 |[],_::_,h=>h.elim
 |_::_,[],h=>h.elim
theorem EntK.find{P:Params}{y:Str}:∀ {es:List DictEntry}{kvs:List (Str×Int)},EntK P es kvs->es.any (·.refKey)=false/\(match kvs.lookup y with
      |some i=>∃ e t,es.find? (·.key.isStr y)=some e/\e.val=.int i t
      |none=>es.find? (·.key.isStr y)=none)
  |[],[],_=>⟨rfl,rfl⟩
  | e::es,(x,i)::kvs,h=>by
    obtain⟨⟨t,hk,_⟩,⟨u,hv⟩,hr⟩:=h;obtain⟨r1,r2⟩:=EntK.find (y:=y) hr;have e1:e.refKey=false:=by unfold DictEntry.refKey;rw[hk]
    refine⟨by rw[any_cons,e1,r1];rfl,?_⟩
    have e2:e.key.isStr y=(y==x):=by
      rw[hk];show (x==y)=(y==x);exact Bool.eq_iff_iff.2 (by rw[beq_iff_eq,beq_iff_eq];exact eq_comm)
    rw[lookup_cons,find?_cons,e2];cases q:y==x with
    |true=>exact⟨e,u,rfl,hv⟩
    |false=>exact r2
  |[],_::_,h=>h.elim
  |_::_,[],h=>h.elim
theorem ZhH{w:World}{h:Heap}{x:Str}{kvs:List (Str×Int)}{a:Addr}{es:Array DictEntry}{n:Nat}(KX:K.In h)(G:h.Ns mainGlobals mg)(h1:PySem.W.nsIn K mainGlobals x=some (some (.ref a)))(h2:K.lookup a=some ⟨.type "dict",none,.dict es n,#[]⟩)(he:EntK w.params es.toList kvs)(hs:(a==sysModules)=false):GdF K w mg x kvs:=by
 refine⟨a,es,n,PySem.W.mg_of KX G h1,h2,he.keys,hs,λ y=>?_⟩;obtain⟨r1,r2⟩:=he.find (y:=y);unfold PySem.W.nsIn;rw[h2];dsimp only;cases q:kvs.lookup y with
 | none=>
  rw[q] at r2;rw[show es.toList.find? (·.key.isStr y)=none from r2];refine⟨none,?_,rfl⟩;show (if es.toList.any (·.refKey) then none else some none)=_;rw[r1];rfl
 | some i=>
  rw[q] at r2;obtain⟨e,t,h3,h4⟩:=r2;rw[h3];exact⟨some e.val,rfl,t,by rw[h4]⟩
structure FdIn(K:Frag)(C x:Str):Prop where
 ex:∃ Ca:Addr,PySem.W.nsIn K mainGlobals C=some (some (.ref Ca))/\Cls K Ca/\ZaN K Ca x
theorem ZhI(h:∀ p∈T.fds,FdIn K p.1 p.2):FdF T K:=λ C x Ca hc hn=>by
 obtain⟨Cb,h1,h2,h3⟩:=(h (C,x)<|List.contains_iff_mem.1 hc).ex;rw[h1] at hn;cases hn
 exact⟨h2,h3⟩
theorem We:∀ (a a0 b b0:List Nat),46∉a0->46∉b0->a++46::b=a0++46::b0->a=a0/\b=b0
 |[],[],b,b0,_,_,e=>⟨rfl,(List.cons.inj e).2⟩
 |[],x::a0,b,b0,h,_,e=>absurd (List.mem_cons.2<|.inl (List.cons.inj e).1) h
 |x::a,[],b,b0,_,h,e=>absurd (by rw[<- (List.cons.inj e).2];exact List.mem_append.2<|.inr<|oAn ..) h
 | x::a,y::a0,b,b0,h,h2,e=>by
  obtain⟨e1,e2⟩:=List.cons.inj e;obtain⟨r1,r2⟩:=We a a0 b b0 (λ z=>h<|oAm _ z) h2 e2;exact⟨by rw[e1,r1],r2⟩
theorem Zbx(h0:46∉C0.cps.toList)(h1:46∉m0.cps.toList)(e:ZC C m=ZC C0 m0):C=C0/\m=m0:=by
 have e2:C.cps.toList++46::m.cps.toList=C0.cps.toList++46::m0.cps.toList:=by
  have:=congrArg (λ s:Str=>s.cps.toList) e;have k:∀ A B:Str,(ZC A B).cps.toList=A.cps.toList++46::B.cps.toList:=λ A B=>by
   show (A.cps++((Str.ofString ".").cps++B.cps)).toList=_;rw[Array.toList_append,Array.toList_append];rfl
  rwa [k C m,k C0 m0] at this
 obtain⟨r1,r2⟩:=We _ _ _ _ h0 h1 e2;exact⟨by cases C;cases C0;exact congrArg Str.mk<|Array.toList_inj.1 r1,by cases m;cases m0;exact congrArg Str.mk<|Array.toList_inj.1 r2⟩
theorem Zep(h:∀ p∈T.mts,∃ C m,p.1=ZC C m/\46∉C.cps.toList/\46∉m.cps.toList/\∃ st Ca fa fd,JE T W K mg C m p.2 st Ca fa fd):∀ C m fi,T.mts.lookup (ZC C m)=some fi->∃ st Ca fa fd,JE T W K mg C m fi st Ca fa fd:=λ C m fi hl=>by
 obtain⟨C0,m0,e,h0,h1,st,Ca,fa,fd,d⟩:=h (ZC C m,fi)<|PySem.mem_of_lookup (l:=T.mts) hl;obtain⟨rfl,rfl⟩:=Zbx h0 h1 e;exact⟨st,Ca,fa,fd,d⟩
noncomputable def Zeq:Stmt->List Stmt
 |.ClassDef _ _ _ body ..=>body
 |_=>[]
end
open PySem PySem.Spec PyProof.Rows L2
section
variable {c:Cl}{W:Nat}{env:En}{S:Sto}{P:D->Sto->Prop}{Q:Fl->Prop}{R:List D->Sto->Prop}{G:En->Sto->Prop}
theorem Zgf(h:Ev (ev c a env S) λ x S1=>∃ ds ls,lsOf S1 x=some ds/\Yg ds=some ls/\ls.length<63/\P (.int ((SY.ddT ls).length:Int)) S1):Ev (ev c (.slT a) env S) P:=by
 obtain⟨x,S1,h1,ds,ls,h2,h3,h4,k⟩:=h;exact⟨_,S1,by dsimp only[ev];rw[h1];show (lsOf S1 x).bind _=_;rw[h2];show (Yg ds).bind _=_;rw[h3];show (if ls.length<63 then _ else _)=_;rw[if_pos h4],k⟩
theorem Zgg(h:Ev (ev c a env S) λ x S1=>∃ ds l,x=.tup ds/\ZB ds=some l/\l.length<4000/\P (.int ((SX.ddS l).length:Int)) S1):Ev (ev c (.slX a) env S) P:=by
 obtain⟨x,S1,h1,ds,l,rfl,h3,h4,k⟩:=h;exact⟨_,S1,by dsimp only[ev];rw[h1];show (ZB ds).bind _=_;rw[h3];show (if l.length < _ then _ else _)=_;rw[if_pos h4],k⟩
theorem Zer(h:Ev (ev c a env S) λ d S1=>∃ ds l,lsOf S1 d=some ds/\ZB ds=some l/\Y5 x l=true/\P (.str (Str.join x l)) S1):Ev (ev c (.join x a) env S) P:=by
 obtain⟨d,S1,h1,ds,l,h2,h3,h4,k⟩:=h;refine⟨_,S1,?_,k⟩;dsimp only[ev];rw[h1]
 show (lsOf S1 d).bind _=_;rw[h2];show (ZB ds).bind _=_;rw[h3];show (if Y5 x l=true then _ else _)=_;rw[if_pos h4]
theorem Zes(h:Ev (ev c a env S) λ x S1=>Ev (ev c i env S1) λ y S2=>∃ ks kvs k d,y=.tup ks/\ks.length=3/\dtRd S2 x=some kvs/\Z6 ks=some k/\valD kvs k=some d/\P d S2):Ev (ev c (.subK a i) env S) P:=by
 obtain⟨x,S1,h1,y,S2,h2,ks,kvs,k,d,rfl,h3,h4,h5,h6,kk⟩:=h;refine⟨d,S2,?_,kk⟩;dsimp only[ev];rw[h1]
 show (ev c i env S1).bind _=_;rw[h2];show (if ks.length=3 then _ else _)=_;rw[if_pos h3,h4];show (Z6 ks).bind _=_;rw[h5];show (valD kvs k).map _=_;rw[h6];rfl
theorem ZhJ(h:Ev (ev c o env S) λ x S1=>Ev (ev c i env S1) λ y S2=>∃ n ks kvs k,x=.ref n/\y=.tup ks/\S2[n]?=some (.dt kvs)/\(ks.length=3/\kvs.length<line)/\Z6 ks=some k/\G env (S2.set n (.dt (putD kvs k d)))):Eg (asg c (.subK o i) d env S) G:=by
 obtain⟨x,S1,h1,y,S2,h2,n,ks,kvs,k,rfl,rfl,h3,h4,h5,kk⟩:=h;refine⟨env,_,?_,kk⟩;dsimp only[asg];rw[h1]
 show (ev c i env S1).bind _=_;rw[h2];show (match S2[n]? with
   |some (.dt kvs)=>if ks.length=3/\kvs.length<line then (Z6 ks).map λ k=>(env,S2.set n<|.dt<|putD kvs k d) else none
   |_=>none)=_
 rw[h3];show (if ks.length=3/\kvs.length<line then _ else _)=_;rw[if_pos h4,h5];rfl
theorem ZcA(g:List Key×D->D)(E:En->Prop)(hv:env[i]?=some (some (.ref n)))(hS:S[n]?=some (.dt kvs))(hl:kvs.length<=1000000)(h0:E (ZJ own caps env))
    (hs:∀ kv∈kvs,∀ e2,E e2->E (e2.set 1 (some (.tup (kv.1.map unkey))))/\Ev (ev c elt (e2.set 1 (some (.tup (kv.1.map unkey)))) (S.set n (.dtf kvs))) λ x S3=>x=g kv/\S3=S.set n (.dtf kvs))(k:R (kvs.map g) S):Es (evL c (.compD own caps (.name 1) (.var i) elt) env S) R:=by
  have hn:n<S.length:=(List.getElem?_eq_some_iff.1 hS).1;have gen:∀ (m j:Nat) (e2:En) (acc:List D),j<=kvs.length->m=kvs.length - j->E e2->acc=(kvs.take j).map g->∃ r,ZV (.vs<|kvs.map λ kv=>D.tup<|kv.1.map unkey) (ZO (λ d e S=>asg c (.name 1) d e S) (λ e S=>some (true,S))<|λ e S=>ev c elt e S) (m+1) j e2 (S.set n<|.dtf kvs) acc=some (r,S.set n<|.dtf kvs)/\r=kvs.map g:=by
    intro m
    induction m with
    | zero=>
      intro j e2 acc hj hm he ha;have ej:j=kvs.length:=by lia
      subst ej;refine⟨acc,?_,by rw[ha,List.take_length]⟩;dsimp only[ZV];show (some (kvs.map λ kv=>D.tup<|kv.1.map unkey)[kvs.length]?).bind _=_;rw[List.getElem?_eq_none (by simp)];rfl
    | succ m ih=>
      intro j e2 acc hj hm he ha;have hlt:j<kvs.length:=by lia
      dsimp only[ZV];show ∃ r,(some (kvs.map λ kv=>D.tup<|kv.1.map unkey)[j]?).bind _=_/\_;rw[getElem?_map,oAt hlt];obtain⟨h1,x,S3,h2,rfl,rfl⟩:=hs kvs[j] (getElem_mem hlt) e2 he;have hst:ZO (λ d e S=>asg c (.name 1) d e S) (λ e S=>some (true,S)) (λ e S=>ev c elt e S) (D.tup<|kvs[j].1.map unkey) e2 (S.set n<|.dtf kvs)=some (some<|g kvs[j],e2.set 1<|some<|.tup<|kvs[j].1.map unkey,S.set n<|.dtf kvs):=by
        have ha':asg c (.name 1) (D.tup<|kvs[j].1.map unkey) e2 (S.set n<|.dtf kvs)=some (e2.set 1<|some<|.tup<|kvs[j].1.map unkey,S.set n<|.dtf kvs):=by dsimp only[asg]
        unfold ZO;show (asg c (.name 1) (D.tup<|kvs[j].1.map unkey) e2<|S.set n<|.dtf kvs).bind _=_;rw[ha'];show ((ev c elt (e2.set 1<|some<|.tup<|kvs[j].1.map unkey)<|S.set n<|.dtf kvs).map _)=_;rw[h2];rfl
      obtain⟨r,h3,h4⟩:=ih (j+1) (e2.set 1<|some<|.tup<|kvs[j].1.map unkey) (acc++[g kvs[j]]) (by lia) (by lia) h1 (by rw[ha,take_succ,oAt hlt,map_append];rfl)
      refine⟨r,?_,h4⟩;show (ZO _ _ _ _ e2 _).bind _=_;rw[hst];show (if acc.length<line then _ else _)=_;rw[if_pos (by rw[ha,length_map,length_take];show _<16777216;lia)]
      exact h3
  obtain⟨r,h1,rfl⟩:=gen kvs.length 0 (ZJ own caps env) [] (by lia) (by lia) h0 rfl;refine⟨kvs.map g,S,?_,k⟩;dsimp only[evL];have hvar:ev c (.var i) env S=some (.ref n,S):=by dsimp only[ev];rw[hv]
  rw[hvar];show (match S[n]? with
      |some (.dt kvs)=>_
      |_=>none)=_
  rw[hS];show (ZV _ _ (kvs.length+1) 0 (ZJ own caps env) (S.set n<|.dtf kvs) []).bind _=_;rw[h1];show (match (S.set n<|.dtf kvs)[n]? with
        |some (.dtf kvs')=>some (kvs.map g,(S.set n<|.dtf kvs).set n<|.dt kvs')
        |_=>none)=_
  rw[getElem?_set_self hn];show some (kvs.map g,(S.set n<|.dtf kvs).set n<|.dt kvs)=_;rw[List.set_set];congr 2
  apply List.ext_getElem?;intro j;by_cases hj:n=j
  · subst hj;rw[getElem?_set_self hn,hS]
  · rw[getElem?_set_ne hj]
end
open PySem L2
theorem fm{α:Type}{p:α->Prop}{a:α}{l:List α}(h:p a)(t:∀ x∈l,p x):∀ x∈a::l,p x:=List.forall_mem_cons.2 ⟨h,t⟩
structure Kd(T:Tab)(W:Nat)(n:Str)(st:Stmt)(F:FI):Prop where
 sc:Z7 (namesOf st) (Zj st) (Zi st)
 bo:qt n st
 hp:(Zj st).length=F.ps
 hn:(namesOf st).length=F.nn
 dv:∀ (k:Nat) (X:Cx),RX X T W k (Zi st).names (namesOf st)->PSs X (ZE st) (tSt X.K (evSs (Za T W k) W F.body))
structure Km(T:Tab)(W:Nat)(C m:Str)(st:Stmt)(F:FI):Prop where
 sc:Z7 (namesOf st) (Zj st) (Zi st)
 bo:Zc7 m (ZC C m) st
 hp:(Zj st).length=F.ps
 hn:(namesOf st).length=F.nn
 dv:∀ (k:Nat) (X:Cx),RX X T W k (Zi st).names (namesOf st)->PSs X (ZE st) (tSt X.K (evSs (Za T W k) W F.body))
 c1:46∉C.cps.toList
 c2:46∉m.cps.toList
section
variable {T:Tab}{W:Nat}{K:Frag}{h:Heap}{mg:Str->Option Value}{top:Nat->Stmt}{mth:Nat->Nat->Stmt}
theorem facts{Dl:List (Str×Nat)}{Fl:List FI}(hT:T.fns=(Dl.zip Fl).map λ p=>(p.1.1,p.2))(kd:∀ p∈Dl.zip Fl,Kd T W p.1.1 (top p.1.2) p.2)(KX:K.In h)(G:h.Ns mainGlobals mg)(dd:∀ p∈Dl,YW K p.1 (top p.2)):∀ f fi,T.lookup f=some fi->∃ st fa fd,J1 T W K mg f fi st fa fd:=
 Zf7 (by
  rw[hT];refine List.forall_mem_map.2 λ p hp=>?_;have k:=kd p hp;exact YW.ok KX G (dd _ (of_mem_zip hp).1) k.sc k.bo k.hp k.hn k.dv)
theorem mfacts{Ml:List (Str×Str×Nat×Nat)}{Ql:List FI}(hT:T.mts=(Ml.zip Ql).map λ p=>(ZC p.1.1 p.1.2.1,p.2))(km:∀ p∈Ml.zip Ql,Km T W p.1.1 p.1.2.1 (mth p.1.2.2.1 p.1.2.2.2) p.2)(KX:K.In h)(G:h.Ns mainGlobals mg)(dm:∀ p∈Ml,UC K p.1 p.2.1 (mth p.2.2.1 p.2.2.2)):∀ C m fi,T.mts.lookup (ZC C m)=some fi->∃ st Ca fa fd,JE T W K mg C m fi st Ca fa fd:=
 Zep (by
  rw[hT];refine List.forall_mem_map.2 λ p hp=>?_;have k:=km p hp;exact⟨_,_,rfl,k.c1,k.c2,UC.ok KX G (dm _ (of_mem_zip hp).1) k.sc k.bo k.hp k.hn k.dv⟩)
end
end PF
open PySem L2 PF
set_option compiler.extract_closed false
local macro_rules | `(tactic| walk_at "al") => `(tactic| dsimp only [PF.Exs.c, PF.Exs.n, PF.Sms.c, PF.Sms.n, PF.Tgs.c, PF.Tgs.n, PF.Ex.v, PF.Ex.i, PF.Ex.u, PF.Ex.f, PF.Sm.r, PF.Tg.m, PF.Ex.p, PF.Ex.b, PF.Sm.q, PF.Ex.t, PF.Tg.t, PF.Sm.a, PF.Ex.s, PF.Ex.d, PF.Ex.l, PF.Lx.l, PF.Ex.m, PF.Tg.u, PF.Lx.b])
local macro_rules | `(tactic| walk_at "s1") => `(tactic| first
 | with_reducible first
  |refine Zc rfl ?_ | refine Zg ?_ | refine Zv ?_ | refine ZhB ?_ | refine Z1 ?_ | refine p_add ?_ | refine Wv ?_ | refine Zb ?_ | refine Ze ?_ | refine Zy ?_ | refine Yz ?_ | refine Zd ?_ | refine Ym ?_ | refine ZD ?_ | refine g_nm ?_ | refine Zh ?_ | refine Zel ?_ | refine Zga ?_ | refine ZY ?_ | refine Zc6 ?_ | refine YX ?_ | refine Zw ?_ | refine Z2 ?_ | refine JP ?_ | refine ZW ?_ | refine YY ?_ | refine c_lt ?_ | refine c_le ?_ | refine c_gt ?_ | refine c_ge ?_ | refine Zal ?_ | refine ZhG ?_ | refine t_bl ?_ | refine YZ ?_ | refine Jg ?_ | refine Y0 ?_ | refine ZhD ?_ | refine g_tp ?_ | refine VM ?_ | refine Zbu ?_ | refine zM ?_ | refine Op.mk Zei ?_ | refine Op.mk zL ?_ | refine Op.mk Zbt ?_ | refine Op.mk Yk ?_ | refine Op.mk UP ?_ | refine Op.mk za ?_ | refine Op.mk qu ?_ | refine two_t ?_ | refine two_f ?_ | refine two_nt ?_ | refine two_nf ?_ | refine ZX ?_ | refine ZG ?_ | refine ZhC ?_ | refine Yy ?_ | refine qv ?_
 |(refine Zen (by with_reducible assumption) rfl ?_) | (refine ZK rfl ?_) | (refine ZL rfl ?_) | (refine ZhE (by first | with_reducible assumption | omega) ?_) | (refine Zbv (by omega) (by omega) ?_) | (refine qw (by omega) (by omega) ?_) | (refine Zgb (by omega) (by omega) ?_) | (refine Zem (by omega) (by omega) (by simp only[Int.reduceToNat,Int.reducePow];rfl) ?_)
 |((with_reducible refine' Exists.intro _ (Exists.intro _ (Exists.intro _ (Exists.intro _ (Exists.intro _ (And.intro rfl (And.intro rfl (And.intro ?ax (And.intro ?bx (And.intro ?cx ?dx))))))))));(case ax=>assumption);(case bx=>exact rfl);(case cx=>(simp only[Int.reduceToNat,List.set_cons_succ,List.set_cons_zero];rfl));intro Sn hSn hOn hLn) | (with_reducible refine And.intro (by simp only[length_cons,length_nil];decide) ?_) | (refine Us rfl ?_) | (refine YA rfl ?_) | (with_reducible refine Exists.intro _ (And.intro rfl ?_)))
local macro_rules | `(tactic| walk_at "go") => `(tactic| repeat (walk_at "s1"))
local macro_rules | `(tactic| walk_at "st") => `(tactic| (dsimp only [Yc, map_cons, map_nil, length_cons, length_nil, List.replicate, List.cons_append, List.nil_append, Nat.reduceSub, Nat.reduceAdd]; walk_at "go"))
local macro_rules | `(tactic| walk_at "r1") => `(tactic| first | refine λ Y ry => ⟨?_, ?_, ?_⟩ | with_reducible assumption | exact λ _ => rfl | with_reducible refine And.intro ?_ ?_)
local macro_rules | `(tactic| walk_at "r1") => `(tactic| with_reducible first | exact ZfK | exact ZfR | exact Zbp | refine q_if ?_ ?_ ?_ | refine Zht (by assumption) ?_ ?_ ?_ | refine Zhr (by assumption) ?_ ?_ ?_ ?_ ?_ | refine Zf3 (by assumption) (by decide +kernel) ?_ ?_ | refine ZfV (by assumption) ?_ ?_ ?_ | refine ZfU (by assumption) ?_ ?_ ?_ | refine Zhq ?_ ?_ ?_ ?_ ?_ | refine Zhc ?_ ?_ | refine' Zhv (by assumption) ?_ ?_ ?_ ?_ | refine' ZfY (by assumption) ?_ ?_ ?_ ?_ | refine Zhm (by assumption) ?_ ?_ ?_ ?_ | refine ZfW (by assumption) ?_ ?_ ?_ ?_ | refine Zhd ?_ | refine Zhe ?_ | refine ZfJ ?_ | refine Zhg ?_ ?_ | refine b_or ?_ ?_ | refine Zhf ?_ | refine Zhh ?_ ?_ ?_ | refine Zhj ?_ ?_ ?_ | refine ZfL ?_ | refine' Zhw (by assumption) ?_ ?_ ?_ ?_ ?_ | refine Zf1 (by assumption) ?_ ?_ ?_ | refine Zef (by assumption) ?_ ?_ ?_ | exact Zf0 | refine ZfZ (by assumption) ?_ ?_ ?_ | refine Zhx ?_ | refine Zhy (by assumption) ?_ ?_ ?_ ?_ | refine Zhz (by assumption) ?_ ?_ ?_ ?_ | refine Zf2 ?_ ?_ ?_ | refine Zeg (by assumption) ?_ ?_ ?_ ?_ ?_ ?_ | refine Zhk ?_ | refine r_lv ?_ | refine r_lr ?_ | refine Zho (by assumption) ?_ ?_ ?_ ?_ ?_ | refine Zhn (by assumption) ?_ ?_ ?_ ?_ ?_ | refine ZfP (by assumption) ?_ ?_ ?_ ?_ ?_ | refine Zec (by assumption) ?_ | refine Zhp (by assumption) ?_ ?_ ?_ ?_ ?_ | refine Zd9 (by assumption) ?_ ?_ ?_ | refine ZfX (by assumption) ?_ ?_ ?_ ?_ ?_ ?_ | refine ZfN ?_ ?_ | refine ZfS (by assumption) ?_ ?_ ?_ | refine Zeb ?_ ?_ ?_ | refine ZfQ (by assumption) ?_ ?_ ?_ | refine r_gl (by assumption) ?_ ?_)
local macro_rules | `(tactic| walk_at "r1") => `(tactic| rfl)
local macro_rules | `(tactic| walk_at "r1") => `(tactic| decide +kernel)
local macro_rules | `(tactic| walk_at "r1") => `(tactic| with_reducible refine Zea (by assumption) ?_ ?_)
local macro_rules | `(tactic| walk_at "r1") => `(tactic| with_reducible refine ZfO (by assumption) ?_ ?_ ?_ ?_)
local macro_rules | `(tactic| walk_at "r1") => `(tactic| with_reducible refine Zhs ?_)
local macro_rules | `(tactic| walk_at "r1") => `(tactic| with_reducible refine Zhi ?_ ?_ ?_)
local macro_rules | `(tactic| walk_at "r1") => `(tactic| with_reducible exact Zg9)
local macro_rules | `(tactic| walk_at "r1") => `(tactic| with_reducible exact Zhl)
local macro_rules | `(tactic| walk_at "r1") => `(tactic| with_reducible refine Zbn ?_ ?_)
local macro_rules | `(tactic| walk_at "r1") => `(tactic| with_reducible refine Zd8 ?_)
local macro_rules | `(tactic| walk_at "r1") => `(tactic| with_reducible refine ZfM ?_ ?_ ?_)
local macro_rules | `(tactic| walk_at "r1") => `(tactic| with_reducible refine Zhb (by assumption) ?_ ?_ ?_)
local macro_rules | `(tactic| walk_at "bo") => `(tactic| exact λ _ _ _ _ _ _ us hl => match us, hl with | [], _ => rfl)
local macro_rules | `(tactic| walk_at "bo") => `(tactic| exact λ _ _ _ _ _ _ us hl => match us, hl with | [_, _, _, _, _], _ => rfl)
local macro_rules | `(tactic| walk_at "bo") => `(tactic| exact λ _ _ _ _ _ _ us hl => match us, hl with | [_, _, _, _], _ => rfl)
local macro_rules | `(tactic| walk_at "bo") => `(tactic| exact λ _ _ _ _ _ _ us hl => match us, hl with | [_], _ => rfl)
local macro_rules | `(tactic| walk_at "bo") => `(tactic| exact λ _ _ _ _ _ _ us hl => match us, hl with | [_, _, _], _ => rfl)
local macro_rules | `(tactic| walk_at "bo") => `(tactic| exact λ _ _ _ _ _ _ us hl => match us, hl with | [_, _], _ => rfl)
local macro_rules | `(tactic| walk_at "sc") => `(tactic| exact ⟨rfl, rfl, rfl, by decide +kernel, by decide +kernel, by decide +kernel, by decide +kernel⟩)
local macro_rules | `(tactic| walk_at "dv") => `(tactic| (refine Zbn ?_ ?_ <;> (try walk_at "al"); repeat' walk_at "r1"))
local macro_rules | `(tactic| walk_at "kd") => `(tactic| exact ⟨by walk_at "sc", by walk_at "bo", rfl, rfl, by intro k X r; walk_at "dv"⟩)
local macro_rules | `(tactic| walk_at "km") => `(tactic| exact ⟨by walk_at "sc", by walk_at "bo", rfl, rfl, by intro k X r; walk_at "dv", by decide +kernel, by decide +kernel⟩)
namespace K03
open PySem L2 PF
noncomputable def top(i:Nat):Stmt:=PySem.Challenge.pw_firetogether_k03_machines_of_anything.main.body.getD i (.Pass ⟨0,0,0,0⟩)
noncomputable def mth(i j:Nat):Stmt:=(Zeq (top i)).getD j (.Pass ⟨0,0,0,0⟩)
noncomputable def Dz:List (Str×Nat):=("law",39)::("is_whole",1)::("is_between",2)::("is_tuple_of",3)::("is_name",7)::("is_neighbour",8)::("is_table_row",9)::("are_table_rows",10)::("is_table",11)::("has_form",17)::("parts_of",18)::("is_machine_within",19)::("is_machine",20)::("_law_cell",22)::("_law_left",23)::("_law_pick",24)::("_law_names",25)::("_law_may",26)::("_law_table",27)::("_law_is_name",28)::("_law_is_row",29)::("_law_is_table",30)::("_law_odd",31)::("_law_put",32)::("_law_machine",33)::("_law_is_machine",34)::("_law_other",35)::("_law_spoilt",36)::("_law_right",37)::("_law_eight",38)::[]
noncomputable def Mz:List (Str×Str×Nat×Nat):=[]
noncomputable def Fdz:List (Str×Str):=[]
noncomputable def Glz:List (Str×D):=("LONGEST_NAME",.int (8))::("NOBODY",.str "")::("DEEPEST",.int (4))::("MOST_COUNT",.int (60))::[]
noncomputable def Gdz:List (Str×List (Str×Int)):=("LEAST_COUNT",[("later",0),("slowed",1)])::("PARTS",[("mirrored",1),("later",1),("slowed",1),("both",2),("either",2)])::[]
end K03
abbrev HD.Under{P:Prop}(_:P)(Q:Prop):Prop:=Q
open PySem PySem.W in
theorem HQ.PySem.W.holds_open{P:Prop}{Z:P}{r:OpenRow}{q:Program}{loose:List Str}{α:Type}{N:Nat}
  {Xt:Shared->Bool}{Yf:Shared->α}{Ya:World->α}
  {XP:(Str->Option Value)->Heap->Prop}{YP:World->Heap->Prop}{d:DefRec}{kwd:List (Str×Expr)}
  (a1:LeftO r.prog q loose Xt Yf Ya N)
  (a2:∀ w s,Yf s=Ya w->YP w s.heap)
  (a3:∀ w h h',YP w h->(∀ b o,h.get? b=some o->h'.get? b=some o)->YP w h')
  (a4:∀ s,Xt s=true->XP (s.heap.nsMap mainGlobals) s.heap)
  (a5:∀ mg h h',XP mg h->(∀ b o,h.get? b=some o->h'.get? b=some o)->XP mg h')
  (a6:defOf q r.name=some (d,kwd))
  (a7:r.prog.theDef r.name=some (d.params,d.body,d.scope))
  (a8:kwWritten? d.params.kwonlyargs d.params.kw_defaults=some kwd)
  (a9:∀ s,Xt s=true->RecFacts r.records s.heap)
  (b1:(!r.writes||r.records.isEmpty)=true)
  (b2:r.wellSaid=true)
  (b3:(chainsOk q&&opensWell r.prog&&(frees r.toRowW&&r.within.isEmpty))=true)
  (b4:r.prog.bare)
  (b5:r.toRowW.promised)
  (b6:HD.Under Z (WalkO q loose XP YP r.toRowW d kwd λ f vs=>PySem.call f vs)):HD.Under Z r.Holds:=
 _root_.PySem.W.holds_open a1 a2 a3 a4 a5 a6 a7 a8 a9 b1 b2 b3 b4 b5 b6
local macro_rules | `(tactic| walk_at "h1") => `(tactic| k_is)
local macro_rules | `(tactic| walk_at "h1") => `(tactic| (dsimp only [L2.KOf]; refine' PF.ZhH (by assumption) (by assumption) ?a ?l ?e ?s; (case a => k_is); (case l => k_is); (case e => (repeat refine ⟨⟨_, rfl, rfl⟩, ⟨_, rfl⟩, ?_⟩); trivial); (case s => rfl)))
local macro_rules | `(tactic| walk_at "h1") => `(tactic| (dsimp only [L2.KOf]; refine' PF.gl_int ?a; (case a => k_is)))
local macro_rules | `(tactic| walk_at "h1") => `(tactic| (dsimp only [L2.KOf]; refine' PF.gl_str ?a ?e; (case a => k_is); (case e => first | rfl | decide +kernel)))
local macro_rules | `(tactic| walk_at "h1") => `(tactic| (dsimp only [L2.KOf]; refine' PF.FdIn.mk' ?a ?n ?c1 ?c2 ?c3 ?c4; (case a => k_is); (case n => k_is); (case c1 => k_is); (case c2 => k_is); (case c3 => k_is); (case c4 => k_is)))
local macro_rules | `(tactic| walk_at "h1") => `(tactic| (dsimp only [L2.KOf]; refine' PF.UC.mk' ?a ?fi ?l ?e ?c1 ?c2 ?c3 ?c4 ?mk ?kc ?fn ?cd ?kf; (case a => k_is); (case fi => k_is); (case l => k_is); (case e => rfl); (case c1 => k_is); (case c2 => k_is); (case c3 => k_is); (case c4 => k_is); (case mk => k_is); (case kc => k_is); (case fn => k_is); (case cd => k_is); (case kf => k_is)))
local macro_rules | `(tactic| walk_at "h1") => `(tactic| (dsimp only [L2.KOf]; refine' PF.YW.mk' ?a ?l ?c ?k; (case a => k_is); (case l => k_is); (case c => k_is); (case k => k_is)))
namespace PySem.W.Fast
def tw12422361940126361666:=0
def tw12710935853464955636:=0
def tw13812392871142171879:=0
def tw8980801516111469552:=0
def tw11812723471314411306:=0
def tw6773818668316274789:=0
def tw2850343567607579469:=0
def tw3019772417445333254:=0
def tw12875352732386588971:=0
def tw13462828266031404753:=0
def tw643381547633728884:=0
def tw15983521301553995392:=0
def tw14932105631209123796:=0
def tw823943804489446198:=0
def tw9136954606610599876:=0
def tw1373464293179510130:=0
def tw8775072642051653032:=0
def tw1534744103515015065:=0
def tw5582713986784219564:=0
def tw7610312020448509259:=0
def tw508651409158297722:=0
def tw7862879106232687369:=0
def tw1628355795282728693:=0
def tw8336284376719577505:=0
def tw14732296909636371100:=0
def tw4990566064087383425:=0
def tw4337486277957571691:=0
def tw17115014548616717254:=0
def tw14818624621797340083:=0
def tw13391245290685176753:=0
def tw13693777989758146685:=0
def tw7908615411114397981:=0
def tw10057624406737993536:=0
def tw5951591381980766430:=0
def tw9988152293325898094:=0
def tw14320614910373113654:=0
def tw2405338022848398542:=0
def tw2929422090890129943:=0
def tw17008838897461347794:=0
def tw13787946340846609624:=0
def tw13508752135930163534:=0
def tw16498020225091972939:=0
def tw11968719108326264982:=0
def tw222186776467381918:=0
def tw7230892365854297563:=0
def tw647594939341855599:=0
def tw17638811296278967546:=0
def tw9408279557177371519:=0
def tw1802083067788237354:=0
def tw8259898966608515332:=0
def tw11413661367539029877:=0
def tw6646180164765251211:=0
def tw16465641811324811648:=0
def tw17579614563694143641:=0
def tw2807216716423494359:=0
def tw16508373658257339485:=0
def tw3375151456781359912:=0
def tw11618090190876640572:=0
def tw10424615674574623668:=0
def tw14059319219228779123:=0
def tw11432972138179726828:=0
def tw9039374032207356785:=0
def tw6612450757731937951:=0
def tw6368866579697354479:=0
def tw2587768430111472400:=0
def tw3866138476008313676:=0
def tw17945016840975535578:=0
def tw1757291675963776943:=0
def tw8547777281162501388:=0
def tw2870279061566683920:=0
def tw7884557928475224918:=0
end PySem.W.Fast
section
open PySem PySem.W PyProof.Rows L2 PF K03
structure K03.Rest(CX:CXT)(sp:Frag->Sp):Prop where
 F:∀ (w:World) (K:Frag) (mg:Str->Option Value) (fa:Addr) (h:Heap),K.In h->h.Ns mainGlobals mg->mg "law"=some (.ref fa)->(∀ p∈K03.Dz,YW K p.1 (K03.top p.2))->(∀ p∈K03.Mz,UC K p.1 p.2.1 (K03.mth p.2.2.1 p.2.2.2))->(∀ p∈K03.Fdz,FdIn K p.1 p.2)->(∀ p∈K03.Glz,GlIn K p.1 p.2)->(∀ f∈blts,PySem.W.nsIn K mainGlobals f=some none)->(∀ p∈K03.Gdz,GdF K w mg p.1 p.2) ->
  ∃ fd:FuncData,(∀ (s:Shared) (u:Value),BindsTo s fd ⟨[u],[]⟩ [("_law_script",u)])/\∀ base:Heap,K.In base->base.Ns mainGlobals mg->FnOk PySem.Challenge.rw_firetogether_k03_machines_of_anything.prog w K mg base CX 30 fa fd ["_law_script"] (sp K)
 S:∀ (K:Frag) (H:Hp) (a:Addr) (ns:List Int),ns.length<=63->Only H->SqL K H a (ns.map V.int)->sp K [.ref a] H (λ v _=>v=.bl true) λ _ _ _=>False
 C:∀ (H:Hp) (s:Shared) (e:Value) (s':Shared),CX [] H s (λ _ _ _=>False) e s'->False
namespace HQ
set_option maxRecDepth 100000 in
set_option maxHeartbeats 0 in
theorem hd{CX:CXT}{sp:Frag->Sp}(Z:K03.Rest CX sp):PySem.Challenge.rw_firetogether_k03_machines_of_anything.Holds:=by
 w_on;o_law
 show HD.Under Z PySem.Challenge.rw_firetogether_k03_machines_of_anything.row.Holds
 k_head;(case hw=>w_witness2)
 k_fill
 refine L2.Zb6 (l:=PySem.Challenge.rw_firetogether_k03_machines_of_anything) (n:=63) (k:=30) (x:="_law_script") (CX:=CX) (sp:=sp) rfl (by decide) rfl ⟨rfl,by decide,by decide⟩ (λ w h Y=>PySem.W.kIn_of Y) ?F Z.S Z.C
 case F=>
  intro w mg fa h KX G hmg;refine Z.F w _ mg fa h KX G hmg ?_ ?_ ?_ ?_ ?_ ?_
  all_goals
   dsimp only[Dz,Mz,Fdz,Glz,Gdz,blts]
   repeat refine fm (by walk_at "h1") ?_
   exact List.forall_mem_nil _
end HQ
end
namespace LA
open PySem L2 PF
end LA
namespace LC
open PySem L2 PF LA
theorem Zet{S:Sto}{ds:List D}{bs:List Bool}{b:Bool}(h:Yv ds=some bs)(hb:bs.all id=b):bltD S .all [.lst ds]=some (.bl b):=by
 show (Yv ds).map _=_;rw[h];show some (D.bl<|bs.all id)=_;rw[hb]
theorem Zam:Yb.lookup ("tuple":Str)=some "tuple":=by decide +kernel
theorem ZcB:Yb.lookup ("str":Str)=some "str":=by decide +kernel
section
variable {T:Tab}{W k:Nat}
theorem YC{S:Sto}{d:D}{ty:Str}{u t:String}{PB:Bool->Prop}(hl:Yb.lookup ty=some u)(ht:tyD S d=some t)(kk:PB (decide (t=u)||(decide (t="bool")&&decide (u="int")))):Op (isiD S d ty) PB:=⟨_,by rw[isiD,hl];show (tyD S d).map _=_;rw[ht];rfl,kk⟩
theorem Zc8{S:Sto}{d:D}{ty:Str}{u t:String}{PB:Bool->Prop}(hl:Yb.lookup ty=some u)(ht:tyD S d=some t)(hn:(decide (t=u)||(decide (t="bool")&&decide (u="int")))=false)(kk:PB false):Op (isiD S d ty) PB:=YC hl ht (by rw[hn];exact kk)
end
end LC
namespace LZ
open PySem L2 PF LC
noncomputable def Ww:FI:=⟨2,2,(.c (.r (.and (.isi (.v 0) "tuple") (.p .Eq (.l .len (.c (.v 0) .n)) (.v 1)))) .n)⟩
noncomputable def Wx:FI:=⟨1,1,(.c (.q (.or (.not (.isi (.v 0) "str")) (.not (.cmp2 .LtE .LtE (.i 1) (.l .len (.c (.v 0) .n)) (.gl "LONGEST_NAME")))) (.c (.r (.bl false)) .n) .n) (.c (.r (.l .all (.c (.lv (.comp 2 [] (.m 1) (.seq (.v 0)) .n (.cmp2 .LtE .LtE (.s "a") (.v 1) (.s "z")))) .n))) .n))⟩
noncomputable def Vx:FI:=⟨1,1,(.c (.r (.and (.isi (.v 0) "str") (.or (.p .Eq (.v 0) (.gl "NOBODY")) (.f "is_name" (.c (.v 0) .n))))) .n)⟩
noncomputable def rowF:FI:=⟨3,8,(.c (.q (.not (.f "is_tuple_of" (.c (.v 0) (.c (.i 4) .n)))) (.c (.r (.bl false)) .n) .n) (.c (.a (.t (.c (.m 3) (.c (.m 4) (.c (.m 5) (.c (.m 6) .n))))) (.v 0)) (.c (.q (.not (.and (.f "is_neighbour" (.c (.v 3) .n)) (.and (.f "is_name" (.c (.v 4) .n)) (.and (.f "is_neighbour" (.c (.v 5) .n)) (.f "is_name" (.c (.v 6) .n)))))) (.c (.r (.bl false)) .n) .n) (.c (.q (.or (.p .Eq (.v 4) (.v 6)) (.p .Eq (.v 4) (.v 2))) (.c (.r (.bl false)) .n) .n) (.c (.a (.m 7) (.t (.c (.v 1) (.c (.gl "NOBODY") .n)))) (.c (.r (.or (.p .NotEq (.v 4) (.v 1)) (.or (.p .NotIn (.v 3) (.v 7)) (.p .NotIn (.v 5) (.v 7))))) .n))))))⟩
noncomputable def Wy:FI:=⟨3,3,(.c (.q (.not (.isi (.v 0) "tuple")) (.c (.r (.bl false)) .n) .n) (.c (.q (.not (.l .all (.c (.lv (.comp 2 [2,1] (.m 1) (.seq (.v 0)) .n (.f "is_table_row" (.c (.v 1) (.c (.v 3) (.c (.v 2) .n)))))) .n))) (.c (.r (.bl false)) .n) .n) (.c (.r (.l .all (.c (.lv (.comp 3 [] (.t (.c (.m 1) (.c (.m 2) .n))) (.zip (.v 0) (.slc (.v 0) (.yes (.i 1)) .no)) .n (.p .Lt (.slc (.v 1) .no (.yes (.i 3))) (.slc (.v 2) .no (.yes (.i 3)))))) .n))) .n)))⟩
noncomputable def Vy:FI:=⟨1,6,(.c (.q (.not (.f "is_tuple_of" (.c (.v 0) (.c (.i 5) .n)))) (.c (.r (.bl false)) .n) .n) (.c (.a (.t (.c (.m 1) (.c (.m 2) (.c (.m 3) (.c (.m 4) (.c (.m 5) .n)))))) (.v 0)) (.c (.q (.or (.not (.isi (.v 1) "str")) (.p .NotEq (.v 1) (.s "table"))) (.c (.r (.bl false)) .n) .n) (.c (.q (.not (.and (.f "is_name" (.c (.v 2) .n)) (.and (.f "is_name" (.c (.v 3) .n)) (.f "is_name" (.c (.v 4) .n))))) (.c (.r (.bl false)) .n) .n) (.c (.q (.or (.p .Eq (.v 2) (.v 3)) (.or (.p .Eq (.v 2) (.v 4)) (.p .Eq (.v 3) (.v 4)))) (.c (.r (.bl false)) .n) .n) (.c (.r (.f "are_table_rows" (.c (.v 5) (.c (.v 2) (.c (.v 4) .n))))) .n))))))⟩
structure Zt(T:Tab):Prop where
 tu:T.lookup ("is_tuple_of":Str)=some Ww
 na:T.lookup ("is_name":Str)=some Wx
 ne:T.lookup ("is_neighbour":Str)=some Vx
 ro:T.lookup ("is_table_row":Str)=some rowF
 rs:T.lookup ("are_table_rows":Str)=some Wy
 ta:T.lookup ("is_table":Str)=some Vy
 lo:T.gls.lookup ("LONGEST_NAME":Str)=some (.int 8)
 no:T.gls.lookup ("NOBODY":Str)=some (.str "")
noncomputable def vd(S:Sto):D->Bool
 |.tup ds=>decide (ds.length<1000000)
 |.lst ds=>decide (ds.length<1000000)
 |.str z=>decide (z.length<1000000)
 | .ref n=>(match S[n]? with
  |some (.lst _)=>true
  |some (.dk _)=>true
  |some (.dt _)=>true
  |_=>false)
 |_=>true
theorem Wz{S:Sto}{d:D}(h:vd S d=true):∃ t,tyD S d=some t/\(t="tuple"↔∃ ds,d=.tup ds)/\(t="str"↔∃ z,d=.str z):=by
 cases d with
 | ref n=>
  have h':(match S[n]? with
   |some (.lst _)=>true
   |some (.dk _)=>true
   |some (.dt _)=>true
   |_=>false)=true:=h
  cases ho:S[n]? with
  |none=>rw[ho] at h';cases h'
  | some o=>
   rw[ho] at h';cases o with
   |lst l=>exact⟨"list",by rw[tyD,ho],by simp,by simp⟩
   |dk l=>exact⟨"dict",by rw[tyD,ho],by simp,by simp⟩
   |dt l=>exact⟨"dict",by rw[tyD,ho],by simp,by simp⟩
   |_=>cases h'
 |non=>exact⟨_,rfl,by simp,by simp⟩
 |bl b=>exact⟨_,rfl,by simp,by simp⟩
 |int i=>exact⟨_,rfl,by simp,by simp⟩
 |str z=>exact⟨_,rfl,by simp,by simp⟩
 |tup l=>exact⟨_,rfl,by simp,by simp⟩
 |lst l=>exact⟨_,rfl,by simp,by simp⟩
noncomputable def isT:D->Bool
 |.tup _=>true
 |_=>false
noncomputable def isS:D->Bool
 |.str _=>true
 |_=>false
theorem Yu{S:Sto}{d:D}{PB:Bool->Prop}(h:vd S d=true)(k:PB (isT d)):Op (isiD S d "tuple") PB:=by
 obtain⟨t,h1,h2,h3⟩:=Wz h;refine YC Zam h1 ?_;have e:(decide (t="tuple")||(decide (t="bool")&&decide ("tuple"="int")))=isT d:=by
  rw[show decide (("tuple":String)="int")=false by decide,Bool.and_false,Bool.or_false];cases d with
  |tup l=>exact oAi<|h2.2 ⟨l,rfl⟩
  |_=>exact oAh (λ z=>by obtain⟨l,e⟩:=h2.1 z;cases e)
 rw[e];exact k
theorem YE{S:Sto}{d:D}{PB:Bool->Prop}(h:vd S d=true)(k:PB (isS d)):Op (isiD S d "str") PB:=by
 obtain⟨t,h1,h2,h3⟩:=Wz h;refine YC ZcB h1 ?_;have e:(decide (t="str")||(decide (t="bool")&&decide ("str"="int")))=isS d:=by
  rw[show decide (("str":String)="int")=false by decide,Bool.and_false,Bool.or_false];cases d with
  |str l=>exact oAi<|h3.2 ⟨l,rfl⟩
  |_=>exact oAh (λ z=>by obtain⟨l,e⟩:=h3.1 z;cases e)
 rw[e];exact k
noncomputable def isN:D->Bool
 |.str z=>decide (1<=z.length)&&decide (z.length<=8)&&z.cps.toList.all λ c=>decide (97<=c)&&decide (c<=122)
 |_=>false
theorem YF{d:D}(h:isN d=true):∃ z,d=.str z:=by
 cases d with
 |str z=>exact⟨z,rfl⟩
 |_=>cases h
section
variable {T:Tab}{W k:Nat}{S:Sto}{P:D->Sto->Prop}
theorem glo{x:Str}{d:D}(h:T.gls.lookup x=some d):(Za T W k).gl x=some d:=by cases k<;>exact h
theorem all_bools:∀ {bs:List Bool},Yv (bs.map D.bl)=some bs
 |[]=>rfl
 |b::bs=>by rw[map_cons,Yv,all_bools];rfl
theorem J3{bs:List Bool}{PD:D->Prop}(k:PD (.bl (bs.all id))):Op (bltD S .all [.lst (bs.map D.bl)]) PD:=⟨_,Zet all_bools rfl,k⟩
theorem Y1{c:Cl}{env:En}{own:Nat}{caps:List Nat}{it:Itx}{elt:Ex}{ds:List D}{R:List D->Sto->Prop}(g:D->D)(E:En->Prop)(hi:evI c it env S=some (.vs ds,S))(hl:ds.length<=1000000)(h0:E (ZJ own caps env))
  (hs:∀ d∈ds,∀ e2,E e2->E (e2.set 1 (some d))/\Ev (ev c elt (e2.set 1 (some d)) S) λ x S3=>x=g d/\S3=S)(k:R (ds.map g) S):Es (evL c (.comp own caps (.name 1) it .nil elt) env S) R:=by
 refine UB (.vs ds) ds S hi (λ i e2 S2 acc=>E e2/\S2=S/\acc=(ds.take i).map g) ⟨h0,rfl,rfl⟩ (.inl rfl) ?_ ?_
 ·rintro i d e2 S2 acc hd ⟨h1,rfl,rfl⟩;have hlt:=(List.getElem?_eq_some_iff.1 hd).1;obtain⟨h2,h3⟩:=hs d (mem_of_getElem? hd) e2 h1;refine g_nm<|Vw ⟨λ _=>?_,λ z=>nomatch z⟩;refine Ev.mono h3 ?_;rintro x S3 ⟨rfl,rfl⟩;refine⟨by rw[length_map,length_take];show _<16777216;lia,h2,rfl,?_⟩
  rw[take_succ,hd,map_append];rfl
 ·rintro e2 S2 acc ⟨_,rfl,rfl⟩;rw[List.take_length];exact k
noncomputable def UD(n:Int):D->Bool
 |.tup ds=>decide ((ds.length:Int)=n)
 |_=>false
theorem qx(zt:Zt T){d:D}{n:Int}(h:vd S d=true)(kk:P (.bl (UD n d)) S):Ev ((Za T W (k+1)).fn "is_tuple_of" [d,.int n] S) P:=by
 refine Zu zt.tu rfl ?_;dsimp only[Ww];walk_at "al";walk_at "st";refine Yu h ?_;by_cases ht:∃ ds,d=.tup ds
 ·obtain⟨ds,rfl⟩:=ht;rw[show isT (.tup ds)=true from rfl];walk_at "go";exact kk
 ·have e:isT d=false:=by cases d with
   |tup ds=>exact absurd ⟨ds,rfl⟩ ht
   |_=>rfl
  have e2:UD n d=false:=by cases d with
   |tup ds=>exact absurd ⟨ds,rfl⟩ ht
   |_=>rfl
  rw[e2] at kk;rw[e];walk_at "go";exact kk
theorem Zby{a b:Nat}:decide ([a] < [b])=decide (a<b):=by
 refine decide_eq_decide.2 ⟨λ h=>?_,λ h=>List.Lex.rel h⟩;cases h with
 |rel h=>exact h
 |cons h=>cases h
theorem Zc9{c:Nat}:(!TS.sLt ⟨#[c]⟩ (Str.ofString "a"))=decide (97<=c):=by
 have e:TS.sLt ⟨#[c]⟩ (Str.ofString "a")=decide (c<97):=Zby;rw[e];by_cases h:c<97
 ·rw[oAi h,oAh (by lia)];rfl
 ·rw[oAh h,oAi (by lia)];rfl
theorem Zda{c:Nat}:(!TS.sLt (Str.ofString "z") ⟨#[c]⟩)=decide (c<=122):=by
 have e:TS.sLt (Str.ofString "z") ⟨#[c]⟩=decide (122<c):=Zby;rw[e];by_cases h:122<c
 ·rw[oAi h,oAh (by lia)];rfl
 ·rw[oAh h,oAi (by lia)];rfl
theorem len_str{z:Str}(h:z.length<=line):bltD S .len [.str z]=some (.int (z.length:Int)):=by
 show (if z.length<=line then _ else none)=_;rw[if_pos h]
theorem WA{x y:Str}{PB:Bool->Prop}(k:PB (!TS.sLt y x)):Op (cmpop S .LtE (.str x) (.str y)) PB:=⟨_,rfl,k⟩
noncomputable def sgB(d:D):Bool:=match d with
 | .str z=>(match z.cps.toList with
  |[c]=>decide (97<=c)&&decide (c<=122)
  |_=>false)
 |_=>false
theorem Zbz(z:Str):(((sgn z).map D.str).map λ d=>D.bl (sgB d))=(z.cps.toList.map λ c=>decide (97<=c)&&decide (c<=122)).map D.bl:=by
 unfold sgn;rw[map_map,map_map,map_map];rfl
theorem Y7{d:D}(h:¬ ∃ z,d=.str z):isS d=false/\isN d=false:=by
 cases d with
 |str z=>exact absurd ⟨z,rfl⟩ h
 |_=>exact⟨rfl,rfl⟩
theorem Jl(zt:Zt T){d:D}(h:vd S d=true)(kk:P (.bl (isN d)) S):Ev ((Za T W (k+1)).fn "is_name" [d] S) P:=by
 refine Zu zt.na rfl ?_;dsimp only[Wx];walk_at "al";walk_at "st";refine Zk ?_;refine ZW<|Z2 ?_;walk_at "go";refine YE h ?_;by_cases hs:∃ z,d=.str z
 ·obtain⟨z,rfl⟩:=hs;rw[show isS (.str z)=true from rfl];walk_at "go";have hz:z.length<1000000:=oAj h;have hsl:((sgn z).map D.str).length<=1000000:=by
   unfold sgn;rw[length_map,length_map];have:z.cps.toList.length=z.length:=by simp[Str.length]
   lia
  refine Jk ?_;walk_at "go";refine Us (len_str (by show _<=16777216;lia)) ?_
  walk_at "go";refine two_of (λ h1=>?_)<|λ h1=>?_
  ·refine Vu (glo zt.lo) ?_;walk_at "go";by_cases h2:(z.length:Int)<=8
   ·rw[oAi h2];walk_at "go";refine Y1 (ds:=(sgn z).map D.str) (λ d=>.bl<|sgB d) (λ e=>∃ y0 y1,e=[y0,y1]) rfl hsl ⟨_,_,rfl⟩ ?_ ?_
    ·rintro d hd e2 ⟨y0,y1,rfl⟩;obtain⟨x,hx,rfl⟩:=List.mem_map.1 hd;obtain⟨c,_,rfl⟩:=List.mem_map.1 hx;refine⟨⟨_,_,rfl⟩,?_⟩;show Ev (ev _ _ [y0,some<|.str ⟨#[c]⟩] S) _;refine Jk ?_;walk_at "go";refine WA ?_;rw[Zc9];refine two_of (λ h3=>?_) (λ h3=>?_)
     ·walk_at "go";refine WA ?_;rw[Zda];refine⟨?_,rfl⟩;show D.bl _=D.bl (decide (97<=c)&&decide (c<=122));rw[oAi h3,Bool.true_and]
     ·refine⟨?_,rfl⟩;show D.bl _=D.bl (decide (97<=c)&&decide (c<=122));rw[oAh h3,Bool.false_and]
    ·rw[Zbz];walk_at "go";refine J3 ?_;walk_at "go";have e:isN (.str z)=((z.cps.toList.map λ c=>decide (97<=c)&&decide (c<=122)).all id):=by
      show (decide (1<=z.length)&&decide (z.length<=8)&&_)=_;rw[oAi (by lia:1<=z.length),oAi (by lia:z.length<=8),all_map];rfl
     rw[<- e];exact kk
   ·have e:isN (.str z)=false:=by
     show (decide (1<=z.length)&&decide (z.length<=8)&&_)=_;rw[oAh (by lia:¬ z.length<=8),Bool.and_false];rfl
    rw[e] at kk;rw[oAh h2];walk_at "go";exact kk
  ·have e:isN (.str z)=false:=by
    show (decide (1<=z.length)&&decide (z.length<=8)&&_)=_;rw[oAh (by lia:¬ 1<=z.length)];rfl
   rw[e] at kk;walk_at "go";exact kk
 ·rw[(Y7 hs).1];rw[(Y7 hs).2] at kk;walk_at "go";exact kk
mutual
noncomputable def wd(S:Sto):D->Bool
 |.tup ds=>decide (ds.length<1000000)&&wds S ds
 |.lst ds=>decide (ds.length<1000000)&&wds S ds
 |.str z=>decide (z.length<1000000)
 |.ref n=>vd S (.ref n)
 |_=>true
noncomputable def wds(S:Sto):List D->Bool
 |[]=>true
 |d::ds=>wd S d&&wds S ds
end
theorem Zp{d:D}(h:wd S d=true):vd S d=true:=by
 cases d with
 |tup ds=>rw[wd,and_eq_true] at h;exact h.1
 |lst ds=>rw[wd,and_eq_true] at h;exact h.1
 |str z=>rw[wd] at h;exact h
 |ref n=>rw[wd] at h;exact h
 |_=>rfl
theorem ZbA:∀ {ds:List D}{d:D},wds S ds=true->d∈ds->wd S d=true
 | e::es,d,h,hd=>by
  rw[wds,and_eq_true] at h
  rcases List.mem_cons.1 hd with rfl | hd
  ·exact h.1
  ·exact ZbA h.2 hd
theorem Yq{ds:List D}(h:wd S (.tup ds)=true):ds.length<1000000/\∀ d∈ds,wd S d=true:=by
 rw[wd,and_eq_true] at h;exact⟨oAj h.1,λ d hd=>ZbA h.2 hd⟩
noncomputable def isNb:D->Bool
 |.str z=>decide (z="")||isN (.str z)
 |_=>false
theorem YG{x y:Str}{PB:Bool->Prop}(k:PB (decide (x=y))):Op (cmpop S .Eq (.str x) (.str y)) PB:=by
 refine⟨_,rfl,?_⟩;have e:decide (D.str x=D.str y)=decide (x=y):=by simp
 rw[e];exact k
theorem WB{x y:Str}{PB:Bool->Prop}(k:PB (!decide (x=y))):Op (cmpop S .NotEq (.str x) (.str y)) PB:=by
 refine⟨_,rfl,?_⟩;have e:decide (D.str x=D.str y)=decide (x=y):=by simp
 rw[e];exact k
theorem qy(zt:Zt T){d:D}(h:vd S d=true)(kk:P (.bl (isNb d)) S):Ev ((Za T W (k+2)).fn "is_neighbour" [d] S) P:=by
 refine Zu zt.ne rfl ?_;dsimp only[Vx];walk_at "al";walk_at "st";refine YE h ?_;by_cases hs:∃ z,d=.str z
 ·obtain⟨z,rfl⟩:=hs;rw[show isS (.str z)=true from rfl];walk_at "go";refine Vu (glo zt.no) ?_;refine YG ?_;walk_at "go";refine two_of (λ h1=>?_) (λ h1=>?_)
  ·have e:isNb (.str z)=true:=by show (decide (z="")||_)=true;rw[oAi h1];rfl
   rw[e] at kk;rw[oAi h1];walk_at "go";exact kk
  ·have e:isNb (.str z)=isN (.str z):=by show (decide (z="")||_)=_;rw[oAh h1];rfl
   rw[e] at kk;walk_at "go";refine Jl zt h ?_;walk_at "go";exact kk
 ·have e:isNb d=false:=by cases d with
   |str z=>exact absurd ⟨z,rfl⟩ hs
   |_=>rfl
  rw[e] at kk;rw[(Y7 hs).1];walk_at "go";exact kk
noncomputable def rowC(q f l o r n:Str):Bool:=!(decide (o=n)||decide (o=f))&&(!decide (o=q)||(!(decide (q=l)||decide (("":Str)=l))||!(decide (q=r)||decide (("":Str)=r))))
noncomputable def Zdb(q f:Str):D->D->D->D->Bool
 |.str l,.str o,.str r,.str n=>rowC q f l o r n
 |_,_,_,_=>false
noncomputable def Zq(q f:Str):D->Bool
 |.tup [l,o,r,n]=>isNb l&&(isN o&&(isNb r&&(isN n&&Zdb q f l o r n)))
 |_=>false
theorem Vz{x a b:Str}{PB:Bool->Prop}(k:PB (!(decide (a=x)||decide (b=x)))):Op (cmpop S .NotIn (.str x) (.tup [.str a,.str b])) PB:=by
 refine⟨_,rfl,?_⟩;have e:([D.str a,.str b].any λ z=>eqF z<|.str x)=(decide (a=x)||decide (b=x)):=by
  show ((a==x)||((b==x)||false))=_;rw[Bool.or_false];rfl
 show PB (!([D.str a,.str b].any λ z=>eqF z<|.str x));rw[e];exact k
theorem JR{d:D}(h:isNb d=true):∃ z,d=.str z:=by
 cases d with
 |str z=>exact⟨z,rfl⟩
 |_=>cases h
theorem Zgh(zt:Zt T){d:D}{q f:Str}(h:wd S d=true)(kk:P (.bl (Zq q f d)) S):Ev ((Za T W (k+3)).fn "is_table_row" [d,.str q,.str f] S) P:=by
 refine Zu zt.ro rfl ?_;dsimp only[rowF];walk_at "al";walk_at "st";refine Zk ?_;walk_at "go";refine qx zt (Zp h) ?_;walk_at "go";by_cases h4:∃ l o r n,d=.tup [l,o,r,n]
 ·obtain⟨l,o,r,n,rfl⟩:=h4;have hw:=(Yq h).2;have hl:=Zp<|hw l (by simp);have ho:=Zp<|hw o (by simp);have hr:=Zp<|hw r (by simp);have hn:=Zp<|hw n (by simp);rw[show UD 4 (.tup [l,o,r,n])=true from rfl];walk_at "go";refine Zk ?_;walk_at "go";refine qy zt hl ?_;refine t_bl ⟨λ h1=>?_,λ h1=>?_⟩
  ·walk_at "go";refine Jl zt ho ?_;refine t_bl ⟨λ h2=>?_,λ h2=>?_⟩
   ·walk_at "go";refine qy zt hr ?_;refine t_bl ⟨λ h3=>?_,λ h3=>?_⟩
    ·walk_at "go";refine Jl zt hn ?_;walk_at "go";cases h5:isN n with
     | false=>
      have e:Zq q f (.tup [l,o,r,n])=false:=by show (isNb l&&(isN o&&(isNb r&&(isN n&&_))))=_;rw[h5,Bool.false_and,Bool.and_false,Bool.and_false,Bool.and_false]
      rw[e] at kk;walk_at "go";exact kk
     | true=>
      obtain⟨l,rfl⟩:=JR h1;obtain⟨o,rfl⟩:=YF h2;obtain⟨r,rfl⟩:=JR h3;obtain⟨n,rfl⟩:=YF h5;have e:Zq q f (.tup [.str l,.str o,.str r,.str n])=rowC q f l o r n:=by show (isNb _&&(isN _&&(isNb _&&(isN _&&rowC q f l o r n))))=_;rw[h1,h2,h3,h5];rfl
      rw[e] at kk;unfold rowC at kk;walk_at "go";refine Zk ?_;walk_at "go";refine YG ?_;refine t_bl ⟨λ g1=>?_,λ g1=>?_⟩
      ·rw[g1] at kk ⊢;walk_at "go";exact kk
      ·walk_at "go";refine YG ?_;rw[g1] at kk;cases g2:decide (o=f) with
       | true=>
        rw[g2] at kk;walk_at "go";exact kk
       | false=>
        rw[g2] at kk;replace kk:P (.bl (!decide (o=q)||(!(decide (q=l)||decide (("":Str)=l))||!(decide (q=r)||decide (("":Str)=r))))) S:=kk;walk_at "go";refine Vu (glo zt.no) ?_;walk_at "go";refine WB ?_;refine t_bl ⟨λ g3=>?_,λ g3=>?_⟩
        ·rw[g3] at kk ⊢;walk_at "go";exact kk
        ·rw[g3] at kk;walk_at "go";refine Vz ?_;refine t_bl ⟨λ g4=>?_,λ g4=>?_⟩
         ·rw[g4] at kk ⊢;walk_at "go";exact kk
         ·rw[g4] at kk;walk_at "go";refine Vz ?_;walk_at "go";exact kk
    ·have e:Zq q f (.tup [l,o,r,n])=false:=by show (isNb l&&(isN o&&(isNb r&&_)))=_;rw[h3,Bool.false_and,Bool.and_false,Bool.and_false]
     rw[e] at kk;rw[h3];walk_at "go";exact kk
   ·have e:Zq q f (.tup [l,o,r,n])=false:=by show (isNb l&&(isN o&&_))=_;rw[h2,Bool.false_and,Bool.and_false]
    rw[e] at kk;rw[h2];walk_at "go";exact kk
  ·have e:Zq q f (.tup [l,o,r,n])=false:=by show (isNb l&&_)=_;rw[h1,Bool.false_and]
   rw[e] at kk;rw[h1];walk_at "go";exact kk
 ·have e1:UD 4 d=false:=by
   cases d with
   | tup ds=>
    refine oAh λ z=>h4 ?_
    match ds,z with
    |[l,o,r,n],_=>exact⟨l,o,r,n,rfl⟩
    |[],z=>simp at z
    |[_],z=>simp at z
    |[_,_],z=>simp at z
    |[_,_,_],z=>simp at z
    |_::_::_::_::_::_,z=>simp only[length_cons] at z;lia
   |_=>rfl
  have e2:Zq q f d=false:=by
   unfold Zq;split
   ·exact absurd ⟨_,_,_,_,rfl⟩ h4
   ·rfl
  rw[e2] at kk;rw[e1];walk_at "go";exact kk
noncomputable def key3:D->List Str
 |.tup [.str a,.str b,.str c,_]=>[a,b,c]
 |_=>[]
noncomputable def rising:List D->Bool
 |x::y::r=>TS.lexB (key3 x) (key3 y)&&rising (y::r)
 |_=>true
noncomputable def Y2(q f:Str):D->Bool
 |.tup rs=>rs.all (Zq q f)&&rising rs
 |_=>false
theorem U6{q f:Str}{d:D}(h:Zq q f d=true):∃ l o r n:Str,d=.tup [.str l,.str o,.str r,.str n]:=by
 unfold Zq at h;split at h
 ·simp only[and_eq_true] at h;obtain⟨l,rfl⟩:=JR h.1;obtain⟨o,rfl⟩:=YF h.2.1;obtain⟨r,rfl⟩:=JR h.2.2.1;obtain⟨n,rfl⟩:=YF h.2.2.2.1;exact⟨l,o,r,n,rfl⟩
 ·cases h
noncomputable def ltP(d:D):Bool:=match d with
 |.tup [x,y]=>TS.lexB (key3 x) (key3 y)
 |_=>false
theorem VA:∀ rs:List D,(((List.zipWith (λ x y=>D.tup [x,y]) rs rs.tail).map ltP).all id)=rising rs
 |[]=>rfl
 |[x]=>rfl
 | x::y::r=>by
  show (TS.lexB (key3 x) (key3 y)&&_)=(TS.lexB (key3 x) (key3 y)&&rising (y::r));rw[<- VA (y::r)];rfl
theorem ZhK{rs:List D}(hl:rs.length<1000000):ZS S (.tup rs) (some 1) none=some (.tup rs.tail):=by
 cases rs with
 |nil=>rfl
 | cons x r=>
  have e1:HT.sIx (x::r).length 0 (some 1)=1:=by
   show (if (1:Int)<0 then (1+((x::r).length:Int)).toNat else min (1:Int).toNat (x::r).length)=1;rw[if_neg (by decide),length_cons];lia
  show (if HT.sIx (x::r).length 0 (some 1)=0/\HT.sIx (x::r).length (x::r).length none=(x::r).length then some (D.tup (x::r)) else some (D.tup<|cutD (x::r) (some 1) none))=_;rw[if_neg (by rw[e1];lia)]
  unfold cutD;rw[e1];show some (D.tup<|((x::r).drop 1).take<|(x::r).length - 1)=_;rw[take_of_length_le (by rw[length_drop];lia)];rfl
theorem UE(zt:Zt T){d:D}{q f:Str}(h:wd S d=true)(kk:P (.bl (Y2 q f d)) S):Ev ((Za T W (k+4)).fn "are_table_rows" [d,.str q,.str f] S) P:=by
 refine Zu zt.rs rfl ?_;dsimp only[Wy];walk_at "al";walk_at "st";refine Zk ?_;walk_at "go";refine Yu (Zp h) ?_;by_cases ht:∃ rs,d=.tup rs
 ·obtain⟨rs,rfl⟩:=ht;obtain⟨hl,hw⟩:=Yq h;rw[show isT (.tup rs)=true from rfl];walk_at "go";refine Zk ?_;walk_at "go";refine Y1 (ds:=rs) (λ d=>.bl<|Zq q f d) (λ e=>∃ y0 y1,e=[y0,y1,some<|.str f,some<|.str q]) rfl (by lia) ⟨_,_,rfl⟩ ?_ ?_
  ·rintro d hd e2 ⟨y0,y1,rfl⟩;refine⟨⟨_,_,rfl⟩,?_⟩;show Ev (ev _ _ [y0,some d,some<|.str f,some<|.str q] S) _;walk_at "go";refine Zgh zt (hw d hd) ?_;exact⟨rfl,rfl⟩
  ·rw[show (rs.map λ d=>D.bl<|Zq q f d)=(rs.map<|Zq q f).map D.bl by rw[map_map];rfl]
   walk_at "go";refine J3 ?_;walk_at "go";have ea:((rs.map<|Zq q f).all id)=rs.all (Zq q f):=by rw[all_map];rfl
   rw[ea];cases hr:rs.all (Zq q f) with
   | false=>
    have e:Y2 q f (.tup rs)=false:=by show (rs.all (Zq q f)&&_)=_;rw[hr];rfl
    rw[e] at kk;walk_at "go";exact kk
   | true=>
    have e:Y2 q f (.tup rs)=rising rs:=by show (rs.all (Zq q f)&&_)=_;rw[hr];rfl
    rw[e,<-VA] at kk;have hrow:∀ d∈rs,∃ l o r n:Str,d=.tup [.str l,.str o,.str r,.str n]:=λ d hd=>U6<|List.all_eq_true.1 hr d hd;walk_at "go";refine UB (.vs<|List.zipWith (λ x y=>D.tup [x,y]) rs rs.tail) (List.zipWith (λ x y=>D.tup [x,y]) rs rs.tail) S ?_ (λ i e2 S2 acc=>(∃ y0 y1 y2,e2=[y0,y1,y2])/\S2=S/\acc=(((List.zipWith (λ x y=>D.tup [x,y]) rs rs.tail).take i).map ltP).map D.bl) ⟨⟨_,_,_,rfl⟩,rfl,rfl⟩ (.inl rfl) ?_ ?_
    ·have h1:ev (Za T W<|k+3) (.slc (.var 0) (.yes<|.int 1) .no) [some<|.tup rs,some<|.str q,some<|.str f] S=some (.tup rs.tail,S):=by
      show (ZS S (.tup rs) (some 1) none).map (λ d=>(d,S))=_;rw[ZhK hl];rfl
     have h2:evI (Za T W<|k+3) (.zip (.var 0)<|.slc (.var 0) (.yes<|.int 1) .no) [some<|.tup rs,some<|.str q,some<|.str f] S=some (.vs<|List.zipWith (λ x y=>D.tup [x,y]) rs rs.tail,S):=by
      rw[evI];show (ev (Za T W<|k+3) (.slc (.var 0) (.yes<|.int 1) .no) [some<|.tup rs,some<|.str q,some<|.str f] S).bind _=_;rw[h1];rfl
     exact h2
    ·rintro i d e2 S2 acc hd ⟨⟨y0,y1,y2,rfl⟩,rfl,rfl⟩;have hlt:=(List.getElem?_eq_some_iff.1 hd).1;have htk:(List.zipWith (λ x y=>D.tup [x,y]) rs rs.tail).take (i+1)=(List.zipWith (λ x y=>D.tup [x,y]) rs rs.tail).take i++[d]:=by rw[take_succ,hd];rfl
     rw[htk];have hal:((((List.zipWith (λ x y=>D.tup [x,y]) rs rs.tail).take i).map ltP).map D.bl).length<line:=by
      rw[length_map,length_map,length_take];rw[List.length_zipWith] at hlt;show _<16777216;lia
     rw[List.getElem?_zipWith] at hd;cases hx:rs[i]? with
     |none=>rw[hx] at hd;simp at hd
     | some x=>
      cases hy:rs.tail[i]? with
      |none=>rw[hx,hy] at hd;simp at hd
      | some y=>
       rw[hx,hy] at hd;cases hd
       obtain⟨l,o,r,n,rfl⟩:=hrow x<|mem_of_getElem? hx;obtain⟨l',o',r',n',rfl⟩:=hrow y<|List.mem_of_mem_tail<|mem_of_getElem? hy;rw[map_append (f:=ltP),map_append (f:=D.bl)];generalize ((List.zipWith (λ x y=>D.tup [x,y]) rs rs.tail).take i).map ltP=tk at hal ⊢;refine g_tp<|VM<|g_nm<|VM<|g_nm<|Zbu<|Vw ⟨λ _=>?_,λ z=>nomatch z⟩;show Ev (ev _ _ [y0,some<|.tup [.str l,.str o,.str r,.str n],some<|.tup [.str l',.str o',.str r',.str n']] S2) _;walk_at "go";exact⟨TS.lexB [l,o,r] [l',o',r'],rfl,hal,⟨_,_,_,rfl⟩,rfl,rfl⟩
    ·rintro e2 S2 acc ⟨_,rfl,rfl⟩;rw[List.take_length];walk_at "go";refine J3 ?_;walk_at "go";exact kk
 ·have e1:isT d=false:=by cases d with
   |tup ds=>exact absurd ⟨ds,rfl⟩ ht
   |_=>rfl
  have e2:Y2 q f d=false:=by cases d with
   |tup ds=>exact absurd ⟨ds,rfl⟩ ht
   |_=>rfl
  rw[e2] at kk;rw[e1];walk_at "go";exact kk
noncomputable def tabC(q s f:Str):Bool:=!(decide (q=s)||(decide (q=f)||decide (s=f)))
noncomputable def tabD(w q s f r:D):Bool:=match w,q,s,f with
 |.str w,.str q,.str s,.str f=>decide (w="table")&&(tabC q s f&&Y2 q f r)
 |_,_,_,_=>false
noncomputable def ZI:D->Bool
 |.tup [w,q,s,f,r]=>isN q&&(isN s&&(isN f&&tabD w q s f r))
 |_=>false
theorem ZcC(zt:Zt T){d:D}(h:wd S d=true)(kk:P (.bl (ZI d)) S):Ev ((Za T W (k+5)).fn "is_table" [d] S) P:=by
 refine Zu zt.ta rfl ?_;dsimp only[Vy];walk_at "al";walk_at "st";refine Zk ?_;walk_at "go";refine qx zt (Zp h) ?_;walk_at "go";by_cases h5:∃ w q s f r,d=.tup [w,q,s,f,r]
 ·obtain⟨w,q,s,f,r,rfl⟩:=h5;have hw:=(Yq h).2;have vw:=Zp<|hw w (by simp);have vq:=Zp<|hw q (by simp);have vs:=Zp<|hw s (by simp);have vf:=Zp<|hw f (by simp);have vr:=hw r (by simp);rw[show UD 5 (.tup [w,q,s,f,r])=true from rfl];walk_at "go";have bad:∀ {b:Bool},tabD w q s f r=false->ZI (.tup [w,q,s,f,r])=false:=λ {b} e=>by
   show (isN q&&(isN s&&(isN f&&tabD w q s f r)))=false;rw[e,Bool.and_false,Bool.and_false,Bool.and_false]
  refine Zk ?_;refine ZW<|Z2 ?_;walk_at "go";refine YE vw ?_;by_cases hs:∃ z,w=.str z
  ·obtain⟨w,rfl⟩:=hs;rw[show isS (.str w)=true from rfl];walk_at "go";refine WB ?_;by_cases hwt:w="table"
   ·rw[oAi hwt];walk_at "go";refine Zk ?_;walk_at "go";refine Jl zt vq ?_;refine t_bl ⟨λ h1=>?_,λ h1=>?_⟩
    ·walk_at "go";refine Jl zt vs ?_;refine t_bl ⟨λ h2=>?_,λ h2=>?_⟩
     ·walk_at "go";refine Jl zt vf ?_;walk_at "go";cases h3:isN f with
      | false=>
       have e:ZI (.tup [.str w,q,s,f,r])=false:=by show (isN q&&(isN s&&(isN f&&_)))=_;rw[h3,Bool.false_and,Bool.and_false,Bool.and_false]
       rw[e] at kk;walk_at "go";exact kk
      | true=>
       obtain⟨q,rfl⟩:=YF h1;obtain⟨s,rfl⟩:=YF h2;obtain⟨f,rfl⟩:=YF h3;have e:ZI (.tup [.str w,.str q,.str s,.str f,r])=(tabC q s f&&Y2 q f r):=by
        show (isN _&&(isN _&&(isN _&&(decide (w="table")&&(tabC q s f&&Y2 q f r)))))=_;rw[h1,h2,h3,oAi hwt];rfl
       rw[e] at kk;unfold tabC at kk;walk_at "go";refine Zk ?_;refine ZW ?_;walk_at "go";refine YG ?_;refine t_bl ⟨λ g1=>?_,λ g1=>?_⟩
       ·rw[g1] at kk ⊢;walk_at "go";exact kk
       ·walk_at "go";refine YG ?_;rw[g1] at kk;refine t_bl ⟨λ g2=>?_,λ g2=>?_⟩
        ·rw[g2] at kk ⊢;walk_at "go";exact kk
        ·walk_at "go";refine YG ?_;rw[g2] at kk;cases g3:decide (s=f) with
         | true=>
          rw[g3] at kk;walk_at "go";exact kk
         | false=>
          rw[g3] at kk;walk_at "go";refine UE zt vr ?_;walk_at "go";exact kk
     ·have e:ZI (.tup [.str w,q,s,f,r])=false:=by show (isN q&&(isN s&&_))=_;rw[h2,Bool.false_and,Bool.and_false]
      rw[e] at kk;rw[h2];walk_at "go";exact kk
    ·have e:ZI (.tup [.str w,q,s,f,r])=false:=by show (isN q&&_)=_;rw[h1,Bool.false_and]
     rw[e] at kk;rw[h1];walk_at "go";exact kk
   ·have e:tabD (.str w) q s f r=false:=by
     clear bad kk hw h vq vs vf;cases q<;>cases s<;>cases f<;>first
      |rfl
      |(show (decide (w="table")&&_)=false;rw[oAh hwt];rfl)
    rw[bad (b:=true) e] at kk;rw[oAh hwt];walk_at "go";exact kk
  ·have e:tabD w q s f r=false:=by
    unfold tabD;split
    ·exact absurd ⟨_,rfl⟩ hs
    ·rfl
   rw[bad (b:=true) e] at kk;rw[(Y7 hs).1];walk_at "go";exact kk
 ·have e1:UD 5 d=false:=by
   cases d with
   | tup ds=>
    refine oAh λ z=>h5 ?_
    match ds,z with
    |[l,o,r,n,m],_=>exact⟨l,o,r,n,m,rfl⟩
    |[],z=>simp at z
    |[_],z=>simp at z
    |[_,_],z=>simp at z
    |[_,_,_],z=>simp at z
    |[_,_,_,_],z=>simp at z
    |_::_::_::_::_::_::_,z=>simp only[length_cons] at z;lia
   |_=>rfl
  have e2:ZI d=false:=by
   unfold ZI;split
   ·exact absurd ⟨_,_,_,_,_,rfl⟩ h5
   ·rfl
  rw[e2] at kk;rw[e1];walk_at "go";exact kk
end
end LZ
namespace LM
open PySem L2 PF LC LZ
noncomputable def VB:FI:=⟨1,1,(.c (.r (.and (.isi (.v 0) "int") (.not (.isi (.v 0) "bool")))) .n)⟩
noncomputable def J4:FI:=⟨3,3,(.c (.r (.and (.f "is_whole" (.c (.v 0) .n)) (.cmp2 .LtE .LtE (.v 1) (.v 0) (.v 2)))) .n)⟩
noncomputable def WC:FI:=⟨1,2,(.c (.q (.or (.not (.isi (.v 0) "tuple")) (.p .Eq (.l .len (.c (.v 0) .n)) (.i 0))) (.c (.r (.bl false)) .n) .n) (.c (.a (.m 1) (.u (.v 0) (.i 0))) (.c (.q (.or (.not (.isi (.v 1) "str")) (.not (.gin "PARTS" (.v 1)))) (.c (.r (.bl false)) .n) .n) (.c (.q (.gin "LEAST_COUNT" (.v 1)) (.c (.r (.and (.p .Eq (.l .len (.c (.v 0) .n)) (.b .Add (.i 2) (.gsb "PARTS" (.v 1)))) (.f "is_between" (.c (.u (.v 0) (.i 1)) (.c (.gsb "LEAST_COUNT" (.v 1)) (.c (.gl "MOST_COUNT") .n)))))) .n) .n) (.c (.r (.p .Eq (.l .len (.c (.v 0) .n)) (.b .Add (.i 1) (.gsb "PARTS" (.v 1))))) .n)))))⟩
noncomputable def VC:FI:=⟨1,1,(.c (.q (.gin "LEAST_COUNT" (.u (.v 0) (.i 0))) (.c (.r (.slc (.v 0) (.yes (.i 2)) .no)) .n) .n) (.c (.r (.slc (.v 0) (.yes (.i 1)) .no)) .n))⟩
noncomputable def JS:FI:=⟨2,2,(.c (.q (.p .Eq (.v 1) (.i 0)) (.c (.r (.bl false)) .n) .n) (.c (.q (.f "is_table" (.c (.v 0) .n)) (.c (.r (.bl true)) .n) .n) (.c (.r (.and (.f "has_form" (.c (.v 0) .n)) (.l .all (.c (.lv (.comp 2 [1] (.m 1) (.seq (.f "parts_of" (.c (.v 0) .n))) .n (.f "is_machine_within" (.c (.v 1) (.c (.b .Sub (.v 2) (.i 1)) .n))))) .n)))) .n)))⟩
noncomputable def J5:FI:=⟨1,1,(.c (.r (.f "is_machine_within" (.c (.v 0) (.c (.gl "DEEPEST") .n)))) .n)⟩
noncomputable def YD:List (Str×Int):=[("later",0),("slowed",1)]
noncomputable def Yr:List (Str×Int):=[("mirrored",1),("later",1),("slowed",1),("both",2),("either",2)]
structure Mt(T:Tab):Prop where
 zt:Zt T
 wh:T.lookup ("is_whole":Str)=some VB
 be:T.lookup ("is_between":Str)=some J4
 fo:T.lookup ("has_form":Str)=some WC
 pa:T.lookup ("parts_of":Str)=some VC
 wi:T.lookup ("is_machine_within":Str)=some JS
 ma:T.lookup ("is_machine":Str)=some J5
 de:T.gls.lookup ("DEEPEST":Str)=some (.int 4)
 mo:T.gls.lookup ("MOST_COUNT":Str)=some (.int 60)
 lc:T.gds.lookup ("LEAST_COUNT":Str)=some YD
 ps:T.gds.lookup ("PARTS":Str)=some Yr
noncomputable def isBt(lo hi:Int):D->Bool
 |.int i=>decide (lo<=i)&&decide (i<=hi)
 |_=>false
noncomputable def Yi(z:Str)(rest:List D):Bool:=match Yr.lookup z with
 |none=>false
 | some p=>match YD.lookup z with
  | some lo=>(match rest with
   |c::r=>decide ((r.length:Int)=p)&&isBt lo 60 c
   |[]=>false)
  |none=>decide ((rest.length:Int)=p)
noncomputable def form:D->Bool
 |.tup (.str z::rest)=>Yi z rest
 |_=>false
noncomputable def Z3:D->List D
 |.tup (.str z::rest)=>if (YD.lookup z).isSome then rest.tail else rest
 |_=>[]
noncomputable def isM:Nat->D->Bool
 |0,_=>false
 |n+1,d=>ZI d||(form d&&(Z3 d).all (isM n))
section
variable {T:Tab}{W k:Nat}{S:Sto}{P:D->Sto->Prop}
theorem glo(h:T.gls.lookup x=some d):(Za T W k).gl x=some d:=by cases k<;>exact h
theorem qz(hd:c.gd x=some kvs)(h:Ev (ev c a env S) λ d S1=>∃ y,d=.str y/\P (.bl (kvs.lookup y).isSome) S1):Ev (ev c (.gin x a) env S) P:=by
 obtain⟨d,S1,h1,y,rfl,k⟩:=h;refine⟨_,S1,?_,k⟩;rw[ev,h1];show (c.gd x).map _=_;rw[hd];rfl
theorem qA(hd:c.gd x=some kvs)(h:Ev (ev c a env S) λ d S1=>∃ y i,d=.str y/\kvs.lookup y=some i/\P (.int i) S1):Ev (ev c (.gsb x a) env S) P:=by
 obtain⟨d,S1,h1,y,i,rfl,hi,k⟩:=h;refine⟨_,S1,?_,k⟩;rw[ev,h1];show (c.gd x).bind (λ kvs=>(kvs.lookup y).map λ i=>(D.int i,S1))=_;rw[hd];show (kvs.lookup y).map (λ i=>(D.int i,S1))=_;rw[hi];rfl
noncomputable def isI:D->Bool
 |.int _=>true
 |_=>false
theorem Yp:Yb.lookup ("int":Str)=some "int":=by decide +kernel
theorem Jb:Yb.lookup ("bool":Str)=some "bool":=by decide +kernel
theorem ZcD(mt:Mt T)(h:vd S d=true)(kk:P (.bl (isI d)) S):Ev ((Za T W (k+1)).fn "is_whole" [d] S) P:=by
 refine Zu mt.wh rfl ?_;dsimp only[VB];walk_at "al";walk_at "st";cases d with
 | int i=>
  walk_at "go";exact kk
 | bl b=>
  refine YC Yp rfl ?_;rw[show (decide (("bool":String)="int")||(decide (("bool":String)="bool")&&decide (("int":String)="int")))=true by decide];walk_at "go";refine YC Jb rfl ?_;rw[show (decide (("bool":String)="bool")||(decide (("bool":String)="bool")&&decide (("bool":String)="int")))=true by decide];walk_at "go";exact kk
 | ref n=>
  obtain⟨t,h1,_,_⟩:=Wz h;have ht:t="list"\/t="dict":=by
   rw[tyD] at h1;cases ho:S[n]? with
   |none=>rw[ho] at h1;cases h1
   | some o=>
    rw[ho] at h1;cases o<;>cases h1<;>simp
  refine Zc8 Yp h1 (by rcases ht with rfl | rfl<;>decide) ?_
  walk_at "go";exact kk
 | _=>
  refine Zc8 Yp rfl (by decide) ?_;walk_at "go";exact kk
theorem ZbB(h:isI d=true):∃ i,d=.int i:=by
 cases d with
 |int i=>exact⟨i,rfl⟩
 |_=>cases h
theorem Zan(mt:Mt T)(h:vd S d=true)(kk:P (.bl (isBt lo hi d)) S):Ev ((Za T W (k+2)).fn "is_between" [d,.int lo,.int hi] S) P:=by
 refine Zu mt.be rfl ?_;dsimp only[J4];walk_at "al";walk_at "st";refine ZcD mt h ?_;refine t_bl ⟨λ h1=>?_,λ h1=>?_⟩
 ·obtain⟨i,rfl⟩:=ZbB h1;refine Jk ?_;walk_at "go";refine two_of (λ h2=>?_) (λ h2=>?_)
  ·have e:isBt lo hi (.int i)=decide (i<=hi):=by show (decide (lo<=i)&&_)=_;rw[oAi h2,Bool.true_and]
   rw[e] at kk;walk_at "go";exact kk
  ·have e:isBt lo hi (.int i)=false:=by show (decide (lo<=i)&&_)=_;rw[oAh h2,Bool.false_and]
   rw[e] at kk;walk_at "go";exact kk
 ·have e:isBt lo hi d=false:=by cases d with
   |int i=>cases h1
   |_=>rfl
  rw[e] at kk;rw[h1];walk_at "go";exact kk
theorem VO{ds:List D}{n:Nat}(hn:1<=n)(hl:ds≠[]):ZS S (.tup ds) (some (n:Int)) none=some (.tup (ds.drop n)):=by
 have hp:0<ds.length:=List.length_pos_iff.2 hl;have e1:HT.sIx ds.length 0 (some (n:Int))=min n ds.length:=HT.Zdp _ _ _;show (if HT.sIx ds.length 0 (some (n:Int))=0/\HT.sIx ds.length ds.length none=ds.length then some (D.tup ds) else some (D.tup<|cutD ds (some (n:Int)) none))=_;rw[if_neg (by rw[e1];lia)]
 unfold cutD;rw[e1];show some (D.tup<|(ds.drop<|min n ds.length).take<|ds.length - min n ds.length)=_;rw[take_of_length_le (by rw[length_drop];exact oAl _)]
 rcases Nat.le_total n ds.length with h | h
 ·rw[Nat.min_eq_left h]
 ·rw[Nat.min_eq_right h,List.drop_of_length_le<|oAl _,List.drop_of_length_le h]
theorem at_0{w:D}{rest:List D}:atI (w::rest) 0=some w:=by
 unfold atI L2.ixN;rw[if_pos (by decide),if_pos (by simp only[length_cons];omega)];rfl
theorem at_1{w c:D}{rest:List D}:atI (w::c::rest) 1=some c:=by
 unfold atI L2.ixN;rw[if_pos (by decide),if_pos (by simp only[length_cons];omega)];rfl
theorem VD(h:¬ ∃ z rest,d=.tup (.str z::rest)):form d=false:=by
 unfold form;split
 ·exact absurd ⟨_,_,rfl⟩ h
 ·rfl
theorem Zeu(mt:Mt T)(h:wd S d=true)(kk:P (.bl (form d)) S):Ev ((Za T W (k+3)).fn "has_form" [d] S) P:=by
 refine Zu mt.fo rfl ?_;dsimp only[WC];walk_at "al";walk_at "st";refine Zk ?_;refine ZW<|Z2 ?_;walk_at "go";refine Yu (Zp h) ?_;by_cases ht:∃ ds,d=.tup ds
 ·obtain⟨ds,rfl⟩:=ht;obtain⟨hlen,hw⟩:=Yq h;rw[show isT (.tup ds)=true from rfl];walk_at "go";cases ds with
  | nil=>
   rw[show form (.tup [])=false from rfl] at kk;rw[oAi (by simp)];walk_at "go";exact kk
  | cons w rest=>
   rw[oAh (by simp only[length_cons];lia)]
   walk_at "go";refine ZL at_0 ?_;walk_at "go";refine Zk ?_;refine ZW<|Z2 ?_;walk_at "go";refine YE (Zp<|hw w<|by simp) ?_;by_cases hs:∃ z,w=.str z
   ·obtain⟨z,rfl⟩:=hs;rw[show isS (.str z)=true from rfl];replace kk:P (.bl<|Yi z rest) S:=kk;walk_at "go";refine qz (YV mt.ps) ?_;walk_at "go";unfold Yi at kk;cases hp:Yr.lookup z with
    | none=>
     rw[hp] at kk;rw[show (none:Option Int).isSome=false from rfl];walk_at "go";exact kk
    | some p=>
     rw[hp] at kk;rw[show (some p).isSome=true from rfl];walk_at "go";refine Zk ?_;refine qz (YV mt.lc) ?_;walk_at "go";cases hq:YD.lookup z with
     | none=>
      rw[hq] at kk;rw[show (none:Option Int).isSome=false from rfl];walk_at "go";refine qA (YV mt.ps) ?_;walk_at "go";refine⟨z,p,rfl,hp,?_⟩;walk_at "go";have e:decide (((.str z::rest:List D).length:Int)=1+p)=decide ((rest.length:Int)=p):=decide_eq_decide.2 (by simp only[length_cons];lia)
      rw[e];exact kk
     | some lo=>
      rw[hq] at kk;rw[show (some lo).isSome=true from rfl];walk_at "go";refine qA (YV mt.ps) ?_;walk_at "go";refine⟨z,p,rfl,hp,?_⟩;walk_at "go";cases rest with
      | nil=>
       have hp1:1<=p:=by
        have:∀ q∈Yr,1<=q.2:=by decide
        exact this (z,p)<|PySem.mem_of_lookup (l:=Yr) hp
       rw[show decide ((([D.str z]:List D).length:Int)=2+p)=false from oAh (by show ¬ ((1:Int)=2+p);lia)]
       walk_at "go";exact kk
      | cons c r=>
       replace kk:P (.bl<|decide ((r.length:Int)=p)&&isBt lo 60 c) S:=kk;have e:decide (((.str z::c::r:List D).length:Int)=2+p)=decide ((r.length:Int)=p):=decide_eq_decide.2 (by simp only[length_cons];lia)
       rw[e];refine two_of (λ g=>?_)<|λ g=>?_
       ·rw[show (decide ((r.length:Int)=p)&&isBt lo 60 c)=isBt lo 60 c by rw[oAi g,Bool.true_and]] at kk;walk_at "go";refine ZL at_1 ?_;walk_at "go";refine qA (YV mt.lc) ?_;walk_at "go";refine⟨z,lo,rfl,hq,?_⟩;walk_at "go";refine Vu (glo mt.mo) ?_;walk_at "go";refine Zan mt (Zp<|hw c<|by simp) ?_;walk_at "go";exact kk
       ·rw[show (decide ((r.length:Int)=p)&&isBt lo 60 c)=false by rw[oAh g,Bool.false_and]] at kk;rw[oAh g];walk_at "go";exact kk
   ·rw[VD (λ z=>by obtain⟨y,r,e⟩:=z;cases e;exact hs ⟨y,rfl⟩)] at kk
    rw[(Y7 hs).1];walk_at "go";exact kk
 ·have e1:isT d=false:=by cases d with
   |tup ds=>exact absurd ⟨ds,rfl⟩ ht
   |_=>rfl
  rw[VD (λ z=>by obtain⟨y,r,e⟩:=z;exact ht ⟨_,e⟩)] at kk
  rw[e1];walk_at "go";exact kk
theorem cut1{w:D}{rest:List D}:cutD (w::rest) (some 1) none=rest:=by
 have e1:HT.sIx (w::rest).length 0 (some 1)=1:=by
  show (if (1:Int)<0 then (1+((w::rest).length:Int)).toNat else min (1:Int).toNat (w::rest).length)=1;rw[if_neg (by decide),length_cons];lia
 unfold cutD;rw[e1];show ((w::rest).drop 1).take ((w::rest).length - 1)=rest;rw[take_of_length_le (by rw[length_drop];exact oAl _)];rfl
theorem Zdc(h:Ev o λ d' S'=>d'=d/\S'=S):o=some (d,S):=by
 obtain⟨d',S',h,rfl,rfl⟩:=h;exact h
theorem ZcE(mt:Mt T)(h:form d=true)(kk:P (.tup (Z3 d)) S):Ev ((Za T W (k+1)).fn "parts_of" [d] S) P:=by
 obtain⟨z,rest,rfl⟩:∃ z rest,d=.tup (.str z::rest):=Classical.byContradiction λ g=>by rw[VD g] at h;cases h
 refine Zu mt.pa rfl ?_;dsimp only[VC];walk_at "al";walk_at "st";refine Zk ?_;refine qz (YV mt.lc) ?_;walk_at "go";refine ZL at_0 ?_;refine⟨z,rfl,?_⟩;walk_at "go";replace kk:P (.tup (if (YD.lookup z).isSome then rest.tail else rest)) S:=kk;cases hq:(YD.lookup z).isSome with
 | true=>
  rw[hq] at kk;walk_at "go";refine YA (VO (ds:=.str z::rest) (n:=2) (by decide)<|by simp) ?_;walk_at "go";rw[show (D.str z::rest).drop 2=rest.tail by cases rest<;>rfl]
  exact kk
 | false=>
  rw[hq] at kk;walk_at "go";rw[cut1];exact kk
theorem ZbC(h:x∈Z3 d)(hw:wd S d=true):wd S x=true:=by
 unfold Z3 at h;split at h
 ·obtain⟨_,hw⟩:=Yq hw;split at h
  ·exact hw x<|oAm _<|List.mem_of_mem_tail h
  ·exact hw x<|oAm _ h
 ·cases h
theorem ZbD(hw:wd S d=true):(Z3 d).length<=1000000:=by
 unfold Z3;split
 ·obtain⟨hl,_⟩:=Yq hw;rw[length_cons] at hl;split
  ·rw[List.length_tail];omega
  ·omega
 ·exact zero_le _
theorem ZbE(mt:Mt T):∀ (n:Nat) {d:D}{P:D->Sto->Prop},wd S d=true->P (.bl (isM n d)) S->Ev ((Za T W (k+n+6)).fn "is_machine_within" [d,.int (n:Nat)] S) P:=by
 intro n
 induction n with
 | zero=>
  intro d P h kk;refine Zu mt.wi rfl ?_;dsimp only[JS];walk_at "al";walk_at "st";refine Zk ?_;walk_at "go";rw[oAi (by rfl)];walk_at "go";exact kk
 | succ n ih=>
  intro d P h kk;refine Zu mt.wi rfl ?_;dsimp only[JS];walk_at "al";walk_at "st";refine Zk ?_;walk_at "go";rw[oAh (by omega)];walk_at "go";refine Zk ?_;walk_at "go";refine ZcC mt.zt h ?_;replace kk:P (.bl (ZI d||(form d&&(Z3 d).all (isM n)))) S:=kk;refine t_bl ⟨λ h1=>?_,λ h1=>?_⟩
  ·rw[h1,Bool.true_or] at kk;walk_at "go";exact kk
  ·rw[h1,Bool.false_or] at kk;walk_at "go";refine Zeu mt h ?_;refine t_bl ⟨λ h2=>?_,λ h2=>?_⟩
   ·rw[h2,Bool.true_and] at kk;walk_at "go";have he:ev (Za T W<|k+(n+1)+5) (.call "parts_of"<|.cons (.var 0) .nil) [some d,some<|.int ((n+1:Nat):Int)] S=some (.tup<|Z3 d,S):=by
     refine Zdc ?_;walk_at "go";refine ZcE mt h2 ?_;exact⟨rfl,rfl⟩
    have hi:evI (Za T W<|k+(n+1)+5) (.seq<|.call "parts_of"<|.cons (.var 0) .nil) [some d,some<|.int ((n+1:Nat):Int)] S=some (.vs<|Z3 d,S):=by rw[evI,he];rfl
    refine Y1 (ds:=Z3 d) (λ x=>.bl<|isM n x) (λ e=>∃ y0 y1,e=[y0,y1,some<|.int ((n+1:Nat):Int)]) hi (ZbD h) ⟨_,_,rfl⟩ ?_ ?_
    ·rintro x hx e2 ⟨y0,y1,rfl⟩;refine⟨⟨_,_,rfl⟩,?_⟩;show Ev (ev _ _ [y0,some x,some<|.int ((n+1:Nat):Int)] S) _;walk_at "go";rw[show (((n+1:Nat):Int) - 1)=(n:Int) by omega];refine ih (ZbC hx h) ?_;exact⟨rfl,rfl⟩
    ·rw[show ((Z3 d).map λ x=>D.bl<|isM n x)=((Z3 d).map<|isM n).map D.bl by rw[map_map];rfl]
     walk_at "go";refine J3 ?_;walk_at "go";rw[show (((Z3 d).map<|isM n).all id)=(Z3 d).all (isM n) by rw[all_map];rfl]
     exact kk
   ·rw[h2,Bool.false_and] at kk;rw[h2];walk_at "go";exact kk
theorem Jh(mt:Mt T)(h:wd S d=true)(kk:P (.bl (isM 4 d)) S):Ev ((Za T W (k+11)).fn "is_machine" [d] S) P:=by
 refine Zu mt.ma rfl ?_;dsimp only[J5];walk_at "al";walk_at "st";refine Vu (glo mt.de) ?_;walk_at "go";refine ZbE (k:=k) mt 4 h ?_;walk_at "go";exact kk
end
end LM
namespace LW
open PySem L2 PF
noncomputable def WD:FI:=⟨2,2,(.c (.q (.p .Eq (.l .len (.c (.v 0) .n)) (.i 0)) (.c (.r (.i 0)) .n) .n) (.c (.r (.u (.v 0) (.b .Mod (.v 1) (.l .len (.c (.v 0) .n))))) .n))⟩
noncomputable def WE:FI:=⟨2,6,(.c (.a (.m 2) (.f "_law_cell" (.c (.v 0) (.c (.v 1) .n)))) (.c (.a (.m 3) (.i 1)) (.c (.fr (.m 4) (.rng1 (.i 8)) (.c (.a (.m 3) (.b .Mult (.v 3) (.b .Pow (.i 10) (.i 60)))) .n)) (.c (.a (.m 5) (.b .Mult (.b .Mod (.l .abs (.c (.v 2) .n)) (.v 3)) (.l .int (.c (.p .GtE (.l .abs (.c (.v 2) .n)) (.b .Pow (.i 10) (.i 18))) .n)))) (.c (.r (.lr (.dsp (.c (.v 5) (.c (.b .Mod (.b .Mult (.b .Add (.b .Add (.b .Mod (.v 2) (.i 2147483629)) (.b .Mult (.b .Mult (.i 7919) (.v 1)) (.v 1))) (.i 17)) (.i 48271)) (.i 2147483647)) (.c (.i 0) .n)))))) .n)))))⟩
noncomputable def WF:FI:=⟨2,3,(.c (.q (.p .Gt (.u (.v 0) (.i 0)) (.i 0)) (.c (.a (.m 2) (.b .Mod (.u (.v 0) (.i 0)) (.v 1))) (.c (.a (.u (.v 0) (.i 0)) (.b .FloorDiv (.u (.v 0) (.i 0)) (.v 1))) (.c (.r (.v 2)) .n))) .n) (.c (.a (.u (.v 0) (.i 2)) (.b .Add (.u (.v 0) (.i 2)) (.i 1))) (.c (.a (.u (.v 0) (.i 1)) (.b .Mod (.b .Add (.b .Add (.b .Mult (.u (.v 0) (.i 1)) (.i 69621)) (.i 12345)) (.b .Mult (.i 101) (.u (.v 0) (.i 2)))) (.i 2147483647))) (.c (.r (.b .Mod (.b .FloorDiv (.b .Mod (.b .Mult (.u (.v 0) (.i 1)) (.b .Add (.b .Mod (.u (.v 0) (.i 1)) (.i 40009)) (.i 7))) (.i 2147483629)) (.i 64)) (.v 1))) .n))))⟩
noncomputable def VE:FI:=⟨2,7,(.c (.a (.m 2) (.s "abcdefghijklmnopqrstuvwxyz")) (.c (.a (.m 3) (.join "" (.lv (.comp 2 [0,2] (.m 1) (.rng1 (.f "_law_pick" (.c (.v 0) (.c (.i 8) .n)))) .n (.u (.v 3) (.f "_law_pick" (.c (.v 2) (.c (.i 26) .n)))))))) (.c (.a (.t (.c (.m 4) (.c (.m 5) .n))) (.t (.c (.f "_law_pick" (.c (.v 0) (.c (.b .Add (.l .len (.c (.v 3) .n)) (.i 1)) .n))) (.c (.f "_law_pick" (.c (.v 0) (.c (.i 26) .n))) .n)))) (.c (.a (.m 6) (.u (.lv (.dsp (.c (.i 1) (.c (.i 3) (.c (.i 5) (.c (.i 7) (.c (.i 9) (.c (.i 11) .n)))))))) (.f "_law_pick" (.c (.v 0) (.c (.i 6) .n))))) (.c (.r (.lv (.comp 2 [4,5,2,3,6] (.m 1) (.rng1 (.v 1)) .n (.b .Add (.b .Add (.slc (.v 5) .no (.yes (.v 2))) (.u (.v 4) (.b .Mod (.b .Add (.v 3) (.b .Mult (.v 6) (.v 1))) (.i 26)))) (.slc (.v 5) (.yes (.v 2)) .no))))) .n)))))⟩
noncomputable def mayF:FI:=⟨4,4,(.c (.q (.or (.p .Eq (.u (.v 2) (.i 1)) (.v 1)) (.p .Eq (.u (.v 2) (.i 1)) (.v 3))) (.c (.r (.bl false)) .n) .n) (.c (.r (.or (.p .NotEq (.u (.v 2) (.i 1)) (.v 0)) (.or (.p .NotIn (.u (.v 2) (.i 0)) (.t (.c (.v 0) (.c (.s "") .n)))) (.p .NotIn (.u (.v 2) (.i 2)) (.t (.c (.v 0) (.c (.s "") .n))))))) .n))⟩
noncomputable def tblF:FI:=⟨3,10,(.c (.a (.m 3) (.f "_law_names" (.c (.v 0) (.c (.b .Add (.i 3) (.f "_law_pick" (.c (.v 0) (.c (.b .Add (.v 1) (.i 1)) .n)))) .n)))) (.c (.a (.m 4) (.b .Add (.v 3) (.lv (.dsp (.c (.s "") .n))))) (.c (.a (.m 5) .dnew) (.c (.fr (.m 6) (.rng1 (.f "_law_pick" (.c (.v 0) (.c (.b .Add (.v 2) (.i 1)) .n)))) (.c (.a (.m 7) (.t (.c (.u (.v 4) (.f "_law_pick" (.c (.v 0) (.c (.l .len (.c (.v 4) .n)) .n)))) (.c (.u (.v 3) (.f "_law_pick" (.c (.v 0) (.c (.l .len (.c (.v 3) .n)) .n)))) .n)))) (.c (.a (.m 7) (.b .Add (.v 7) (.t (.c (.u (.v 4) (.f "_law_pick" (.c (.v 0) (.c (.l .len (.c (.v 4) .n)) .n)))) .n)))) (.c (.a (.m 8) (.u (.v 3) (.f "_law_pick" (.c (.v 0) (.c (.l .len (.c (.v 3) .n)) .n))))) (.c (.q (.f "_law_may" (.c (.u (.v 3) (.i 0)) (.c (.u (.v 3) (.i 2)) (.c (.v 7) (.c (.v 8) .n))))) (.c (.a (.subK (.v 5) (.v 7)) (.v 8)) .n) .n) .n))))) (.c (.a (.m 9) (.l .tuple (.c (.lv (.l .sorted (.c (.lv (.compD 2 [5] (.m 1) (.v 5) (.b .Add (.v 1) (.t (.c (.subK (.v 2) (.v 1)) .n))))) .n))) .n))) (.c (.r (.t (.c (.s "table") (.c (.u (.v 3) (.i 0)) (.c (.u (.v 3) (.i 1)) (.c (.u (.v 3) (.i 2)) (.c (.v 9) .n))))))) .n))))))⟩
structure Wt(T:Tab):Prop where
 ce:T.lookup ("_law_cell":Str)=some WD
 le:T.lookup ("_law_left":Str)=some WE
 pi:T.lookup ("_law_pick":Str)=some WF
 na:T.lookup ("_law_names":Str)=some VE
 ma:T.lookup ("_law_may":Str)=some mayF
 ta:T.lookup ("_law_table":Str)=some tblF
def Pk(S:Sto)(r:Nat):Prop:=∃ a b n:Int,S[r]?=some (.lst [.int a,.int b,.int n])/\0<=b/\b<2147483647
theorem Pk.gr{S S':Sto}{r:Nat}(h:Pk S r)(g:Gr S S'):Pk S' r:=by
 obtain⟨a,b,n,h1,h2⟩:=h;exact⟨a,b,n,g.get h1,h2⟩
section
variable {T:Tab}{W k:Nat}{S:Sto}{P:D->Sto->Prop}
theorem ZP(wt:Wt T){r:Nat}{m:Int}(h:Pk S r)(hm:0<m)(hm2:m<=1000)(kk:∀ (d:Int) (S':Sto),Pk S' r->Fr r S S'->S'.length=S.length->0<=d->d<m->P (.int d) S'):Ev ((Za T W (k+1)).fn "_law_pick" [.ref r,.int m] S) P:=by
 obtain⟨a,b,n,hS,h0,h1⟩:=h;have hr:r<S.length:=(List.getElem?_eq_some_iff.1 hS).1;refine Zu wt.pi rfl ?_;dsimp only[WF];walk_at "al";walk_at "st";refine Zk ?_;walk_at "go";refine two_of (λ ha=>?_)<|λ ha=>?_
 ·walk_at "go";exact kk _ _ ⟨_,_,_,by assumption,h0,h1⟩ (ZhF (by assumption)<|by assumption) (by assumption) (emod_nonneg _<|by lia)<|emod_lt_of_pos _ hm
 ·walk_at "go";rename_i S1 e1 e2 e3 S2 f1 f2 f3;exact kk _ _ ⟨_,_,_,f1,by lia,by lia⟩ ⟨by lia,λ m _ hm=>by rw[f2 m hm,e2 m hm]⟩ (by lia) (emod_nonneg _<|by lia)<|emod_lt_of_pos _ hm
theorem Zev(wt:Wt T){ns:List Int}{q:Int}(h0:0<=q)(kk:∀ z:Int,P (.int z) S):Ev ((Za T W (k+1)).fn "_law_cell" [.lst (ns.map D.int),.int q] S) P:=by
 refine Zu wt.ce rfl ?_;dsimp only[WD];walk_at "al";walk_at "st";refine Zk ?_;walk_at "go";refine two_of (λ hp=>?_)<|λ hp=>?_
 ·walk_at "go";exact kk 0
 ·have hl:(0:Int)<((ns.map D.int).length:Int):=by lia
  walk_at "go";have hn:(q % ((ns.map D.int).length:Int)).toNat<ns.length:=by
   have:=emod_lt_of_pos q hl;have:=emod_nonneg q (show ((ns.map D.int).length:Int)≠0 by lia);simp only[length_map] at *;lia
  obtain⟨z,hz⟩:∃ z,atI (ns.map D.int) (q % ((ns.map D.int).length:Int))=some (.int z):=by
   have:=emod_nonneg q (show ((ns.map D.int).length:Int)≠0 by lia);generalize q % ((ns.map D.int).length:Int)=y at *;obtain⟨n,rfl⟩:∃ n:Nat,y=n:=⟨y.toNat,by lia⟩;have hl':n<ns.length:=by simpa using hn
   exact⟨ns[n],YJ<|by rw[getElem?_map,oAt hl'];rfl⟩
  refine ZK hz ?_;walk_at "go";exact kk z
theorem Zew(wt:Wt T){ns:List Int}{q:Int}(h0:0<=q)(h1:q<=100)(kk:∀ (S':Sto),Pk S' S.length->Gr S S'->P (.ref S.length) S'):Ev ((Za T W (k+2)).fn "_law_left" [.lst (ns.map D.int),.int q] S) P:=by
 refine Zu wt.le rfl ?_;dsimp only[WE];walk_at "al";walk_at "st";refine Zev wt h0<|λ z=>?_;walk_at "go";refine JQ ?_;walk_at "go";refine⟨8,λ i e2 S2=>S2=S/\i<=8/\∃ t,e2=[some<|.lst<|ns.map D.int,some<|.int q,some<|.int z,some<|.int<|10 ^ (60 * i),t,none],rfl,by decide,by decide,⟨rfl,by lia,_,rfl⟩,?_,?_⟩
 ·rintro i e2 S2 hi ⟨rfl,hi8,t,rfl⟩;have e:(10:Int) ^ (60 * i) * 1000000000000000000000000000000000000000000000000000000000000=10 ^ (60 * (i+1)):=by
   rw[show 60 * (i+1)=60 * i+60 by lia,Int.pow_add];rfl
  have hb:=zO (n:=60 * i) (by lia);have hb2:(1000000000000000000000000000000000000000000000000000000000000:Int).natAbs<2 ^ 100000:=zO (n:=60) (by lia);generalize (10:Int) ^ (60 * i)=y at *;refine g_nm<|Zd<|ZD<|Zv<|Zc rfl<|Zv<|Zg<|Zg<|Op.mk pow60<|Zgc hb hb2 ?_;clear hb hb2;walk_at "go";exact⟨rfl,by have:(8:Int).toNat=8:=rfl;lia,some<|.int (i:Int),by rw[<- e];rfl⟩
 ·rintro e2 S2 ⟨rfl,_,t,rfl⟩;have hf:(0:Int)<10 ^ (60 * (8:Int).toNat):=Int.pow_pos (by decide);generalize (10:Int) ^ (60 * (8:Int).toNat)=far at *;walk_at "go";exact kk _ ⟨_,_,_,zN,by lia,by lia⟩ Gr.one
end
open PySem L2 PF LZ
noncomputable def one(c:Nat):Str:=⟨#[c]⟩
noncomputable abbrev alpha:Str:="abcdefghijklmnopqrstuvwxyz"
def lowc(c:Nat):Prop:=97<=c/\c<=122
theorem ZcF{i:Int}(h0:0<=i)(h1:i<26):atI alpha.cps.toList i=some (97+i.toNat):=by
 obtain⟨n,rfl⟩:∃ n:Nat,i=n:=⟨i.toNat,by lia⟩;have hn:n<26:=by lia
 have e:alpha.cps.toList=(List.range 26).map (97+·):=by decide +kernel
 rw[e];refine YJ ?_;rw[getElem?_map,List.getElem?_range hn];rfl
section
variable {T:Tab}{W k:Nat}{S:Sto}{P:D->Sto->Prop}{PD:D->Prop}
theorem Wf{i:Int}(h0:0<=i)(h1:i<26)(k:PD (.str (one (97+i.toNat)))):Op (subD S (.str alpha) (.int i)) PD:=by
 refine⟨_,?_,k⟩;show (if alpha.length<=line then (atI alpha.cps.toList i).map λ c=>D.str ⟨#[c]⟩ else none)=_;rw[if_pos (by decide +kernel),ZcF h0 h1];rfl
noncomputable def txt(cs:List Nat):Str:=⟨cs.toArray⟩
theorem Jy(cs:List Nat):(txt cs).cps.toList=cs:=rfl
theorem Yl(cs:List Nat):(txt cs).length=cs.length:=by show cs.toArray.size=_;simp
theorem join7:∀ cs:List Nat,Str.join "" (cs.map one)=txt cs
 |[]=>rfl
 |[c]=>rfl
 | c::d::cs=>by
  have ih:=join7 (d::cs);rw[map_cons] at ih ⊢;rw[map_cons,Str.join,ih]
  ·show (⟨(#[c]++(Str.ofString "").cps)++(d::cs).toArray⟩:Str)=_;rw[show (Str.ofString "").cps=#[] from rfl];unfold txt;simp
  ·intro z;cases z
theorem fold7:∀ (cs:List Nat) (n:Nat),(cs.map one).foldl (λ n y=>n+y.length+(Str.ofString "").length) n=n+cs.length
 |[],n=>rfl
 | c::cs,n=>by
  rw[map_cons,foldl_cons,fold7 cs];show n+1+0+cs.length=n+(cs.length+1);lia
theorem fit7(cs:List Nat)(h:cs.length<=7):Y5 "" (cs.map one)=true:=by
 unfold Y5 Builtin.Str.tooLong;rw[join7,Yl,<-Array.foldl_toList];show (!decide ((cs.map one).foldl (λ n y=>n+y.length+(Str.ofString "").length) 0 > sizeLine)&&decide (cs.length<=line))=true;rw[fold7,ZF];have e:line=16777216:=rfl;rw[e,oAh (by lia),oAi (by lia)];rfl
theorem strs_map:∀ l:List Str,ZB (l.map D.str)=some l
 |[]=>rfl
 |x::l=>by rw[map_cons,ZB,strs_map l];rfl
noncomputable def nmL(cs:List Nat)(a j:Nat):Str:=txt (cs.take a++(97+j)::cs.drop a)
theorem ZhL{cs:List Nat}{a:Nat}(h:a<=cs.length)(hl:cs.length<=7):ZS S (.str (txt cs)) none (some (a:Int))=some (.str (txt (cs.take a))):=by
 have e:StrLaws.sliceText (txt cs) none (some (a:Int))=txt (cs.take a):=by
  rw[StrLaws.sliceText_to ⟨by lia,by rw[Jy];lia⟩,Jy,List.drop_zero]
  show txt (cs.take ((a:Int) - 0).toNat)=_;rw[show ((a:Int) - 0).toNat=a by omega]
 show (if (StrLaws.sliceText (txt cs) none<|some (a:Int)).length<=line then some (D.str<|StrLaws.sliceText (txt cs) none<|some (a:Int)) else none)=_;rw[e,if_pos (by rw[Yl,length_take];show _<=16777216;lia)]
theorem VO{cs:List Nat}{a:Nat}(h:a<=cs.length)(hl:cs.length<=7):ZS S (.str (txt cs)) (some (a:Int)) none=some (.str (txt (cs.drop a))):=by
 have e:StrLaws.sliceText (txt cs) (some (a:Int)) none=txt (cs.drop a):=by
  rw[StrLaws.sliceText_from ⟨by omega,by rw[Jy];omega⟩,Jy]
  show txt ((cs.drop (a:Int).toNat).take ((cs.length:Int) - a).toNat)=_;rw[show (a:Int).toNat=a by omega,take_of_length_le (by rw[length_drop];omega)]
 show (if (StrLaws.sliceText (txt cs) (some (a:Int)) none).length<=line then some (D.str<|StrLaws.sliceText (txt cs) (some (a:Int)) none) else none)=_;rw[e,if_pos (by rw[Yl,length_drop];show _<=16777216;omega)]
theorem zP(a b:List Nat):txt a++txt b=txt (a++b):=by
 show (⟨a.toArray++b.toArray⟩:Str)=_;unfold txt;simp
theorem ZbF{x y:Str}(hz:x.length+y.length<=line)(k:PD (.str (x++y))):Op (binop S .Add (.str x) (.str y)) PD:=⟨_,by show (if x.length+y.length<=line then some (D.str<|x++y) else none)=_;rw[if_pos hz],k⟩
theorem Zgi{cs:List Nat}{a j:Nat}(hl:cs.length<=7)(hc:∀ c∈cs,lowc c)(hj:j<26):isN (.str (nmL cs a j))=true:=by
 have hlen:(cs.take a++(97+j)::cs.drop a).length=cs.length+1:=by simp;lia
 have hall:∀ c∈cs.take a++(97+j)::cs.drop a,lowc c:=λ c h=>by
  rcases List.mem_append.1 h with h | h
  ·exact hc c<|mem_of_mem_take h
  ·rcases List.mem_cons.1 h with rfl | h
   ·unfold lowc;lia
   ·exact hc c<|mem_of_mem_drop h
 unfold nmL;show (decide (1<=(txt (cs.take a++(97+j)::cs.drop a)).length)&&decide ((txt (cs.take a++(97+j)::cs.drop a)).length<=8)&&(txt (cs.take a++(97+j)::cs.drop a)).cps.toList.all λ c=>decide (97<=c)&&decide (c<=122))=true;rw[Yl,hlen];simp only[and_eq_true,decide_eq_true_eq,List.all_eq_true];exact⟨⟨by lia,by lia⟩,λ c h=>hall c<|by rw[Jy] at h;exact h⟩
theorem Zgj{cs:List Nat}{a j j':Nat}(ha:a<=cs.length)(h:nmL cs a j=nmL cs a j'):j=j':=by
 have e:(cs.take a++(97+j)::cs.drop a)=(cs.take a++(97+j')::cs.drop a):=by
  have:=congrArg (λ s:Str=>s.cps.toList) h;exact this
 have:=List.append_cancel_left e;injection this with h1 _
 lia
noncomputable def steps:List Int:=[1,3,5,7,9,11]
theorem ZcG{f st:Int}{i j:Nat}(hs:st∈steps)(hi:i<10)(hj:j<10)(h:(f+st * i) % 26=(f+st * j) % 26):i=j:=by
 simp only[steps,mem_cons,not_mem_nil,or_false] at hs
 rcases hs with rfl | rfl | rfl | rfl | rfl | rfl<;>omega
theorem ZcH(wt:Wt T){r:Nat}{m:Int}(h:Pk S r)(hm:0<=m)(hm2:m<=10)(kk:∀ (ns:List Str) (S':Sto),Pk S' r->Fr r S S'->S'.length=S.length->(ns.length:Int)=m->ns.Nodup->(∀ x∈ns,isN (.str x)=true)->P (.lst (ns.map .str)) S'):Ev ((Za T W (k+2)).fn "_law_names" [.ref r,.int m] S) P:=by
 refine Zu wt.na rfl ?_;dsimp only[VE];walk_at "al";walk_at "st";refine Zer<|ZX ?_;obtain⟨p0,S0,hp0,hk0,hf0,hl0,h00,h08⟩:∃ (d:Int) (S':Sto),(Za T W<|k+1).fn "_law_pick" [.ref r,.int 8] S=some (.int d,S')/\Pk S' r/\Fr r S S'/\S'.length=S.length/\0<=d/\d<8:=by
  obtain⟨d,S',h1,d',e,h2⟩:=ZP (W:=W) (k:=k) (P:=λ d S'=>∃ d':Int,d=.int d'/\Pk S' r/\Fr r S S'/\S'.length=S.length/\0<=d'/\d'<8) wt h (by decide) (by decide) λ d S' a b c e f=>⟨d,rfl,a,b,c,e,f⟩;subst e;exact⟨d',S',h1,h2⟩
 have hit:evI (Za T W<|k+1) (.rng1<|.call "_law_pick"<|.cons (.var 0)<|.cons (.int<|8) .nil) [some<|.ref r,some<|.int m,some<|.str alpha,none,none,none,none] S=some (.vs<|(List.range p0.toNat).map λ (k:Nat)=>D.int<|0+(k:Int),S0):=by
  refine Zbw ?_ (by lia) (by lia);rw[ev];exact hp0
 refine UB _ _ S0 hit (λ i e2 S2 acc=>Pk S2 r/\Fr r S S2/\S2.length=S.length/\(∃ t,e2=[none,t,some<|.ref r,some<|.str alpha])/\∃ cs:List Nat,cs.length=i/\(∀ c∈cs,lowc c)/\acc=(cs.map one).map D.str) ⟨hk0,hf0,hl0,⟨none,rfl⟩,[],rfl,by simp,rfl⟩ (.inl rfl) ?_ ?_
 ·rintro i d e2 S2 acc hd ⟨g1,g2,g3,⟨t,rfl⟩,cs,g4,g5,rfl⟩;obtain⟨hi,rfl⟩:=VN hd;refine g_nm<|Vw ⟨λ _=>?_,λ z=>nomatch z⟩;walk_at "go";refine ZP wt g1 (by decide) (by decide) λ d S' a1 a2 a3 a4 a5=>?_;refine Wf a4 a5 ?_;refine⟨by rw[length_map,length_map];show _<16777216;lia,a1,g2.trans a2,by lia,⟨_,rfl⟩,cs++[97+d.toNat],by simp[g4],?_,by simp⟩
  intro c hc
  rcases List.mem_append.1 hc with hc | hc
  ·exact g5 c hc
  ·have:c=97+d.toNat:=by simpa using hc
   subst this;unfold lowc;lia
 ·rintro e2 S2 acc ⟨g1,g2,g3,⟨t,rfl⟩,cs,g4,g5,rfl⟩;have hcl:cs.length<=7:=by simp at g4;lia
  refine⟨_,cs.map one,rfl,strs_map _,fit7 cs hcl,?_⟩;rw[join7 cs];walk_at "go";refine Us (by show (if (txt cs).length<=line then some (D.int ((txt cs).length:Int)) else none)=_;rw[if_pos (by rw[Yl];show _<=16777216;lia)]) ?_
  walk_at "go";refine ZP wt g1 (by lia) (by rw[Yl];lia) λ at' S3 b1 b2 b3 b4 b5=>?_
  walk_at "go";refine ZP wt b1 (by decide) (by decide) λ fi S4 c1 c2 c3 c4 c5=>?_;walk_at "go";refine ZP wt c1 (by decide) (by decide) λ si S5 d1 d2 d3 d4 d5=>?_;rw[Yl] at b5;obtain⟨st,hst,hmem⟩:∃ st,atI [D.int 1,.int 3,.int 5,.int 7,.int 9,.int 11] si=some (.int st)/\st∈steps:=by
   have:si=0\/si=1\/si=2\/si=3\/si=4\/si=5:=by lia
   rcases this with rfl | rfl | rfl | rfl | rfl | rfl
   ·exact⟨1,rfl,by decide⟩
   ·exact⟨3,rfl,by decide⟩
   ·exact⟨5,rfl,by decide⟩
   ·exact⟨7,rfl,by decide⟩
   ·exact⟨9,rfl,by decide⟩
   ·exact⟨11,rfl,by decide⟩
  refine ZK hst ?_;walk_at "go";obtain⟨an,rfl⟩:∃ n:Nat,at'=n:=⟨at'.toNat,by lia⟩;have han:an<=cs.length:=by lia
  have hst2:1<=st/\st<=11:=by
   simp only[steps,mem_cons,not_mem_nil,or_false] at hmem;lia
  refine Y1 (λ d=>match d with | .int q=>.str (nmL cs an ((fi+st * q) % 26).toNat) | _=>.non) (λ e2=>∃ t,e2=[none,t,some<|.int (an:Int),some<|.int fi,some<|.str alpha,some<|.str<|txt cs,some<|.int st]) (Zbw (by rw[ev];rfl) (by lia)<|by lia) (by simp;lia) ⟨none,rfl⟩ ?_ ?_
  ·rintro d hd e2 ⟨t,rfl⟩;refine⟨⟨some d,rfl⟩,?_⟩;obtain⟨q,hq,rfl⟩:=List.mem_map.1 hd;have hq':=List.mem_range.1 hq;rw[show (0:Int)+(q:Int)=q by omega];refine Zv<|Zv<|YZ<|Zc rfl<|Jg<|Y0<|Zc rfl ⟨_,rfl,YA (ZhL han hcl) ?_⟩;walk_at "go";have z0:=emod_nonneg (fi+st * (q:Int)) (show (26:Int)≠0 by decide);have z1:=emod_lt_of_pos (fi+st * (q:Int)) (show (0:Int)<26 by decide);refine Wf z0 z1 ?_;refine ZbF (by rw[Yl,length_take];show _+1<=16777216;lia) ?_
   refine YZ<|Zc rfl<|Y0<|Zc rfl ⟨_,rfl,Jg<|YA (VO han hcl) ?_⟩;have e1:txt (cs.take an)++one (97+((fi+st * (q:Int)) % 26).toNat)=txt (cs.take an++[97+((fi+st * (q:Int)) % 26).toNat]):=zP _ _;rw[e1];refine ZbF (by rw[Yl,Yl,length_append,length_take,length_drop];show _+1+_<=16777216;lia) ?_
   refine⟨?_,rfl⟩;rw[zP,List.append_assoc];rfl
  ·walk_at "go";have em:(((List.range m.toNat).map λ (k:Nat)=>D.int<|0+(k:Int)).map λ d=>match d with | .int q=>D.str (nmL cs an ((fi+st * q) % 26).toNat) | _=>.non)=((List.range m.toNat).map λ q:Nat=>nmL cs an ((fi+st * (q:Int)) % 26).toNat).map D.str:=by
    rw[map_map,map_map];apply List.map_congr_left;intro q _;show D.str (nmL cs an ((fi+st * (0+(q:Int))) % 26).toNat)=_;rw[show (0:Int)+(q:Int)=q by omega];rfl
   rw[em];have lt26:∀ q:Nat,((fi+st * (q:Int)) % 26).toNat<26:=λ q=>by
    have z1:=emod_lt_of_pos (fi+st * (q:Int)) (show (0:Int)<26 by decide);lia
   refine kk _ S5 d1 (g2.trans<|b2.trans<|c2.trans d2) (by lia) (by simp;lia) ?_ ?_
   ·unfold List.Nodup;rw[List.pairwise_map];refine List.Pairwise.imp_of_mem ?_ nodup_range;intro q1 q2 h1 h2 hne e;have:=Zgj han e;have z0:=emod_nonneg (fi+st * (q1:Int)) (show (26:Int)≠0 by decide);have z1:=emod_nonneg (fi+st * (q2:Int)) (show (26:Int)≠0 by decide);have h1:=List.mem_range.1 h1;have h2:=List.mem_range.1 h2;exact hne<|ZcG (f:=fi) hmem (by lia) (by lia) (by lia)
   ·intro x hx;obtain⟨q,_,rfl⟩:=List.mem_map.1 hx;exact Zgi hcl g5<|lt26 q
end
section
variable {T:Tab}{W k:Nat}{S:Sto}{P:D->Sto->Prop}{PD:D->Prop}
theorem ZbG(wt:Wt T){q f l o r n:Str}(kk:P (.bl (rowC q f l o r n)) S):Ev ((Za T W (k+1)).fn "_law_may" [.str q,.str f,.tup [.str l,.str o,.str r],.str n] S) P:=by
 refine Zu wt.ma rfl ?_;dsimp only[mayF];walk_at "al";walk_at "st";refine Zk<|ZW ?_;walk_at "go";refine YG ?_;walk_at "go";unfold rowC at kk;refine two_of (λ h1=>?_)<|λ h1=>?_
 ·rw[oAi h1,Bool.or_true] at kk;rw[oAi h1];walk_at "go";exact kk
 ·rw[oAh h1,Bool.or_false] at kk;walk_at "go";refine YG ?_;walk_at "go";refine two_of (λ h2=>?_) (λ h2=>?_)
  ·rw[oAi h2] at kk;walk_at "go";exact kk
  ·rw[oAh h2] at kk;walk_at "go";refine WB ?_;walk_at "go";refine two_bn (λ h3=>?_) (λ h3=>?_)
   ·rw[oAi h3] at kk;walk_at "go";refine Vz ?_;walk_at "go";cases h4:(decide (q=l)||decide (("":Str)=l)) with
    | true=>
     rw[h4] at kk;walk_at "go";refine Vz ?_;walk_at "go";exact kk
    | false=>
     rw[h4] at kk;walk_at "go";exact kk
   ·rw[oAh h3] at kk ⊢;walk_at "go";exact kk
noncomputable def gR(kv:List Key×D):D:=.tup (kv.1.map unkey++[kv.2])
structure Rw(ns:List Str)(q f:Str)(row:List Str):Prop where
 ex:∃ l o r n:Str,row=[l,o,r,n]/\(l=""\/l∈ns)/\o∈ns/\(r=""\/r∈ns)/\n∈ns/\rowC q f l o r n=true
def Kv(ns:List Str)(q f:Str)(kvs:List (List Key×D)):Prop:=∃ rs:List (List Str),kvs.map gR=rs.map rowD/\kvs.map (·.1)=rs.map (λ row=>(row.take 3).map Key.inr)/\(∀ row∈rs,Rw ns q f row)
theorem Kv.nil{ns:List Str}{q f:Str}:Kv ns q f []:=⟨[],rfl,rfl,λ _ h=>nomatch h⟩
theorem Kv.put{ns:List Str}{q f l o r n:Str}:∀ {kvs:List (List Key×D)},Kv ns q f kvs->Rw ns q f [l,o,r,n]->Kv ns q f (putD kvs [.inr l,.inr o,.inr r] (.str n)):=by
 intro kvs ⟨rs,h1,h2,h3⟩ hr;unfold putD;split
 ·-- in place
  suffices g:∀ (kvs:List (List Key×D)) (rs:List (List Str)),kvs.map gR=rs.map rowD->kvs.map (·.1)=rs.map (λ row=>(row.take 3).map Key.inr)->(∀ row∈rs,Rw ns q f row)->Kv ns q f (kvs.map λ kv=>if kv.1=[.inr l,.inr o,.inr r] then (kv.1,.str n) else kv) from g kvs rs h1 h2 h3
  intro kvs
  induction kvs with
  |nil=>intro rs a b c;exact Kv.nil
  | cons kv kvs ih=>
   intro rs a b c;cases rs with
   |nil=>cases a
   | cons row rs=>
    rw[map_cons,map_cons] at a b;injection a with a1 a2
    injection b with b1 b2
    obtain⟨rs',d1,d2,d3⟩:=ih rs a2 b2<|λ x hx=>c x<|oAm _ hx;by_cases hk:kv.1=[.inr l,.inr o,.inr r]
    ·refine⟨[l,o,r,n]::rs',?_,?_,λ x hx=>?_⟩
     ·rw[map_cons,map_cons,map_cons,d1,if_pos hk];show gR (kv.1,.str n)::_=_;rw[hk];rfl
     ·rw[map_cons,map_cons,map_cons,d2,if_pos hk];show kv.1::_=_;rw[hk];rfl
     ·rcases List.mem_cons.1 hx with rfl | hx
      ·exact hr
      ·exact d3 x hx
    ·refine⟨row::rs',?_,?_,λ x hx=>?_⟩
     ·rw[map_cons,map_cons,map_cons,d1,if_neg hk,a1]
     ·rw[map_cons,map_cons,map_cons,d2,if_neg hk,b1]
     ·rcases List.mem_cons.1 hx with rfl | hx
      ·exact c _<|oAn ..
      ·exact d3 x hx
 ·refine⟨rs++[[l,o,r,n]],by rw[map_append,map_append,h1];rfl,by rw[map_append,map_append,h2];rfl,λ x hx=>?_⟩
  rcases List.mem_append.1 hx with hx | hx
  ·exact h3 x hx
  ·have:x=[l,o,r,n]:=by simpa using hx
   subst this;exact hr
theorem ZbH{κ:Type}[DecidableEq κ]{kvs:List (κ×D)}{kk:κ}{d:D}(h:(kvs.map (·.1)).Nodup):((putD kvs kk d).map (·.1)).Nodup:=by
 unfold putD;split
 ·rw[map_map];have e:((λ kv:κ×D=>kv.1) ∘ λ kv:κ×D=>if kv.1=kk then (kv.1,d) else kv)=λ kv:κ×D=>kv.1:=by
   funext kv
   show (if kv.1=kk then (kv.1,d) else kv).1=kv.1;split<;>rfl
  rw[e];exact h
 ·rename_i hn;rw[map_append,List.nodup_append];refine⟨h,by simp,λ a ha b hb=>?_⟩;have:b=kk:=by simpa using hb
  subst this;rintro rfl;obtain⟨kv,h1,h2⟩:=List.mem_map.1 ha;exact hn<|List.any_eq_true.2 ⟨kv,h1,oAi h2⟩
theorem Zex{κ:Type}[DecidableEq κ](a:List (κ×D))(kk:κ)(x:D):(putD a kk x).length<=a.length+1:=by
 unfold putD;split<;>simp
theorem J6:∀ rs:List (List Str),(∀ row∈rs,row≠[])->Yg (rs.map rowD)=some rs
 |[],_=>rfl
 | row::rs,h=>by
  rw[map_cons];show (ZB<|row.map D.str).bind _=_;rw[strs_map];show (if row.isEmpty then none else (Yg<|rs.map rowD).map (row::·))=_;rw[if_neg (by simpa using h row (oAn ..)),J6 rs<|λ x hx=>h x<|oAm _ hx];rfl
theorem zd{rs:List (List Str)}(h:∀ row∈rs,row≠[])(hl:rs.length<64):bltL S .sorted [.lst (rs.map rowD)]=some ((ZH rs).map rowD):=by
 dsimp only[bltL];cases rs with
 |nil=>rfl
 | cons row rs=>
  show (match YR ((row::rs).map rowD) with
   |some is=>if is.length<64 then some ((isort is).map D.int) else none
   |none=>(Yg<|(row::rs).map rowD).bind λ ls=>if ls.length<64 then some ((ZH ls).map rowD) else none)=_
  rw[show YR ((row::rs).map rowD)=none from rfl];show (Yg<|(row::rs).map rowD).bind _=_;rw[J6 _ h];show (if (row::rs).length<64 then _ else _)=_;rw[if_pos hl]
theorem lex3{a b c n a' b' c' n':Str}(h:TS.lexB [a',b',c',n'] [a,b,c,n]=false)(hne:[a,b,c]≠[a',b',c']):TS.lexB [a,b,c] [a',b',c']=true:=by
 have st:∀ {x y:Str},x≠y->TS.sLt y x=false->TS.sLt x y=true:=λ {x y} h1 h2=>by
  cases q:TS.sLt x y with
  |true=>rfl
  |false=>exact absurd (TS.zv q h2) h1
 simp only[TS.lexB] at h ⊢;by_cases h1:a=a'
 ·subst h1;rw[if_pos rfl] at h ⊢;by_cases h2:b=b'
  ·subst h2;rw[if_pos rfl] at h ⊢;by_cases h3:c=c'
   ·subst h3;exact absurd rfl hne
   ·rw[if_neg<|Ne.symm h3] at h;rw[if_neg h3];exact st h3 h
  ·rw[if_neg<|Ne.symm h2] at h;rw[if_neg h2];exact st h2 h
 ·rw[if_neg<|Ne.symm h1] at h;rw[if_neg h1];exact st h1 h
theorem zQ{ns:List Str}{q f:Str}:∀ rs:List (List Str),(∀ row∈rs,Rw ns q f row)->(rs.map (·.take 3)).Nodup->(rs.Pairwise λ a b=>TS.lexB b a=false)->rising (rs.map rowD)=true
 |[],_,_,_=>rfl
 |[_],_,_,_=>rfl
 | x::y::rs,h,hn,hs=>by
  obtain⟨l,o,r,n,rfl,_⟩:=(h x<|oAn ..).ex;obtain⟨l',o',r',n',rfl,_⟩:=(h y<|oAm _<|oAn ..).ex;rw[map_cons] at hn;rw[nodup_cons] at hn;rw[pairwise_cons] at hs;rw[map_cons,map_cons,rising,and_eq_true];refine⟨lex3 (n:=n) (n':=n') (hs.1 _<|oAn ..)<|λ e=>hn.1 ?_,?_⟩
  ·rw[map_cons];exact List.mem_cons.2<|.inl e
  ·have:=zQ ([l',o',r',n']::rs) (λ z hz=>h z<|oAm _ hz) hn.2 hs.2;rw[map_cons] at this;exact this
noncomputable def tabOf(q s f:Str)(rows:List (List Str)):D:=.tup [.str "table",.str q,.str s,.str f,.tup (rows.map rowD)]
structure Tb(q s f:Str)(rows:List (List Str)):Prop where
 tab:ZI (tabOf q s f rows)=true
 few:rows.length<=40
 nam:∃ ns:List Str,ns.length<=40/\q∈ns/\s∈ns/\f∈ns/\∀ row∈rows,∀ x∈row,x=""\/x∈ns
theorem ZcI{ns:List Str}{q f:Str}(hN:∀ x∈ns,isN (.str x)=true){row:List Str}(h:Rw ns q f row):Zq q f (rowD row)=true:=by
 obtain⟨l,o,r,n,rfl,h1,h2,h3,h4,h5⟩:=h.ex;have nb:∀ x:Str,x=""\/x∈ns->isNb (.str x)=true:=λ x hx=>by
  show (decide (x="")||isN (.str x))=true
  rcases hx with rfl | hx
  ·rfl
  ·rw[hN x hx,Bool.or_true]
 show (isNb (.str l)&&(isN (.str o)&&(isNb (.str r)&&(isN (.str n)&&rowC q f l o r n))))=true;rw[nb l h1,nb r h3,hN o h2,hN n h4,h5];rfl
theorem ZhM{ns:List Str}{q s f:Str}{rs:List (List Str)}(hN:∀ x∈ns,isN (.str x)=true)(hl:ns.length<=40)(hq:q∈ns)(hs:s∈ns)(hf:f∈ns)(h1:q≠s)(h2:q≠f)(h3:s≠f)(hr:∀ row∈rs,Rw ns q f row)(hn:(rs.map (·.take 3)).Nodup)(hlen:rs.length<=40):Tb q s f (ZH rs):=by
 have pm:=Yt rs;have hr':∀ row∈ZH rs,Rw ns q f row:=λ row h=>hr row<|pm.mem_iff.1 h;refine⟨?_,by rw[pm.length_eq];exact hlen,ns,hl,hq,hs,hf,λ row h x hx=>?_⟩
 ·show (isN (.str q)&&(isN (.str s)&&(isN (.str f)&&(decide (("table":Str)="table")&&(tabC q s f&&(((ZH rs).map rowD).all (Zq q f)&&rising ((ZH rs).map rowD)))))))=true;rw[hN q hq,hN s hs,hN f hf,zQ _ hr' ((pm.map _).nodup_iff.2 hn)<|Ye rs];have ea:((ZH rs).map rowD).all (Zq q f)=true:=by
   rw[List.all_eq_true];intro d hd;obtain⟨row,hrow,rfl⟩:=List.mem_map.1 hd;exact ZcI hN<|hr' row hrow
  rw[ea];unfold tabC;rw[oAh h1,oAh h2,oAh h3,oAi rfl];rfl
 ·obtain⟨l,o,r,n,rfl,g1,g2,g3,g4,_⟩:=(hr' row h).ex;simp only[mem_cons,not_mem_nil,or_false] at hx
  rcases hx with rfl | rfl | rfl | rfl
  ·exact g1
  ·exact .inr g2
  ·exact g3
  ·exact .inr g4
theorem WG{ns:List Str}{d:Int}(h0:0<=d)(h1:d<((ns.map D.str).length:Int)):∃ x∈ns,atI (ns.map D.str) d=some (.str x):=by
 obtain⟨n,rfl⟩:∃ n:Nat,d=n:=⟨d.toNat,by lia⟩;have hn:n<ns.length:=by rw[length_map] at h1;lia
 exact⟨ns[n],getElem_mem hn,YJ<|by rw[getElem?_map,oAt hn];rfl⟩
theorem ZbI(wt:Wt T){r:Nat}{more most:Int}(h:Pk S r)(hm0:0<=more)(hm1:more<=7)(hx0:0<=most)(hx1:most<=40)
  (kk:∀ (q s f:Str) (rows:List (List Str)) (S':Sto),Tb q s f rows->Pk S' r->Fr r S S'->P (tabOf q s f rows) S'):Ev ((Za T W (k+3)).fn "_law_table" [.ref r,.int more,.int most] S) P:=by
 have hr:r<S.length:=by obtain⟨a,b,n,h1,_⟩:=h;exact(List.getElem?_eq_some_iff.1 h1).1
 refine Zu wt.ta rfl ?_;dsimp only[tblF];walk_at "al";walk_at "st";refine ZP wt h (by lia) (by lia) λ mo S1 a1 a2 a3 a4 a5=>?_;walk_at "go";refine ZcH wt a1 (by lia) (by lia) λ ns S2 b1 b2 b3 b4 b5 b6=>?_;have hns:3<=ns.length/\ns.length<=40:=by lia
 obtain⟨q,s,f,rest,rfl⟩:∃ q s f rest,ns=q::s::f::rest:=by
  match ns,hns with
  |q::s::f::rest,_=>exact⟨q,s,f,rest,rfl⟩
  |[],h=>simp at h
  |[_],h=>simp at h
  |[_,_],h=>simp at h
 generalize hnn:(q::s::f::rest)=ns at *;have hq:q∈ns:=by rw[<- hnn];simp
 have hs:s∈ns:=by rw[<- hnn];simp
 have hf:f∈ns:=by rw[<- hnn];simp
 have n0:atI (ns.map D.str) 0=some (.str q):=by rw[<- hnn];exact YJ rfl
 have n1:atI (ns.map D.str) 1=some (.str s):=by rw[<- hnn];exact YJ rfl
 have n2:atI (ns.map D.str) 2=some (.str f):=by rw[<- hnn];exact YJ rfl
 have hd:q≠s/\q≠f/\s≠f:=by
  rw[<- hnn] at b5;simp only[nodup_cons,mem_cons,not_or] at b5;exact⟨b5.1.1,b5.1.2.1,b5.2.1.1⟩
 refine g_nm<|Zh<|Zd<|ZD<|Zv<|Zc rfl<|ZX<|Yy<|Zb<|Z1<|Ze ⟨by decide,?_⟩;have eb:binop S2 .Add (.lst<|ns.map D.str) (.lst [.str ""])=some (.lst<|(ns++[("":Str)]).map D.str):=by
  show ((if (ns.map D.str).length+1<=line then some (ns.map D.str++[D.str ""]) else none).map D.lst)=_;rw[if_pos (by rw[length_map];show _<=16777216;lia),map_append];rfl
 refine Op.mk eb ?_;refine g_nm<|Zh<|Zd<|ZD<|Zeo<|g_nm<|Zh<|Zd<|JQ ?_;walk_at "go";have hlS:r<S2.length:=by lia
 refine ZP wt (b1.gr Gr.one) (by lia) (by lia) λ mm S3 c1 c2 c3 c4 c5=>?_;have hS3:S3[S2.length]?=some (.dt []):=(c2.get (by lia) zN);have hl3:S3.length=S2.length+1:=by rw[c3];simp
 have hfr:Fr r S S3:=⟨by lia,λ m hm hne=>by rw[c2.2 m (by rw[length_append];lia) hne,getElem?_append_left (by lia),b2.2 m (by lia) hne,a2.2 m hm hne]⟩
 refine⟨mm,λ i e2 Sx=>i<=mm.toNat/\Pk Sx r/\Fr r S Sx/\Sx.length=S2.length+1/\(∃ kvs,Sx[S2.length]?=some (.dt kvs)/\Kv ns q f kvs/\(kvs.map (·.1)).Nodup/\kvs.length<=i)/\∃ t1 t2 t3,e2=[some<|.ref r,some<|.int more,some<|.int most,some<|.lst<|ns.map D.str,some<|.lst<|(ns++[("":Str)]).map D.str,some<|.ref S2.length,t1,t2,t3,none],rfl,by lia,by lia,⟨by lia,c1,hfr,hl3,⟨[],hS3,Kv.nil,by simp,by simp⟩,none,none,none,rfl⟩,?_,?_⟩
 ·rintro i e2 Sx hi ⟨d1,d2,d3,d4,⟨kvs,d5,d6,d7,d8⟩,t1,t2,t3,rfl⟩;have hlen1:(0:Int)<(((ns++[("":Str)]).map D.str).length:Int):=by rw[length_map,length_append];show (0:Int)<((ns.length+1:Nat):Int);lia
  have hlen2:(0:Int)<((ns.map D.str).length:Int):=by rw[length_map];lia
  have hle1:(((ns++[("":Str)]).map D.str).length:Int)<=1000:=by simp;lia
  have hle2:((ns.map D.str).length:Int)<=1000:=by rw[length_map];lia
  walk_at "go";refine ZP wt d2 hlen1 hle1 λ p1 Sa e1 e2 e3 e4 e5=>?_;obtain⟨l,hl,al⟩:=WG e4 e5;refine ZK al ?_;walk_at "go";refine ZP wt e1 hlen2 hle2 λ p2 Sb f1 f2 f3 f4 f5=>?_;obtain⟨o,ho,ao⟩:=WG f4 f5;refine ZK ao ?_;walk_at "go";refine ZP wt f1 hlen1 hle1 λ p3 Sc g1 g2 g3 g4 g5=>?_;obtain⟨rr,hrr,ar⟩:=WG g4 g5;refine ZK ar ?_;walk_at "go";refine YB (by show 2+1<=16777216;decide) ?_
  walk_at "go";refine ZP wt g1 hlen2 hle2 λ p4 Sd i1 i2 i3 i4 i5=>?_;obtain⟨n,hn,an⟩:=WG i4 i5;refine ZK an ?_;refine g_nm<|Zh<|Zd<|Zk<|Zy<|Zb<|Zw<|Zc rfl<|Zg<|ZK n0 ?_;refine Zb<|Zw<|Zc rfl<|Zg<|ZK n2 ?_;walk_at "go";refine ZbG wt ?_;have hsd:Sd[S2.length]?=some (.dt kvs):=i2.get (by lia)<|g2.get (by lia)<|f2.get (by lia)<|e2.get (by lia) d5;have hld:Sd.length=S2.length+1:=by lia
  have hfd:Fr r S Sd:=d3.trans<|e2.trans<|f2.trans<|g2.trans i2;refine t_bl ?_;cases hc:rowC q f l o rr n with
  | false=>
   walk_at "go";exact⟨by lia,i1,hfd,hld,⟨kvs,hsd,d6,d7,by lia⟩,_,_,_,rfl⟩
  | true=>
   refine two_t ?_;refine Zd<|ZD<|Zc rfl<|ZhJ<|Zc rfl<|Zc rfl ⟨_,[.str l,.str o,.str rr],kvs,[.inr l,.inr o,.inr rr],rfl,rfl,hsd,⟨rfl,by show _<16777216;lia⟩,rfl,?_⟩
   walk_at "go";have side:∀ x,x∈ns++[("":Str)]->x=""\/x∈ns:=λ x hx=>by
    rcases List.mem_append.1 hx with hx | hx
    ·exact .inr hx
    ·exact .inl (by simpa using hx)
   refine⟨by lia,?_,?_,by rw[List.length_set];exact hld,⟨_,getElem?_set_self (by lia),d6.put ⟨l,o,rr,n,rfl,side l hl,ho,side rr hrr,hn,hc⟩,ZbH d7,by have:=Zex kvs [Key.inr l,.inr o,.inr rr] (.str n);lia⟩,_,_,_,rfl⟩
   ·obtain⟨a,b,c,h1,h2⟩:=i1;exact⟨a,b,c,by rw[getElem?_set_ne (by lia)];exact h1,h2⟩
   ·refine⟨by rw[List.length_set];exact hfd.1,λ m hm hne=>?_⟩
    rw[getElem?_set_ne (by lia)];exact hfd.2 m hm hne
 ·rintro e2 Sx ⟨d1,d2,d3,d4,⟨kvs,d5,⟨rs,k1,k2,k3⟩,d7,d8⟩,t1,t2,t3,rfl⟩;have hkl:kvs.length=rs.length:=by have:=congrArg List.length k1;simpa using this
  refine Zh<|Zd<|ZD<|Yz<|Zb<|ZX<|qv<|Zb<|ZX ?_;refine ZcA gR (λ e=>∃ t,e=[none,t,some<|.ref S2.length]) rfl d5 (by lia) ⟨none,rfl⟩ ?_ ?_
  ·rintro kv hkv e ⟨t,rfl⟩;refine⟨⟨_,rfl⟩,?_⟩;have h3:(kv.1.map unkey).length=3/\Z6 (kv.1.map unkey)=some kv.1:=by
    have hm:kv.1∈kvs.map (·.1):=List.mem_map.2 ⟨kv,hkv,rfl⟩;rw[k2] at hm;obtain⟨row,hrow,e⟩:=List.mem_map.1 hm;obtain⟨l,o,r',n,rfl,_⟩:=(k3 row hrow).ex;rw[<- e];exact⟨rfl,rfl⟩
   have hv:valD kvs kv.1=some kv.2:=by
    clear k1 k2 d8 d5 hkl
    induction kvs with
    |nil=>cases hkv
    | cons x xs ih=>
     unfold valD;rw[find?_cons];rw[map_cons,nodup_cons] at d7
     rcases List.mem_cons.1 hkv with rfl | hkv
     ·simp
     ·have hne:x.1≠kv.1:=λ e=>d7.1 (by rw[e];exact List.mem_map.2 ⟨kv,hkv,rfl⟩)
      rw[oAh hne];exact ih d7.2 hkv
   refine Zv<|Zc rfl<|ZG<|Zb<|Zes<|Zc rfl<|Zc rfl ⟨_,kvs,kv.1,kv.2,rfl,h3.1,?_,h3.2,hv,Ze ⟨by show 1<=16777216;decide,?_⟩⟩
   ·show (match (Sx.set S2.length<|.dtf kvs)[S2.length]? with
     |some (.dt kvs)=>some kvs
     |some (.dtf kvs)=>some kvs
     |_=>none)=_
    rw[getElem?_set_self (by lia)]
   ·refine YB (by rw[h3.1];show 3+1<=16777216;decide) ?_
    exact⟨rfl,rfl⟩
  ·refine Ze ?_;rw[k1];have hne:∀ row∈rs,row≠[]:=λ row hrow=>by
    obtain⟨l,o,r',n,rfl,_⟩:=(k3 row hrow).ex;exact λ z=>nomatch z
   refine⟨_,zd hne (by lia),?_⟩;refine Ze ?_;refine Us (d:=.tup<|(ZH rs).map rowD) rfl ?_;refine g_nm<|Zh<|Zd<|ZY<|ZG<|Zb<|Z1<|Zb<|Zw<|Zc rfl<|Zg<|ZK n0 ?_;refine Zb<|Zw<|Zc rfl<|Zg<|ZK n1 ?_;refine Zb<|Zw<|Zc rfl<|Zg<|ZK n2 ?_;refine Zb<|Zc rfl<|Ze ⟨by show 5<=16777216;decide,?_⟩
   walk_at "go";have hnd:(rs.map (·.take 3)).Nodup:=by
    rw[k2] at d7;have e:(rs.map λ row=>(row.take 3).map Key.inr)=(rs.map (·.take 3)).map (·.map Key.inr):=by rw[map_map];rfl
    rw[e] at d7;unfold List.Nodup at d7 ⊢;rw[List.pairwise_map] at d7;exact List.Pairwise.imp (λ h e=>h<|by rw[e]) d7
   exact kk q s f (ZH rs) Sx (ZhM b6 hns.2 hq hs hf hd.1 hd.2.1 hd.2.2 k3 hnd<|by lia) d2 d3
end
section
variable {T:Tab}{W k:Nat}{S:Sto}{P:D->Sto->Prop}{PD:D->Prop}
theorem Zgk(h:ZI (tabOf q s f rows)=true):(q≠s/\q≠f/\s≠f)/\isN (.str q)=true/\isN (.str s)=true/\isN (.str f)=true/\(∀ row∈rows,∃ l o r n:Str,row=[l,o,r,n]/\isNb (.str l)=true/\isN (.str o)=true/\isNb (.str r)=true/\isN (.str n)=true/\rowC q f l o r n=true)/\rising (rows.map rowD)=true:=by
 have h:(isN (.str q)&&(isN (.str s)&&(isN (.str f)&&(decide (("table":Str)="table")&&(tabC q s f&&((rows.map rowD).all (Zq q f)&&rising (rows.map rowD)))))))=true:=h;simp only[and_eq_true] at h;obtain⟨h1,h2,h3,_,h4,h5,h6⟩:=h;unfold tabC at h4;simp only[not_eq_true',Bool.or_eq_false_iff,decide_eq_false_iff_not] at h4;refine⟨h4,h1,h2,h3,λ row hr=>?_,h6⟩;have h:=List.all_eq_true.1 h5 (rowD row)<|List.mem_map.2 ⟨row,hr,rfl⟩;obtain⟨l,o,r,n,e⟩:=U6 h;rw[e] at h;have e2:row.map D.str=[l,o,r,n].map D.str:=D.tup.inj e;have e3:row=[l,o,r,n]:=by
  have:=congrArg ZB e2;rw[strs_map,strs_map] at this;exact oAk this
 have h:(isNb (.str l)&&(isN (.str o)&&(isNb (.str r)&&(isN (.str n)&&rowC q f l o r n))))=true:=h;simp only[and_eq_true] at h;exact⟨l,o,r,n,e3,h⟩
end
end LW
namespace LK
open PySem L2 PF LZ LW
def R4(row:List Str):Prop:=∃ l o r n:Str,row=[l,o,r,n]
theorem Zdd{α:Type}[DecidableEq α]:∀ (xs acc:List α),(xs.foldl SY.dd1 acc).length<=acc.length+xs.length
 |[],acc=>oAl _
 | x::xs,acc=>by
  have h1:=Zdd xs<|SY.dd1 acc x;have h2:=SY.JL acc x;rw[foldl_cons,length_cons];omega
theorem ZbJ{α:Type}[DecidableEq α]:∀ (xs acc:List α),(xs.foldl SY.dd1 acc).length=acc.length+xs.length↔xs.Nodup/\∀ x∈xs,x∉acc
 |[],acc=>by simp
 | x::xs,acc=>by
  rw[foldl_cons,length_cons,nodup_cons];by_cases h:x∈acc
  ·have e:SY.dd1 acc x=acc:=by unfold SY.dd1;rw[if_pos h]
   rw[e];have h1:=Zdd xs acc;exact⟨λ z=>by omega,λ z=>absurd h<|z.2 x<|oAn ..⟩
  ·have e:SY.dd1 acc x=acc++[x]:=by unfold SY.dd1;rw[if_neg h]
   rw[e];have ih:=ZbJ xs<|acc++[x];rw[length_append,List.length_singleton] at ih;constructor
   ·intro z;obtain⟨h1,h2⟩:=ih.1 (by omega);refine⟨⟨λ hx=>h2 x hx (by simp),h1⟩,λ y hy=>?_⟩
    rcases List.mem_cons.1 hy with rfl | hy
    ·exact h
    ·exact λ hz=>h2 y hy<|mem_append_left _ hz
   ·rintro⟨⟨h1,h2⟩,h3⟩;have:=ih.2 ⟨h2,λ y hy hz=>by
     rcases List.mem_append.1 hz with hz | hz
     ·exact h3 y (oAm _ hy) hz
     ·rw[List.mem_singleton.1 hz] at hy;exact h1 hy⟩
    omega
theorem Zey{α:Type}[DecidableEq α](xs:List α):(SY.ddT xs).length=xs.length↔xs.Nodup:=by
 have:=ZbJ xs [];unfold SY.ddT;rw[length_nil,zero_add] at this;rw[this];exact⟨λ h=>h.1,λ h=>⟨h,λ x _ hx=>nomatch hx⟩⟩
theorem ZcJ{rs:List (List Str)}(h:rs.Pairwise λ a b=>TS.lexB b a=false):ZH rs=rs:=
 List.Perm.eq_of_pairwise (λ a b _ _ h1 h2=>TS.JK h2 h1) (Ye rs) h<|Yt rs
theorem zR:∀ rs:List (List Str),(∀ row∈rs,R4 row)->(rs.map (·.take 3)).Nodup->(rs.Pairwise λ a b=>TS.lexB b a=false)->rising (rs.map rowD)=true
 |[],_,_,_=>rfl
 |[_],_,_,_=>rfl
 | x::y::rs,h,hn,hs=>by
  obtain⟨l,o,r,n,rfl⟩:=h x<|oAn ..;obtain⟨l',o',r',n',rfl⟩:=h y<|oAm _<|oAn ..;rw[map_cons] at hn;rw[nodup_cons] at hn;rw[pairwise_cons] at hs;rw[map_cons,map_cons,rising,and_eq_true];refine⟨lex3 (n:=n) (n':=n') (hs.1 _<|oAn ..)<|λ e=>hn.1 ?_,?_⟩
  ·rw[map_cons];exact List.mem_cons.2<|.inl e
  ·have:=zR ([l',o',r',n']::rs) (λ z hz=>h z<|oAm _ hz) hn.2 hs.2;rw[map_cons] at this;exact this
theorem lex4{a b c n a' b' c' n':Str}(h:TS.lexB [a,b,c] [a',b',c']=true):TS.lexB [a',b',c',n'] [a,b,c,n]=false:=by
 cases e:TS.lexB [a',b',c',n'] [a,b,c,n] with
 |false=>rfl
 | true=>
  by_cases hne:[a',b',c']=[a,b,c]
  ·rw[hne,TS.Y4] at h;cases h
  ·have ns:TS.lexB [a,b,c,n] [a',b',c',n']=false:=by
    cases e2:TS.lexB [a,b,c,n] [a',b',c',n'] with
    |false=>rfl
    |true=>have:=TS.Y8 e e2;rw[TS.Y4] at this;cases this
   have:=lex3 ns hne;have:=TS.Y8 h this;rw[TS.Y4] at this;cases this
theorem Wg:∀ rs:List (List Str),(∀ row∈rs,R4 row)->rising (rs.map rowD)=true->(rs.Pairwise λ a b=>TS.lexB (a.take 3) (b.take 3)=true)
 |[],_,_=>.nil
 |[x],_,_=>.cons (λ y hy=>nomatch hy) .nil
 | x::y::rs,h,hr=>by
  obtain⟨l,o,r,n,rfl⟩:=h x<|oAn ..;obtain⟨l',o',r',n',rfl⟩:=h y<|oAm _<|oAn ..;rw[map_cons,map_cons,rising,and_eq_true] at hr;have ih:=Wg ([l',o',r',n']::rs) (λ z hz=>h z<|oAm _ hz) (by rw[map_cons];exact hr.2)
  have e1:TS.lexB [l,o,r] [l',o',r']=true:=hr.1;refine .cons (λ z hz=>?_) ih
  rcases List.mem_cons.1 hz with rfl | hz
  ·exact e1
  ·exact TS.Y8 e1<|(List.pairwise_cons.1 ih).1 z hz
theorem ZcK{rs:List (List Str)}(h:∀ row∈rs,R4 row):rising (rs.map rowD)=(decide (rs=ZH rs)&&decide ((SY.ddT (rs.map (·.take 3))).length=rs.length)):=by
 rw[Bool.eq_iff_iff,and_eq_true,decide_eq_true_iff,decide_eq_true_iff];have e:=Zey (rs.map (·.take 3));rw[length_map] at e;rw[e];constructor
 ·intro hr;have p:=Wg rs h hr;refine⟨(ZcJ<|p.imp_of_mem λ {a b} ha hb q=>?_).symm,?_⟩
  ·obtain⟨l,o,r,n,rfl⟩:=h a ha;obtain⟨l',o',r',n',rfl⟩:=h b hb;exact lex4 q
  ·rw[List.nodup_iff_pairwise_ne,List.pairwise_map];exact p.imp λ {a b} q z=>by rw[z,TS.Y4] at q;cases q
 ·rintro⟨h1,h2⟩;have:=Ye rs;rw[<- h1] at this;exact zR rs h h2 this
def JF(row:List Str):Prop:=∀ x∈row,PyData.strOk x=true
theorem qB{x:Str}(h:isN (.str x)=true):PyData.strOk x=true:=by
 have h':(decide (1<=x.length)&&decide (x.length<=8)&&x.cps.toList.all λ c=>decide (97<=c)&&decide (c<=122))=true:=h;rw[and_eq_true] at h';unfold PyData.strOk;rw[<- Array.all_toList];refine List.all_eq_true.2 λ c hc=>?_;have:=List.all_eq_true.1 h'.2 c hc;rw[and_eq_true] at this;have:=oAj this.2;exact oAi (by omega)
theorem zS{x:Str}(h:isNb (.str x)=true):PyData.strOk x=true:=by
 have h':(decide (x="")||isN (.str x))=true:=h;rw[or_eq_true] at h'
 rcases h' with h' | h'
 ·rw[oAj h'];decide +kernel
 ·exact qB h'
theorem Wh:∀ l:List Str,Yn (l.map D.str)=true
 |[]=>by rw[map_nil,Yn]
 |x::l=>by rw[map_cons,Yn,Wh l,show YQ (.str x)=true by rw[YQ]<;>nofun];rfl
theorem qC:∀ l:List Str,JF l->PyData.canLayAll0 (toPs (l.map D.str))=true/\PyData.depthAll (toPs (l.map D.str))<=1
 |[],_=>by rw[map_nil,toPs];exact⟨by simp only[PyData.canLayAll0],by simp[PyData.depthAll]⟩
 | x::l,h=>by
  have ih:=qC l λ y hy=>h y<|oAm _ hy;have hx:=h x<|oAn ..;rw[map_cons,toPs,toP,PyData.canLayAll0,PyData.canLay0,hx,ih.1,PyData.depthAll];exact⟨rfl,by simp only[PyData.depth];omega⟩
theorem Wi:∀ a:List (List Str),Yn (a.map rowD)=true
 |[]=>by rw[map_nil,Yn]
 |l::a=>by rw[map_cons,Yn,rowD,YQ,Wh l,Wi a];rfl
theorem qD:∀ a:List (List Str),(∀ l∈a,JF l)->PyData.canLayAll0 (toPs (a.map rowD))=true/\PyData.depthAll (toPs (a.map rowD))<=2
 |[],_=>by rw[map_nil,toPs];exact⟨by simp only[PyData.canLayAll0],by simp[PyData.depthAll]⟩
 | l::a,h=>by
  have ih:=qD a λ y hy=>h y<|oAm _ hy;have hx:=qC l<|h l<|oAn ..;rw[map_cons,toPs,rowD,toP,PyData.canLayAll0,PyData.canLay0,hx.1,ih.1,PyData.depthAll];exact⟨rfl,by simp only[PyData.depth];omega⟩
theorem UE{a:List (List Str)}(h:∀ l∈a,JF l):okD (.lst (a.map rowD))=true:=by
 obtain⟨h1,h2⟩:=qD a h;unfold okD;rw[YQ,Wi,toP,PyData.canLay0,h1,and_eq_true];exact⟨rfl,oAi<|by simp only[PyData.depth];omega⟩
theorem qE:∀ l m:List Str,PyData.eqvAll (toPs (l.map D.str)) (toPs (m.map D.str))=decide (l=m)
 |[],[]=>by rw[map_nil,toPs,PyData.eqvAll];rfl
 |[],y::m=>by rw[map_nil,map_cons,toPs,toPs,PyData.eqvAll];simp
 |x::l,[]=>by rw[map_nil,map_cons,toPs,toPs,PyData.eqvAll];simp
 | x::l,y::m=>by
  rw[map_cons,map_cons,toPs,toPs,toP,toP,PyData.eqvAll,PyData.eqv,qE l m,Bool.eq_iff_iff];simp
theorem qF:∀ a b:List (List Str),PyData.eqvAll (toPs (a.map rowD)) (toPs (b.map rowD))=decide (a=b)
 |[],[]=>by rw[map_nil,toPs,PyData.eqvAll];rfl
 |[],y::m=>by rw[map_nil,map_cons,toPs,toPs,PyData.eqvAll];simp
 |x::l,[]=>by rw[map_nil,map_cons,toPs,toPs,PyData.eqvAll];simp
 | x::l,y::m=>by
  rw[map_cons,map_cons,toPs,toPs,rowD,rowD,toP,toP,PyData.eqvAll,PyData.eqv,qE x y,qF l m,Bool.eq_iff_iff];simp
theorem ZhN{a b:List (List Str)}{PB:Bool->Prop}(ha:∀ l∈a,JF l)(hb:∀ l∈b,JF l)(k:PB (decide (a=b))):Op (cmpop S .Eq (.lst (a.map rowD)) (.lst (b.map rowD))) PB:=by
 refine⟨decide<|a=b,?_,k⟩;show eqD S _ _=_;unfold eqD;rw[show Vm (.lst<|a.map rowD) (.lst<|b.map rowD)=false from rfl,UE ha,UE hb,toP,toP,PyData.eqv,qF];rfl
theorem WH{ds:List D}{PB:Bool->Prop}(k:PB ds.isEmpty):Op (cmpop S .Eq (.tup ds) (.tup [])) PB:=by
 refine⟨ds.isEmpty,?_,k⟩;show eqD S _ _=_;unfold eqD;rw[show Vm (.tup ds) (.tup [])=false from rfl,show empD (.tup ds) (.tup [])=true from rfl];rw[if_neg (by decide)];have e:decide (D.tup ds=.tup [])=ds.isEmpty:=by cases ds<;>simp
 split
 ·rw[toP,toP,PyData.eqv,toPs];cases ds with
  |nil=>rw[toPs,PyData.eqvAll];rfl
  |cons d ds=>rw[toPs,PyData.eqvAll];rfl
 ·rw[if_pos rfl,e]
theorem ZhO{ds:List D}{PB:Bool->Prop}(k:PB (!ds.isEmpty)):Op (cmpop S .NotEq (.tup ds) (.tup [])) PB:=by
 obtain⟨b,h1,h2⟩:=WH (S:=S) (ds:=ds) (PB:=λ b=>b=ds.isEmpty) rfl;refine⟨!ds.isEmpty,?_,k⟩;show (eqD S _ _).map not=_;rw[show eqD S (.tup ds) (.tup [])=some b from h1,h2];rfl
theorem three{q s f:Str}:decide (((SX.ddS [q,s,f]).length:Int)<3)=!tabC q s f:=by
 unfold tabC SX.ddS;simp only[foldl_cons,List.foldl_nil,SX.dd1];by_cases h1:q=s
 ·subst h1;by_cases h2:q=f
  ·subst h2;simp
  ·simp[Ne.symm h2]
 ·by_cases h2:q=f
  ·subst h2;simp[Ne.symm h1]
  ·by_cases h3:s=f
   ·subst h3;simp[Ne.symm h1,h1]
   ·simp[Ne.symm h1,Ne.symm h2,Ne.symm h3,h1,h2,h3]
theorem ZcL{rs:List (List Str)}(h:∀ row∈rs,row≠[])(hl:rs.length<64):bltL S .sorted [.tup (rs.map rowD)]=some ((ZH rs).map rowD):=by
 show (Yg<|rs.map rowD).bind _=_;rw[J6 _ h];show (if rs.length<64 then _ else _)=_;rw[if_pos hl]
noncomputable def VF:FI:=⟨1,1,(.c (.q (.or (.not (.isi (.v 0) "str")) (.not (.cmp2 .LtE .LtE (.i 1) (.l .len (.c (.v 0) .n)) (.i 8)))) (.c (.r (.bl false)) .n) .n) (.c (.r (.l .all (.c (.lv (.comp 2 [] (.m 1) (.seq (.v 0)) .n (.cmp2 .LtE .LtE (.s "a") (.v 1) (.s "z")))) .n))) .n))⟩
noncomputable def WI:FI:=⟨3,4,(.c (.q (.or (.not (.isi (.v 2) "tuple")) (.p .NotEq (.l .len (.c (.v 2) .n)) (.i 4))) (.c (.r (.bl false)) .n) .n) (.c (.fr (.m 3) (.seq (.t (.c (.u (.v 2) (.i 0)) (.c (.u (.v 2) (.i 2)) .n)))) (.c (.q (.and (.not (.f "_law_is_name" (.c (.v 3) .n))) (.not (.and (.isi (.v 3) "str") (.p .Eq (.v 3) (.s ""))))) (.c (.r (.bl false)) .n) .n) .n)) (.c (.q (.or (.not (.f "_law_is_name" (.c (.u (.v 2) (.i 1)) .n))) (.not (.f "_law_is_name" (.c (.u (.v 2) (.i 3)) .n)))) (.c (.r (.bl false)) .n) .n) (.c (.r (.f "_law_may" (.c (.v 0) (.c (.v 1) (.c (.slc (.v 2) .no (.yes (.i 3))) (.c (.u (.v 2) (.i 3)) .n)))))) .n))))⟩
noncomputable def WJ:FI:=⟨1,3,(.c (.q (.or (.not (.isi (.v 0) "tuple")) (.or (.p .NotEq (.l .len (.c (.v 0) .n)) (.i 5)) (.not (.isi (.u (.v 0) (.i 0)) "str")))) (.c (.r (.bl false)) .n) .n) (.c (.q (.p .NotEq (.u (.v 0) (.i 0)) (.s "table")) (.c (.r (.bl false)) .n) .n) (.c (.q (.or (.not (.l .all (.c (.lv (.comp 2 [] (.m 1) (.seq (.slc (.v 0) (.yes (.i 1)) (.yes (.i 4)))) .n (.f "_law_is_name" (.c (.v 1) .n)))) .n))) (.p .Lt (.slX (.slc (.v 0) (.yes (.i 1)) (.yes (.i 4)))) (.i 3))) (.c (.r (.bl false)) .n) .n) (.c (.a (.m 1) (.u (.v 0) (.i 4))) (.c (.q (.or (.not (.isi (.v 1) "tuple")) (.not (.l .all (.c (.lv (.comp 2 [0] (.m 1) (.seq (.v 1)) .n (.f "_law_is_row" (.c (.u (.v 2) (.i 1)) (.c (.u (.v 2) (.i 3)) (.c (.v 1) .n)))))) .n)))) (.c (.r (.bl false)) .n) .n) (.c (.a (.m 2) (.lv (.comp 2 [] (.m 1) (.seq (.v 1)) .n (.slc (.v 1) .no (.yes (.i 3)))))) (.c (.r (.and (.p .Eq (.lv (.l .list (.c (.v 1) .n))) (.lv (.l .sorted (.c (.v 1) .n)))) (.p .Eq (.slT (.v 2)) (.l .len (.c (.v 2) .n))))) .n)))))))⟩
noncomputable def Ut:FI:=⟨2,2,(.c (.q (.or (.p .Eq (.v 1) (.i 0)) (.or (.not (.isi (.v 0) "tuple")) (.or (.p .Eq (.v 0) (.t .n)) (.not (.isi (.u (.v 0) (.i 0)) "str"))))) (.c (.r (.bl false)) .n) .n) (.c (.q (.p .Eq (.u (.v 0) (.i 0)) (.s "table")) (.c (.r (.f "_law_is_table" (.c (.v 0) .n))) .n) .n) (.c (.q (.p .Eq (.u (.v 0) (.i 0)) (.s "mirrored")) (.c (.r (.and (.p .Eq (.l .len (.c (.v 0) .n)) (.i 2)) (.f "_law_is_machine" (.c (.u (.v 0) (.i 1)) (.c (.b .Sub (.v 1) (.i 1)) .n))))) .n) .n) (.c (.q (.p .NotEq (.l .len (.c (.v 0) .n)) (.i 3)) (.c (.r (.bl false)) .n) .n) (.c (.q (.p .In (.u (.v 0) (.i 0)) (.t (.c (.s "both") (.c (.s "either") .n)))) (.c (.r (.and (.f "_law_is_machine" (.c (.u (.v 0) (.i 1)) (.c (.b .Sub (.v 1) (.i 1)) .n))) (.f "_law_is_machine" (.c (.u (.v 0) (.i 2)) (.c (.b .Sub (.v 1) (.i 1)) .n))))) .n) .n) (.c (.q (.or (.p .NotIn (.u (.v 0) (.i 0)) (.t (.c (.s "later") (.c (.s "slowed") .n)))) (.or (.not (.isi (.u (.v 0) (.i 1)) "int")) (.isi (.u (.v 0) (.i 1)) "bool"))) (.c (.r (.bl false)) .n) .n) (.c (.r (.and (.cmp2 .LtE .LtE (.l .int (.c (.p .Eq (.u (.v 0) (.i 0)) (.s "slowed")) .n)) (.u (.v 0) (.i 1)) (.i 60)) (.f "_law_is_machine" (.c (.u (.v 0) (.i 2)) (.c (.b .Sub (.v 1) (.i 1)) .n))))) .n)))))))⟩
structure Lt(T:Tab):Prop where
 wt:Wt T
 na:T.lookup ("_law_is_name":Str)=some VF
 ro:T.lookup ("_law_is_row":Str)=some WI
 ta:T.lookup ("_law_is_table":Str)=some WJ
 ma:T.lookup ("_law_is_machine":Str)=some Ut
section
variable {T:Tab}{W k:Nat}{S:Sto}{P:D->Sto->Prop}{PD:D->Prop}
theorem J7(lt:Lt T){d:D}(h:vd S d=true)(kk:P (.bl (isN d)) S):Ev ((Za T W (k+1)).fn "_law_is_name" [d] S) P:=by
 refine Zu lt.na rfl ?_;dsimp only[VF];walk_at "al";walk_at "st";refine Zk ?_;refine ZW<|Z2 ?_;walk_at "go";refine YE h ?_;by_cases hs:∃ z,d=.str z
 ·obtain⟨z,rfl⟩:=hs;rw[show isS (.str z)=true from rfl];walk_at "go";have hz:z.length<1000000:=oAj h;have hsl:((sgn z).map D.str).length<=1000000:=by
   unfold sgn;rw[length_map,length_map];have:z.cps.toList.length=z.length:=by simp[Str.length]
   lia
  refine Jk ?_;walk_at "go";refine Us (len_str (by show _<=16777216;lia)) ?_
  walk_at "go";refine two_of (λ h1=>?_)<|λ h1=>?_
  ·walk_at "go";by_cases h2:(z.length:Int)<=8
   ·rw[oAi h2];walk_at "go";refine Y1 (ds:=(sgn z).map D.str) (λ d=>.bl<|sgB d) (λ e=>∃ y0 y1,e=[y0,y1]) rfl hsl ⟨_,_,rfl⟩ ?_ ?_
    ·rintro d hd e2 ⟨y0,y1,rfl⟩;obtain⟨x,hx,rfl⟩:=List.mem_map.1 hd;obtain⟨c,_,rfl⟩:=List.mem_map.1 hx;refine⟨⟨_,_,rfl⟩,?_⟩;show Ev (ev _ _ [y0,some<|.str ⟨#[c]⟩] S) _;refine Jk ?_;walk_at "go";refine WA ?_;rw[Zc9];refine two_of (λ h3=>?_) (λ h3=>?_)
     ·walk_at "go";refine WA ?_;rw[Zda];refine⟨?_,rfl⟩;show D.bl _=D.bl (decide (97<=c)&&decide (c<=122));rw[oAi h3,Bool.true_and]
     ·refine⟨?_,rfl⟩;show D.bl _=D.bl (decide (97<=c)&&decide (c<=122));rw[oAh h3,Bool.false_and]
    ·rw[Zbz];walk_at "go";refine J3 ?_;walk_at "go";have e:isN (.str z)=((z.cps.toList.map λ c=>decide (97<=c)&&decide (c<=122)).all id):=by
      show (decide (1<=z.length)&&decide (z.length<=8)&&_)=_;rw[oAi (by lia:1<=z.length),oAi (by lia:z.length<=8),all_map];rfl
     rw[<- e];exact kk
   ·have e:isN (.str z)=false:=by
     show (decide (1<=z.length)&&decide (z.length<=8)&&_)=_;rw[oAh (by lia:¬ z.length<=8),Bool.and_false];rfl
    rw[e] at kk;rw[oAh h2];walk_at "go";exact kk
  ·have e:isN (.str z)=false:=by
    show (decide (1<=z.length)&&decide (z.length<=8)&&_)=_;rw[oAh (by lia:¬ 1<=z.length)];rfl
   rw[e] at kk;walk_at "go";exact kk
 ·rw[(Y7 hs).1];rw[(Y7 hs).2] at kk;walk_at "go";exact kk
theorem UF{d:D}:isNb d=(isN d||(isS d&&decide (d=.str ""))):=by
 cases d with
 | str z=>
  show (decide (z="")||isN (.str z))=(isN (.str z)||(true&&decide (D.str z=.str "")));rw[Bool.true_and,Bool.or_comm,show decide (D.str z=.str "")=decide (z="") by simp]
 |_=>rfl
theorem Zez(lt:Lt T){d:D}{env:En}{Q:Fl->Prop}(h:vd S d=true)(he:env[3]?=some (some d))(kf:isNb d=false->Q (.rt (.bl false) S))(kt:isNb d=true->Q (.nx env S)) :
  Fo (evSs (Za T W (k+1)) W (.cons (.ifs (.and (.not (.call "_law_is_name" (.cons (.var 3) .nil))) (.not (.and (.isi (.var 3) "str") (.cmp .Eq (.var 3) (.str ""))))) (.cons (.ret (.bl false)) .nil) .nil) .nil) env S) Q:=by
 refine Zd<|Zk<|JP<|Z2 ?_;refine Zy<|Zb<|Zc he<|Ze ?_;refine J7 lt h ?_;cases h1:isN d with
 | true=>
  have e:isNb d=true:=by rw[UF,h1];rfl
  walk_at "go";exact kt e
 | false=>
  walk_at "go";refine Zc he<|YE h ?_;by_cases hs:∃ z,d=.str z
  ·obtain⟨z,rfl⟩:=hs;rw[show isS (.str z)=true from rfl];walk_at "go";refine Zc he<|Z1<|YG ?_;by_cases hz:z=""
   ·have e:isNb (.str z)=true:=by rw[UF,hz];rfl
    rw[oAi hz];walk_at "go";exact kt e
   ·have e:isNb (.str z)=false:=by rw[UF,h1,show decide (D.str z=.str "")=false by simpa using hz];rfl
    rw[oAh hz];walk_at "go";exact kf e
  ·rw[(Y7 hs).1];have e:isNb d=false:=by rw[UF,h1,(Y7 hs).1];rfl
   walk_at "go";exact kf e
theorem four{d:D}(h:wd S d=true):(∃ l o r n,d=.tup [l,o,r,n])\/(isT d=false)\/∃ ds,d=.tup ds/\ds.length≠4:=by
 cases d with
 | tup ds=>
  by_cases z:ds.length=4
  ·match ds,z with
   |[l,o,r,n],_=>exact .inl ⟨l,o,r,n,rfl⟩
  ·exact .inr<|.inr ⟨ds,rfl,z⟩
 |_=>exact .inr<|.inl rfl
theorem zT{d:D}{q f:Str}(h4:¬ ∃ l o r n,d=.tup [l,o,r,n]):Zq q f d=false:=by
 unfold Zq;split
 ·exact absurd ⟨_,_,_,_,rfl⟩ h4
 ·rfl
theorem ZeA(lt:Lt T){d:D}{q f:Str}(h:wd S d=true)(kk:P (.bl (Zq q f d)) S):Ev ((Za T W (k+2)).fn "_law_is_row" [.str q,.str f,d] S) P:=by
 refine Zu lt.ro rfl ?_;dsimp only[WI];walk_at "al";walk_at "st";refine Zk<|ZW<|Z2 ?_;walk_at "go";refine Yu (Zp h) ?_
 rcases four h with ⟨l,o,r,n,rfl⟩ | h4 | ⟨ds,rfl,h4⟩
 ·have hw:=(Yq h).2;have hl:=Zp<|hw l (by simp);have ho:=Zp<|hw o (by simp);have hr:=Zp<|hw r (by simp);have hn:=Zp<|hw n (by simp);rw[show isT (.tup [l,o,r,n])=true from rfl];walk_at "go";replace kk:P (.bl<|isNb l&&(isN o&&(isNb r&&(isN n&&Zdb q f l o r n)))) S:=kk;have go4:isNb l=true->isNb r=true->∀ e3,Fo (evSs (Za T W<|k+1) W (.cons (.ifs (.or (.not<|.call "_law_is_name"<|.cons (.sub (.var 2)<|.int<|1) .nil)<|.not<|.call "_law_is_name"<|.cons (.sub (.var 2)<|.int<|3) .nil) (.cons (.ret<|.bl false) .nil) .nil)<|.cons (.ret<|.call "_law_may"<|.cons (.var 0)<|.cons (.var 1)<|.cons (.slc (.var 2) .no<|.yes<|.int<|3)<|.cons (.sub (.var 2)<|.int<|3) .nil) .nil) [some<|.str q,some<|.str f,some<|.tup [l,o,r,n],e3] S) (finK P):=by
   intro h1 h3 e3;rw[h1,h3,Bool.true_and,Bool.true_and] at kk;refine Zd<|Zk<|ZW<|Z2 ?_;walk_at "go";refine J7 lt ho ?_;cases h2:isN o with
   | false=>
    rw[h2] at kk;walk_at "go";exact kk
   | true=>
    rw[h2,Bool.true_and] at kk;walk_at "go";refine J7 lt hn ?_;cases h5:isN n with
    | false=>
     rw[h5] at kk;walk_at "go";exact kk
    | true=>
     rw[h5,Bool.true_and] at kk;obtain⟨l,rfl⟩:=JR h1;obtain⟨o,rfl⟩:=YF h2;obtain⟨r,rfl⟩:=JR h3;obtain⟨n,rfl⟩:=YF h5;walk_at "go";refine ZbG lt.wt ?_;walk_at "go";exact kk
  rw[show decide ((([l,o,r,n]:List D).length:Int)=4)=true from rfl];walk_at "go";refine Zak [l,r] S rfl (λ i e2 S2=>(∃ y,e2=[some<|.str q,some<|.str f,some<|.tup [l,o,r,n],y])/\S2=S/\(0<i->isNb l=true)/\(1<i->isNb r=true)) ⟨⟨_,rfl⟩,rfl,λ z=>absurd z (by decide),λ z=>absurd z<|by decide⟩ ?_ ?_
  ·rintro i d e2 S2 hd ⟨⟨y,rfl⟩,rfl,h1,h2⟩;refine g_nm ?_;have hv:vd S2 d=true/\(isNb d=false->P (.bl false) S2)/\(isNb d=true->(0<i+1->isNb l=true)/\(1<i+1->isNb r=true)):=by
    match i,hd with
    | 0,hd=>
     cases hd
     exact⟨hl,λ z=>by rw[z] at kk;exact kk,λ z=>⟨λ _=>z,λ z=>absurd z<|by decide⟩⟩
    | 1,hd=>
     cases hd
     exact⟨hr,λ z=>by rw[z,Bool.false_and,Bool.and_false,Bool.and_false] at kk;exact kk,λ z=>⟨λ _=>h1 (by decide),λ _=>z⟩⟩
   refine Zez lt hv.1 rfl (λ z=>?_)<|λ z=>?_
   ·exact hv.2.1 z
   ·exact⟨⟨_,rfl⟩,rfl,hv.2.2 z⟩
  ·rintro e2 S2 ⟨⟨y,rfl⟩,rfl,h1,h2⟩;exact go4 (h1 (by show 0<2;decide)) (h2 (by show 1<2;decide)) _
 ·rw[zT (λ ⟨_,_,_,_,e⟩=>by rw[e] at h4;cases h4)] at kk
  rw[h4];walk_at "go";exact kk
 ·rw[zT (λ ⟨_,_,_,_,e⟩=>by cases e;exact h4 rfl)] at kk
  rw[show isT (.tup ds)=true from rfl];walk_at "go";rw[show decide ((ds.length:Int)=4)=false from oAh (by omega)];walk_at "go";exact kk
theorem five{d:D}:(∃ w q s f r,d=.tup [w,q,s,f,r])\/(isT d=false)\/∃ ds,d=.tup ds/\ds.length≠5:=by
 cases d with
 | tup ds=>
  by_cases z:ds.length=5
  ·match ds,z with
   |[w,q,s,f,r],_=>exact .inl ⟨w,q,s,f,r,rfl⟩
  ·exact .inr<|.inr ⟨ds,rfl,z⟩
 |_=>exact .inr<|.inl rfl
theorem zU{d:D}(h4:¬ ∃ w q s f r,d=.tup [w,q,s,f,r]):ZI d=false:=by
 unfold ZI;split
 ·exact absurd ⟨_,_,_,_,_,rfl⟩ h4
 ·rfl
theorem zV{q f:Str}:∀ {rs:List D},rs.all (Zq q f)=true->∃ ls:List (List Str),rs=ls.map rowD/\∀ row∈ls,R4 row/\JF row
 |[],_=>⟨[],rfl,λ _ h=>nomatch h⟩
 | d::rs,h=>by
  rw[all_cons,and_eq_true] at h;obtain⟨ls,rfl,hl⟩:=zV h.2;obtain⟨l,o,r,n,rfl⟩:=U6 h.1;have h1:(isNb (.str l)&&(isN (.str o)&&(isNb (.str r)&&(isN (.str n)&&rowC q f l o r n))))=true:=h.1;simp only[and_eq_true] at h1;refine⟨[l,o,r,n]::ls,rfl,λ row hr=>?_⟩
  rcases List.mem_cons.1 hr with rfl | hr
  ·refine⟨⟨l,o,r,n,rfl⟩,λ x hx=>?_⟩;simp only[mem_cons,not_mem_nil,or_false] at hx
   rcases hx with rfl | rfl | rfl | rfl
   ·exact zS h1.1
   ·exact qB h1.2.1
   ·exact zS h1.2.2.1
   ·exact qB h1.2.2.2.1
  ·exact hl row hr
theorem ZeB(lt:Lt T){d:D}(h:wd S d=true)(hz:∀ w q s f rs,d=.tup [w,q,s,f,.tup rs]->rs.length<60)(kk:P (.bl (ZI d)) S):Ev ((Za T W (k+3)).fn "_law_is_table" [d] S) P:=by
 refine Zu lt.ta rfl ?_;dsimp only[WJ];walk_at "al";walk_at "st";refine Zk<|ZW<|Z2 ?_;walk_at "go";refine Yu (Zp h) ?_
 rcases five (d:=d) with ⟨w,q,s,f,r,rfl⟩ | h4 | ⟨ds,rfl,h4⟩
 ·have hw:=(Yq h).2;have vw:=Zp<|hw w (by simp);have vq:=Zp<|hw q (by simp);have vs:=Zp<|hw s (by simp);have vf:=Zp<|hw f (by simp);have vr:=hw r (by simp);rw[show isT (.tup [w,q,s,f,r])=true from rfl];walk_at "go";rw[show decide ((([w,q,s,f,r]:List D).length:Int)=5)=true from rfl];walk_at "go";refine YE vw ?_;replace kk:P (.bl<|isN q&&(isN s&&(isN f&&tabD w q s f r))) S:=kk;by_cases hs:∃ z,w=.str z
  ·obtain⟨w,rfl⟩:=hs;rw[show isS (.str w)=true from rfl];walk_at "go";refine Zk ?_;walk_at "go";refine WB ?_;by_cases hwt:w="table"
   ·rw[oAi hwt];walk_at "go";refine Zk<|ZW<|Z2 ?_;walk_at "go";refine Y1 (ds:=[q,s,f]) (λ d=>.bl<|isN d) (λ e=>∃ y0 y1,e=[y0,y1]) rfl (by show 3<=_;decide) ⟨_,_,rfl⟩ ?_ ?_
    ·rintro d hd e2 ⟨y0,y1,rfl⟩;refine⟨⟨_,_,rfl⟩,?_⟩;show Ev (ev _ _ [y0,some d] S) _;walk_at "go";refine J7 lt ?_ ⟨rfl,rfl⟩;simp only[mem_cons,not_mem_nil,or_false] at hd
     rcases hd with rfl | rfl | rfl
     ·exact vq
     ·exact vs
     ·exact vf
    ·rw[show (([q,s,f]:List D).map λ d=>D.bl<|isN d)=([isN q,isN s,isN f]).map D.bl from rfl];walk_at "go";have ea:(((λ x:List Bool=>isN q::x)<|(λ x:List Bool=>isN s::x)<|(λ x:List Bool=>isN f::x) []).all id)=(isN q&&(isN s&&isN f)):=by
      show (isN q&&(isN s&&(isN f&&true)))=_;rw[Bool.and_true]
     rw[ea];cases hN:(isN q&&(isN s&&isN f)) with
     | false=>
      have e:(isN q&&(isN s&&(isN f&&tabD (.str w) q s f r)))=false:=by
       cases h1:isN q<;>cases h2:isN s<;>cases h3:isN f<;>rw[h1,h2,h3] at hN<;>first | rfl | cases hN
      rw[e] at kk;walk_at "go";exact kk
     | true=>
      rw[and_eq_true,and_eq_true] at hN;obtain⟨h1,h2,h3⟩:=hN;obtain⟨q,rfl⟩:=YF h1;obtain⟨s,rfl⟩:=YF h2;obtain⟨f,rfl⟩:=YF h3;rw[h1,h2,h3,Bool.true_and,Bool.true_and,Bool.true_and] at kk;replace kk:P (.bl<|decide (w="table")&&(tabC q s f&&Y2 q f r)) S:=kk;rw[oAi hwt,Bool.true_and] at kk;walk_at "go";refine Zgg ?_;walk_at "go";refine⟨_,[q,s,f],rfl,rfl,by show 3 < _;decide,?_⟩
      walk_at "go";rw[three];cases hc:tabC q s f with
      | false=>
       rw[hc] at kk;walk_at "go";exact kk
      | true=>
       rw[hc,Bool.true_and] at kk;walk_at "go";refine Zk<|ZW<|Z2 ?_;walk_at "go";refine Yu (Zp vr) ?_;by_cases ht:∃ rs,r=.tup rs
       ·obtain⟨rs,rfl⟩:=ht;obtain⟨hl,hw2⟩:=Yq vr;have hz':=hz _ _ _ _ rs rfl;replace kk:P (.bl<|rs.all (Zq q f)&&rising rs) S:=kk;rw[show isT (.tup rs)=true from rfl];walk_at "go";refine Y1 (ds:=rs) (λ d=>.bl<|Zq q f d) (λ e=>∃ y0 y1,e=[y0,y1,some<|.tup [.str w,.str q,.str s,.str f,.tup rs]]) rfl (by lia) ⟨_,_,rfl⟩ ?_ ?_
        ·rintro d hd e2 ⟨y0,y1,rfl⟩;refine⟨⟨_,_,rfl⟩,?_⟩;show Ev (ev _ _ [y0,some d,some<|.tup [.str w,.str q,.str s,.str f,.tup rs]] S) _;walk_at "go";exact ZeA lt (hw2 d hd) ⟨rfl,rfl⟩
        ·rw[show (rs.map λ d=>D.bl<|Zq q f d)=(rs.map<|Zq q f).map D.bl by rw[map_map];rfl]
         walk_at "go";refine J3 ?_;have ea:((rs.map<|Zq q f).all id)=rs.all (Zq q f):=by rw[all_map];rfl
         rw[ea];cases hr:rs.all (Zq q f) with
         | false=>
          rw[hr] at kk;walk_at "go";exact kk
         | true=>
          rw[hr,Bool.true_and] at kk;obtain⟨ls,rfl,hls⟩:=zV hr;rw[ZcK λ row h=>(hls row h).1] at kk;rw[length_map] at hz';have hne:∀ row∈ls,row≠[]:=λ row h=>by obtain⟨l,o,r,n,rfl⟩:=(hls row h).1;exact cons_ne_nil _ _
          have hok:∀ row∈ls,JF row:=λ row h=>(hls row h).2;have hso:∀ row∈ZH ls,JF row:=λ row h=>hok row<|(Yt ls).mem_iff.1 h;walk_at "go";refine Y1 (ds:=ls.map rowD) (λ d=>.tup<|((match d with | .tup ds=>ds | _=>[])).take 3) (λ e=>∃ y0 y1,e=[y0,y1]) rfl (by rw[length_map];lia) ⟨_,_,rfl⟩ ?_ ?_
          ·rintro d hd e2 ⟨y0,y1,rfl⟩;obtain⟨row,hrow,rfl⟩:=List.mem_map.1 hd;obtain⟨l,o,r,n,rfl⟩:=(hls row hrow).1;refine⟨⟨_,_,rfl⟩,?_⟩;show Ev (ev _ _ [y0,some<|.tup [.str l,.str o,.str r,.str n]] S) _;walk_at "go";exact⟨rfl,rfl⟩
          ·have ek:((ls.map rowD).map λ d=>D.tup<|((match d with | .tup ds=>ds | _=>[])).take 3)=(ls.map (·.take 3)).map rowD:=by
            rw[map_map,map_map];refine List.map_congr_left λ row _=>?_;show D.tup ((row.map D.str).take 3)=D.tup ((row.take 3).map D.str);rw[List.map_take]
           rw[ek];walk_at "go";refine⟨ls.map rowD,rfl,?_⟩;walk_at "go";refine⟨_,ZcL hne (by omega),?_⟩;walk_at "go";refine ZhN hok hso ?_;cases hb:decide (ls=ZH ls) with
           | false=>
            rw[hb] at kk;walk_at "go";exact kk
           | true=>
            rw[hb,Bool.true_and] at kk;walk_at "go";refine Zgf ?_;walk_at "go";refine⟨_,ls.map (·.take 3),rfl,J6 _<|λ row hr=>?_,by rw[length_map];omega,?_⟩
            ·obtain⟨x,hx,rfl⟩:=List.mem_map.1 hr;obtain⟨l,o,r,n,rfl⟩:=(hls x hx).1;exact cons_ne_nil _ _
            ·walk_at "go";rw[length_map,length_map,show decide (((SY.ddT (ls.map (·.take 3))).length:Int)=(ls.length:Int))=decide ((SY.ddT (ls.map (·.take 3))).length=ls.length) from decide_eq_decide.2 (by omega)];exact kk
       ·have e1:isT r=false:=by cases r with
         |tup ds=>exact absurd ⟨ds,rfl⟩ ht
         |_=>rfl
        have e2:Y2 q f r=false:=by cases r with
         |tup ds=>exact absurd ⟨ds,rfl⟩ ht
         |_=>rfl
        rw[e2] at kk;rw[e1];walk_at "go";exact kk
   ·have e:tabD (.str w) q s f r=false:=by
     clear kk hw h vq vs vf hz;cases q<;>cases s<;>cases f<;>first
      |rfl
      |(show (decide (w="table")&&_)=false;rw[oAh hwt];rfl)
    rw[e,Bool.and_false,Bool.and_false,Bool.and_false] at kk;rw[oAh hwt];walk_at "go";exact kk
  ·have e:tabD w q s f r=false:=by
    unfold tabD;split
    ·exact absurd ⟨_,rfl⟩ hs
    ·rfl
   rw[e,Bool.and_false,Bool.and_false,Bool.and_false] at kk;rw[(Y7 hs).1];walk_at "go";exact kk
 ·rw[zU (λ ⟨_,_,_,_,_,e⟩=>by rw[e] at h4;cases h4)] at kk
  rw[h4];walk_at "go";exact kk
 ·rw[zU (λ ⟨_,_,_,_,_,e⟩=>by cases e;exact h4 rfl)] at kk
  rw[show isT (.tup ds)=true from rfl];walk_at "go";rw[show decide ((ds.length:Int)=5)=false from oAh (by omega)];walk_at "go";exact kk
end
mutual
noncomputable def sz:D->Bool
 |.tup ds=>decide (ds.length<60)&&szs ds
 |_=>true
noncomputable def szs:List D->Bool
 |[]=>true
 |d::ds=>sz d&&szs ds
end
theorem ZbK:∀ {ds:List D}{d:D},szs ds=true->d∈ds->sz d=true
 | e::es,d,h,hd=>by
  rw[szs,and_eq_true] at h
  rcases List.mem_cons.1 hd with rfl | hd
  ·exact h.1
  ·exact ZbK h.2 hd
theorem VG{ds:List D}(h:sz (.tup ds)=true):ds.length<60/\∀ d∈ds,sz d=true:=by
 rw[sz,and_eq_true] at h;exact⟨oAj h.1,λ d hd=>ZbK h.2 hd⟩
open LM in
theorem ZeC{w:Str}{rest:List D}(h:w≠"table"):ZI (.tup (.str w::rest))=false:=by
 unfold ZI;split
 ·rename_i heq;cases heq
  rename_i q s f r;have e:tabD (.str w) q s f r=false:=by
   cases q<;>cases s<;>cases f<;>first
    |rfl
    |(show (decide (w="table")&&_)=false;rw[oAh h];rfl)
  rw[e,Bool.and_false,Bool.and_false,Bool.and_false]
 ·rfl
open LM in
theorem ZeD{n:Nat}{rest:List D}:isM (n+1) (.tup (.str "table"::rest))=ZI (.tup (.str "table"::rest)):=by
 show (ZI _||(Yi "table" rest&&_))=_;have e:Yi "table" rest=false:=by
  unfold Yi;rw[show Yr.lookup ("table":Str)=none by decide +kernel]
 rw[e,Bool.false_and,Bool.or_false]
open LM in
theorem WK{n:Nat}{w:Str}{rest:List D}(h:w≠"table"):isM (n+1) (.tup (.str w::rest))=(Yi w rest&&(if (YD.lookup w).isSome then rest.tail else rest).all (isM n)):=by
 show (ZI _||(Yi w rest&&_))=_;rw[ZeC h,Bool.false_or];rfl
open LM in
theorem ZeE{n:Nat}{rest:List D}:isM (n+1) (.tup (.str "mirrored"::rest))=(decide (rest.length=1)&&rest.all (isM n)):=by
 rw[WK (by decide +kernel)];have e1:YD.lookup ("mirrored":Str)=none:=by decide +kernel
 have e:Yi "mirrored" rest=decide (rest.length=1):=by
  unfold Yi;rw[show Yr.lookup ("mirrored":Str)=some 1 by decide +kernel,e1];exact decide_eq_decide.2 (by omega)
 rw[e,e1];rfl
open LM in
theorem qG{n:Nat}{w:Str}{rest:List D}(h:w="both"\/w="either"):isM (n+1) (.tup (.str w::rest))=(decide (rest.length=2)&&rest.all (isM n)):=by
 have e0:w≠"table":=by rcases h with rfl | rfl<;>decide +kernel
 have e1:YD.lookup w=none:=by rcases h with rfl | rfl<;>decide +kernel
 have e2:Yr.lookup w=some 2:=by rcases h with rfl | rfl<;>decide +kernel
 rw[WK e0];have e:Yi w rest=decide (rest.length=2):=by
  unfold Yi;rw[e2,e1];exact decide_eq_decide.2 (by omega)
 rw[e,e1];rfl
open LM in
theorem Wj{n:Nat}{w:Str}{rest:List D}{lo:Int}(h:(w="later"/\lo=0)\/(w="slowed"/\lo=1)):isM (n+1) (.tup (.str w::rest))=((match rest with
  |[c,_]=>isBt lo 60 c
  |_=>false)&&rest.tail.all (isM n)):=by
 have e0:w≠"table":=by rcases h with ⟨rfl,_⟩ | ⟨rfl,_⟩<;>decide +kernel
 have e1:YD.lookup w=some lo:=by rcases h with ⟨rfl,rfl⟩ | ⟨rfl,rfl⟩<;>decide +kernel
 have e2:Yr.lookup w=some 1:=by rcases h with ⟨rfl,_⟩ | ⟨rfl,_⟩<;>decide +kernel
 rw[WK e0];have e:Yi w rest=(match rest with
  |[c,_]=>isBt lo 60 c
  |_=>false):=by
  unfold Yi;rw[e2,e1]
  match rest with
  |[]=>rfl
  |[c]=>rfl
  |[c,x]=>rfl
  | c::x::y::r=>
   show (decide ((((x::y::r:List D).length:Nat):Int)=1)&&_)=false;rw[oAh (by simp only[length_cons];omega)];rfl
 rw[e,e1];rfl
open LM in
theorem qH{n:Nat}{w:Str}{rest:List D}(h0:w≠"table")(h1:w≠"mirrored")(h2:w≠"both")(h3:w≠"either")(h4:w≠"later")(h5:w≠"slowed"):isM (n+1) (.tup (.str w::rest))=false:=by
 rw[WK h0];have e:Yr.lookup w=none:=by
  unfold Yr;simp only[lookup_cons,List.lookup_nil];have q:∀ {v:Str},w≠v->(w==v)=false:=λ h=>by simpa using h
  rw[q h1,q h2,q h3,q h4,q h5]
 unfold Yi;rw[e];rfl
section
variable {T:Tab}{W k:Nat}{S:Sto}{P:D->Sto->Prop}{PD:D->Prop}
theorem ZhP{x a b:Str}{PB:Bool->Prop}(k:PB (decide (a=x)||decide (b=x))):Op (cmpop S .In (.str x) (.tup [.str a,.str b])) PB:=by
 refine⟨_,rfl,?_⟩;have e:([D.str a,.str b].any λ z=>eqF z<|.str x)=(decide (a=x)||decide (b=x)):=by
  show ((a==x)||((b==x)||false))=_;rw[Bool.or_false];rfl
 show PB ([D.str a,.str b].any λ z=>eqF z<|.str x);rw[e];exact k
theorem Zgl(h:vd S d=true):∃ t,tyD S d=some t/\(t="int"↔LM.isI d=true)/\(t="bool"↔∃ b,d=.bl b):=by
 cases d with
 | ref n=>
  obtain⟨t,h1,_,_⟩:=Wz h;have ht:t="list"\/t="dict":=by
   rw[tyD] at h1;cases ho:S[n]? with
   |none=>rw[ho] at h1;cases h1
   | some o=>
    rw[ho] at h1;cases o<;>cases h1<;>simp
  refine⟨t,h1,?_,?_⟩
  ·rcases ht with rfl | rfl<;>simp[LM.isI]
  ·rcases ht with rfl | rfl<;>simp
 |_=>exact⟨_,rfl,by simp[LM.isI],by simp⟩
theorem ZhQ{d:D}:(∃ w rest,d=.tup (.str w::rest))\/isT d=false\/d=.tup []\/∃ x rest,d=.tup (x::rest)/\isS x=false:=by
 cases d with
 | tup ds=>
  cases ds with
  |nil=>exact .inr<|.inr<|.inl rfl
  | cons x rest=>
   cases x with
   |str w=>exact .inl ⟨w,rest,rfl⟩
   |_=>exact .inr<|.inr<|.inr ⟨_,rest,rfl,rfl⟩
 |_=>exact .inr<|.inl rfl
open LM in
theorem Zao{n:Nat}{d:D}(h:¬ ∃ w rest,d=.tup (.str w::rest)):isM n d=false:=by
 cases n with
 |zero=>rfl
 | succ n=>
  show (ZI d||(form d&&_))=false;have e1:ZI d=false:=by
   unfold ZI;split
   ·rename_i w q s f r;have e:tabD w q s f r=false:=by
     unfold tabD;split
     ·exact absurd ⟨_,_,rfl⟩ h
     ·rfl
    rw[e,Bool.and_false,Bool.and_false,Bool.and_false]
   ·rfl
  rw[e1,LM.VD (by rintro⟨z,rest,e⟩;exact h ⟨z,rest,e⟩)];rfl
open LM in
theorem ZcM(lt:Lt T):∀ (n:Nat) {d:D}{P:D->Sto->Prop},wd S d=true->sz d=true->P (.bl (isM n d)) S->Ev ((Za T W (k+n+4)).fn "_law_is_machine" [d,.int (n:Nat)] S) P:=by
 intro n
 induction n with
 | zero=>
  intro d P h hz kk;refine Zu lt.ma rfl ?_;dsimp only[Ut];walk_at "al";walk_at "st";refine Zk<|ZW ?_;walk_at "go";rw[oAi (by rfl)];walk_at "go";exact kk
 | succ n ih=>
  intro d P h hz kk;refine Zu lt.ma rfl ?_;dsimp only[Ut];walk_at "al";walk_at "st";refine Zk<|ZW ?_;walk_at "go";rw[oAh (by omega)];walk_at "go";refine Yu (Zp h) ?_;have hn:(((n+1:Nat):Int) - 1)=(n:Int):=by omega
  rcases ZhQ (d:=d) with ⟨w,rest,rfl⟩ | h4 | rfl | ⟨x,rest,rfl,hx⟩
  ·have hw:=(Yq h).2;have hs:=(VG hz).2;have hl:=(VG hz).1;rw[show isT (.tup (.str w::rest))=true from rfl];walk_at "go";refine WH ?_;rw[show (D.str w::rest).isEmpty=false from rfl];walk_at "go";refine ZL at_0 ?_;refine YE (Zp<|hw _<|oAn ..) ?_;rw[show isS (.str w)=true from rfl];walk_at "go";refine Zk ?_;walk_at "go";refine ZL at_0 ?_;walk_at "go";refine YG ?_;by_cases w0:w="table"
   ·subst w0;rw[oAi rfl];walk_at "go";rw[ZeD] at kk;refine ZeB lt h (λ w q s f rs e=>?_) ?_
    ·rw[e] at hz;exact(VG<|(VG hz).2 (.tup rs)<|by simp).1
    ·walk_at "go";exact kk
   ·rw[oAh w0];walk_at "go";refine Zk ?_;walk_at "go";refine ZL at_0 ?_;walk_at "go";refine YG ?_;by_cases w1:w="mirrored"
    ·subst w1;rw[oAi rfl];rw[ZeE] at kk;walk_at "go"
     match rest,kk,hw,hs with
     | [a],kk,hw,hs=>
      replace kk:P (.bl<|true&&(isM n a&&true)) S:=kk;rw[Bool.true_and,Bool.and_true] at kk;rw[show decide ((([.str "mirrored",a]:List D).length:Int)=2)=true from rfl];walk_at "go";rw[hn];refine ih (hw a<|by simp) (hs a<|by simp) ?_;walk_at "go";exact kk
     | [],kk,hw,hs=>
      rw[show decide ((([.str "mirrored"]:List D).length:Int)=2)=false from rfl];walk_at "go";exact kk
     | a::b::r,kk,hw,hs=>
      rw[show decide (((.str "mirrored"::a::b::r:List D).length:Int)=2)=false from oAh (by simp only[length_cons];omega)]
      walk_at "go";rw[oAh (by simp only[length_cons];omega)] at kk
      exact kk
    ·rw[oAh w1];walk_at "go";refine Zk ?_;walk_at "go";by_cases h2:rest.length=2
     ·obtain⟨a,b,rfl⟩:∃ a b,rest=[a,b]:=by
       match rest,h2 with
       |[a,b],_=>exact⟨a,b,rfl⟩
      have ha:=hw a (by simp);have hb:=hw b (by simp);rw[show decide ((([.str w,a,b]:List D).length:Int)=3)=true from rfl];walk_at "go";refine Zk ?_;walk_at "go";refine ZhP ?_;by_cases w2:w="both"\/w="either"
      ·rw[qG w2] at kk;replace kk:P (.bl<|true&&(isM n a&&(isM n b&&true))) S:=kk;rw[Bool.true_and,Bool.and_true] at kk;rw[show (decide (("both":Str)=w)||decide (("either":Str)=w))=true by rcases w2 with rfl | rfl<;>decide +kernel]
       walk_at "go";rw[hn];refine ih ha (hs a<|by simp) ?_;cases h5:isM n a with
       | false=>
        rw[h5] at kk;walk_at "go";exact kk
       | true=>
        rw[h5,Bool.true_and] at kk;walk_at "go";rw[hn];refine ih hb (hs b<|by simp) ?_;walk_at "go";exact kk
      ·have w3:w≠"both":=λ e=>w2<|.inl e;have w4:w≠"either":=λ e=>w2<|.inr e;rw[oAh<|Ne.symm w3,oAh<|Ne.symm w4,Bool.false_or];walk_at "go";refine Zk<|ZW ?_;walk_at "go";refine Vz ?_;by_cases w5:w="later"\/w="slowed"
       ·rw[show (!(decide (("later":Str)=w)||decide (("slowed":Str)=w)))=false by rcases w5 with rfl | rfl<;>decide +kernel]
        obtain⟨lo,hlo⟩:∃ lo:Int,(w="later"/\lo=0)\/(w="slowed"/\lo=1):=by
         rcases w5 with rfl | rfl
         ·exact⟨0,.inl ⟨rfl,rfl⟩⟩
         ·exact⟨1,.inr ⟨rfl,rfl⟩⟩
        have hlo2:(if decide (w="slowed") then (1:Int) else 0)=lo:=by
         rcases hlo with ⟨rfl,rfl⟩ | ⟨rfl,rfl⟩<;>decide +kernel
        rw[Wj hlo] at kk;replace kk:P (.bl<|isBt lo 60 a&&(isM n b&&true)) S:=kk;rw[Bool.and_true] at kk;walk_at "go";obtain⟨t,t1,t2,t3⟩:=Zgl<|Zp ha;refine LC.YC LM.Yp t1 ?_;by_cases hI:isI a=true
        ·obtain⟨i,rfl⟩:=ZbB hI;cases t1
         rw[show (decide (("int":String)="int")||(decide (("int":String)="bool")&&decide (("int":String)="int")))=true by decide];walk_at "go";replace kk:P (.bl<|(decide (lo<=i)&&decide (i<=60))&&isM n b) S:=kk;refine Jk ?_;walk_at "go";refine YG ?_;walk_at "go";rw[hlo2];cases g1:decide (lo<=i) with
         | false=>
          rw[g1] at kk;walk_at "go";exact kk
         | true=>
          rw[g1,Bool.true_and] at kk;walk_at "go";cases g2:decide (i<=60) with
          | false=>
           rw[g2] at kk;walk_at "go";exact kk
          | true=>
           rw[g2,Bool.true_and] at kk;walk_at "go";rw[hn];refine ih hb (hs b<|by simp) ?_;walk_at "go";exact kk
        ·by_cases hB:∃ b,a=.bl b
         ·obtain⟨b',rfl⟩:=hB;cases t1
          rw[show (decide (("bool":String)="int")||(decide (("bool":String)="bool")&&decide (("int":String)="int")))=true by decide];walk_at "go";refine LC.YC LM.Jb rfl ?_;rw[show (decide (("bool":String)="bool")||(decide (("bool":String)="bool")&&decide (("bool":String)="int")))=true by decide];walk_at "go";exact kk
         ·have e:isBt lo 60 a=false:=by cases a with
           |int i=>exact absurd rfl hI
           |_=>rfl
          rw[e] at kk;rw[oAh<|λ z=>hI<|t2.1 z,oAh<|λ z=>hB<|t3.1 z,Bool.false_and,Bool.or_false];walk_at "go";exact kk
       ·have w6:w≠"later":=λ e=>w5<|.inl e;have w7:w≠"slowed":=λ e=>w5<|.inr e;rw[qH w0 w1 w3 w4 w6 w7] at kk;rw[show (!(decide (("later":Str)=w)||decide (("slowed":Str)=w)))=true by rw[oAh<|Ne.symm w6,oAh<|Ne.symm w7];rfl]
        walk_at "go";exact kk
     ·have e:isM (n+1) (.tup (.str w::rest))=false:=by
       by_cases w2:w="both"\/w="either"
       ·rw[qG w2,oAh h2];rfl
       ·by_cases w5:w="later"\/w="slowed"
        ·obtain⟨lo,hlo⟩:∃ lo:Int,(w="later"/\lo=0)\/(w="slowed"/\lo=1):=by
          rcases w5 with rfl | rfl
          ·exact⟨0,.inl ⟨rfl,rfl⟩⟩
          ·exact⟨1,.inr ⟨rfl,rfl⟩⟩
         rw[Wj hlo]
         match rest,h2 with
         |[],_=>rfl
         |[_],_=>rfl
         |[_,_],h2=>exact absurd rfl h2
         |_::_::_::_,_=>rfl
        ·exact qH w0 w1 (λ e=>w2<|.inl e) (λ e=>w2<|.inr e) (λ e=>w5<|.inl e)<|λ e=>w5<|.inr e
      rw[e] at kk;rw[show decide (((.str w::rest:List D).length:Int)=3)=false from oAh (by simp only[length_cons];omega)]
      walk_at "go";exact kk
  ·rw[Zao (by rintro⟨w,rest,rfl⟩;cases h4)] at kk
   rw[h4];walk_at "go";exact kk
  ·rw[Zao (by rintro⟨w,rest,e⟩;cases e)] at kk
   rw[show isT (.tup [])=true from rfl];walk_at "go";refine WH ?_;rw[show ([]:List D).isEmpty=true from rfl];walk_at "go";exact kk
  ·rw[Zao (by rintro⟨w,rest,e⟩;cases e;cases hx)] at kk
   rw[show isT (.tup (x::rest))=true from rfl];walk_at "go";refine WH ?_;rw[show (x::rest).isEmpty=false from rfl];walk_at "go";refine ZL at_0 ?_;refine YE (Zp<|(Yq h).2 _<|oAn ..) ?_;rw[hx];walk_at "go";exact kk
end
end LK
namespace K03
open PySem L2 PF
noncomputable def F_law_odd:FI:=⟨2,5,(.c (.a (.m 2) (.t .n)) (.c (.fr (.m 3) (.rng1 (.f "_law_pick" (.c (.v 0) (.c (.i 16) .n)))) (.c (.a (.m 2) (.t (.c (.v 2) .n))) .n)) (.c (.a (.m 4) (.lv (.dsp (.c .non (.c (.bl true) (.c (.bl false) (.c (.i 0) (.c (.i 1) (.c (.neg (.i 1)) (.c (.b .Pow (.i 10) (.i 30)) (.c (.s "") (.c (.s " ") (.c (.s "A") (.c (.s "a1") (.c (.s "ab c") (.c (.s "abcdefghi") (.c (.s "table") (.c (.s "zzzzzzzz") .n)))))))))))))))))) (.c (.a (.m 4) (.b .Add (.v 4) (.lv (.dsp (.c (.s "-") (.c (.lv (.dsp .n)) (.c .dnew (.c (.t .n) (.c (.lv (.dsp (.c (.v 1) .n))) (.c (.t (.c (.v 1) .n)) (.c (.dvar "a" 1) (.c (.v 2) (.c (.lv (.dsp (.c (.v 2) .n))) (.c (.t (.c .non (.c .non .n))) (.c (.t (.c (.s "a") (.c (.s "b") (.c (.s "c") (.c (.s "d") .n))))) .n))))))))))))))) (.c (.r (.u (.v 4) (.f "_law_pick" (.c (.v 0) (.c (.l .len (.c (.v 4) .n)) .n))))) .n)))))⟩
noncomputable def F_law_put:FI:=⟨3,3,(.c (.r (.b .Add (.b .Add (.slc (.v 0) .no (.yes (.v 1))) (.t (.c (.v 2) .n))) (.slc (.v 0) (.yes (.b .Add (.v 1) (.i 1))) .no))) .n)⟩
noncomputable def F_law_machine:FI:=⟨3,6,(.c (.a (.m 3) (.f "_law_pick" (.c (.v 0) (.c (.i 7) .n)))) (.c (.q (.or (.p .Lt (.v 1) (.i 2)) (.p .Lt (.v 3) (.i 2))) (.c (.r (.u (.v 2) (.f "_law_pick" (.c (.v 0) (.c (.l .len (.c (.v 2) .n)) .n))))) .n) .n) (.c (.a (.m 4) (.f "_law_machine" (.c (.v 0) (.c (.b .Sub (.v 1) (.i 1)) (.c (.v 2) .n))))) (.c (.q (.p .Eq (.v 3) (.i 2)) (.c (.r (.t (.c (.s "mirrored") (.c (.v 4) .n)))) .n) .n) (.c (.q (.p .Eq (.v 3) (.i 3)) (.c (.r (.t (.c (.s "later") (.c (.u (.lv (.dsp (.c (.i 0) (.c (.i 1) (.c (.i 2) (.c (.i 60) (.c (.f "_law_pick" (.c (.v 0) (.c (.i 61) .n))) .n))))))) (.f "_law_pick" (.c (.v 0) (.c (.i 5) .n)))) (.c (.v 4) .n))))) .n) .n) (.c (.q (.p .Eq (.v 3) (.i 4)) (.c (.r (.t (.c (.s "slowed") (.c (.u (.lv (.dsp (.c (.i 1) (.c (.i 2) (.c (.i 3) (.c (.i 60) (.c (.b .Add (.i 1) (.f "_law_pick" (.c (.v 0) (.c (.i 60) .n)))) .n))))))) (.f "_law_pick" (.c (.v 0) (.c (.i 5) .n)))) (.c (.v 4) .n))))) .n) .n) (.c (.a (.m 5) (.f "_law_machine" (.c (.v 0) (.c (.l .min (.c (.i 2) (.c (.b .Sub (.v 1) (.i 1)) .n))) (.c (.v 2) .n))))) (.c (.r (.b .Add (.t (.c (.u (.lv (.dsp (.c (.s "both") (.c (.s "either") .n)))) (.b .Sub (.v 3) (.i 5))) .n)) (.u (.lv (.dsp (.c (.t (.c (.v 4) (.c (.v 5) .n))) (.c (.t (.c (.v 5) (.c (.v 4) .n))) .n)))) (.f "_law_pick" (.c (.v 0) (.c (.i 2) .n)))))) .n))))))))⟩
noncomputable def F_law_other:FI:=⟨2,3,(.c (.q (.isi (.v 1) "str") (.c (.a (.m 2) (.lv (.dsp (.c (.s "table") (.c (.s "mirrored") (.c (.s "later") (.c (.s "slowed") (.c (.s "both") (.c (.s "either") (.c (.s "Later") (.c (.s "lat") (.c (.s "boths") (.c (.s "") (.c .non (.c (.i 0) .n))))))))))))))) (.c (.r (.u (.v 2) (.f "_law_pick" (.c (.v 0) (.c (.l .len (.c (.v 2) .n)) .n))))) .n)) .n) (.c (.q (.isi (.v 1) "int") (.c (.a (.m 2) (.lv (.dsp (.c (.neg (.i 1)) (.c (.i 0) (.c (.i 1) (.c (.i 2) (.c (.i 59) (.c (.i 60) (.c (.i 61) (.c (.b .Pow (.i 10) (.i 30)) (.c (.bl true) (.c (.bl false) (.c .non (.c (.s "1") (.c (.t (.c (.i 1) .n)) (.c (.lv (.dsp (.c (.i 1) .n))) .n))))))))))))))))) (.c (.r (.u (.v 2) (.f "_law_pick" (.c (.v 0) (.c (.l .len (.c (.v 2) .n)) .n))))) .n)) .n) (.c (.r (.f "_law_odd" (.c (.v 0) (.c (.v 1) .n)))) .n)))⟩
noncomputable def F_law_spoilt:FI:=⟨2,4,(.c (.par 2 3 (.f "_law_pick" (.c (.v 0) (.c (.l .len (.c (.v 1) .n)) .n))) (.f "_law_pick" (.c (.v 0) (.c (.i 8) .n)))) (.c (.q (.and (.p .Lt (.v 3) (.i 3)) (.and (.isi (.u (.v 1) (.v 2)) "tuple") (.p .NotEq (.u (.v 1) (.v 2)) (.t .n)))) (.c (.r (.f "_law_put" (.c (.v 1) (.c (.v 2) (.c (.f "_law_spoilt" (.c (.v 0) (.c (.u (.v 1) (.v 2)) .n))) .n))))) .n) .n) (.c (.q (.p .Lt (.v 3) (.i 5)) (.c (.r (.f "_law_put" (.c (.v 1) (.c (.v 2) (.c (.f "_law_other" (.c (.v 0) (.c (.u (.v 1) (.v 2)) .n))) .n))))) .n) .n) (.c (.q (.p .Eq (.v 3) (.i 5)) (.c (.r (.b .Add (.slc (.v 1) .no (.yes (.v 2))) (.slc (.v 1) (.yes (.b .Add (.v 2) (.i 1))) .no))) .n) .n) (.c (.q (.p .Eq (.v 3) (.i 6)) (.c (.r (.b .Add (.b .Add (.slc (.v 1) .no (.yes (.v 2))) (.t (.c (.u (.v 1) (.v 2)) .n))) (.slc (.v 1) (.yes (.v 2)) .no))) .n) .n) (.c (.r (.u (.lv (.dsp (.c (.lv (.l .list (.c (.v 1) .n))) (.c (.t (.c (.v 1) .n)) (.c (.rev (.v 1)) (.c (.b .Add (.v 1) (.t (.c (.i 0) .n))) .n)))))) (.f "_law_pick" (.c (.v 0) (.c (.i 4) .n))))) .n))))))⟩
noncomputable def F_law_right:FI:=⟨1,4,(.c (.a (.m 1) (.f "_law_is_machine" (.c (.v 0) (.c (.i 4) .n)))) (.c (.fr (.m 2) (.rng1 (.i 2)) (.c (.a (.m 3) (.f "is_machine" (.c (.v 0) .n))) (.c (.q (.or (.not (.isi (.v 3) "bool")) (.p .NotEq (.v 3) (.v 1))) (.c (.r (.bl false)) .n) .n) .n))) (.c (.r (.bl true)) .n)))⟩
noncomputable def F_law_eight:FI:=⟨2,5,(.c (.a (.m 2) (.lv (.comp 2 [0,1] (.m 1) (.rng1 (.i 8)) .n (.u (.v 3) (.f "_law_pick" (.c (.v 2) (.c (.i 2) .n))))))) (.c (.fr (.m 3) (.rng1 (.i 3)) (.c (.a (.m 4) (.u (.lv (.dsp (.c (.s "both") (.c (.s "either") .n)))) (.f "_law_pick" (.c (.v 0) (.c (.i 2) .n))))) (.c (.a (.m 2) (.lv (.comp 2 [2,4] (.m 1) (.rng1 (.b .FloorDiv (.l .len (.c (.v 2) .n)) (.i 2))) .n (.t (.c (.v 3) (.c (.u (.v 2) (.b .Mult (.i 2) (.v 1))) (.c (.u (.v 2) (.b .Add (.b .Mult (.i 2) (.v 1)) (.i 1))) .n))))))) .n))) (.c (.r (.u (.v 2) (.i 0))) .n)))⟩
noncomputable def Flaw:FI:=⟨1,7,(.c (.fr (.m 1) (.rng1 (.b .Add (.i 1) (.l .min (.c (.i 6) (.c (.l .len (.c (.v 0) .n)) .n))))) (.c (.a (.m 2) (.f "_law_left" (.c (.v 0) (.c (.v 1) .n)))) (.c (.a (.m 3) (.lv (.dsp (.c (.f "_law_table" (.c (.v 2) (.c (.i 3) (.c (.i 6) .n)))) (.c (.f "_law_table" (.c (.v 2) (.c (.i 1) (.c (.i 3) .n)))) .n))))) (.c (.fr (.m 4) (.seq (.t (.c (.i 4) (.c (.i 5) (.c (.i 2) (.c (.i 0) .n)))))) (.c (.a (.m 5) (.ite (.p .Eq (.v 4) (.i 0)) (.f "_law_eight" (.c (.v 2) (.c (.v 3) .n))) (.f "_law_machine" (.c (.v 2) (.c (.v 4) (.c (.v 3) .n)))))) (.c (.a (.m 6) (.lv (.dsp (.c (.v 5) (.c (.t (.c (.s "mirrored") (.c (.v 5) .n))) (.c (.t (.c (.s "slowed") (.c (.i 1) (.c (.v 5) .n)))) .n)))))) (.c (.a (.m 6) (.b .Add (.v 6) (.lv (.comp 2 [2,5] (.m 1) (.rng1 (.i 14)) .n (.f "_law_spoilt" (.c (.v 2) (.c (.v 3) .n))))))) (.c (.a (.m 6) (.b .Add (.v 6) (.lv (.dsp (.c (.f "_law_odd" (.c (.v 2) (.c (.v 5) .n))) (.c (.t (.c (.s "mirrored") .n)) (.c (.t (.c (.s "later") (.c (.i 1) .n))) (.c (.t (.c (.s "both") (.c (.v 5) .n))) .n)))))))) (.c (.q (.not (.l .all (.c (.lv (.comp 2 [] (.m 1) (.seq (.v 6)) .n (.f "_law_right" (.c (.v 1) .n)))) .n))) (.c (.r (.bl false)) .n) .n) .n)))))) .n)))) (.c (.r (.bl true)) .n))⟩
noncomputable def Fz:List FI:=Flaw::LM.VB::LM.J4::LZ.Ww::LZ.Wx::LZ.Vx::LZ.rowF::LZ.Wy::LZ.Vy::LM.WC::LM.VC::LM.JS::LM.J5::LW.WD::LW.WE::LW.WF::LW.VE::LW.mayF::LW.tblF::LK.VF::LK.WI::LK.WJ::F_law_odd::F_law_put::F_law_machine::LK.Ut::F_law_other::F_law_spoilt::F_law_right::F_law_eight::[]
noncomputable def Qz:List FI:=[]
noncomputable def T:Tab:=⟨(Dz.zip Fz).map λ p=>(p.1.1,p.2),Glz,Gdz,Fdz,(Mz.zip Qz).map λ p=>(ZC p.1.1 p.1.2.1,p.2)⟩
theorem Zaq:T.lookup ("law":Str)=some Flaw:=by kernel_rfl
theorem Zar:T.lookup ("is_whole":Str)=some LM.VB:=by kernel_rfl
theorem qI:T.lookup ("is_between":Str)=some LM.J4:=by kernel_rfl
theorem Wp:T.lookup ("is_tuple_of":Str)=some LZ.Ww:=by kernel_rfl
theorem ZbL:T.lookup ("is_name":Str)=some LZ.Wx:=by kernel_rfl
theorem VP:T.lookup ("is_neighbour":Str)=some LZ.Vx:=by kernel_rfl
theorem VQ:T.lookup ("is_table_row":Str)=some LZ.rowF:=by kernel_rfl
theorem U7:T.lookup ("are_table_rows":Str)=some LZ.Wy:=by kernel_rfl
theorem Zas:T.lookup ("is_table":Str)=some LZ.Vy:=by kernel_rfl
theorem Zat:T.lookup ("has_form":Str)=some LM.WC:=by kernel_rfl
theorem Zau:T.lookup ("parts_of":Str)=some LM.VC:=by kernel_rfl
theorem Uc:T.lookup ("is_machine_within":Str)=some LM.JS:=by kernel_rfl
theorem qJ:T.lookup ("is_machine":Str)=some LM.J5:=by kernel_rfl
theorem Zav:T.lookup ("_law_cell":Str)=some LW.WD:=by kernel_rfl
theorem Zaw:T.lookup ("_law_left":Str)=some LW.WE:=by kernel_rfl
theorem Zax:T.lookup ("_law_pick":Str)=some LW.WF:=by kernel_rfl
theorem ze:T.lookup ("_law_names":Str)=some LW.VE:=by kernel_rfl
theorem ZbM:T.lookup ("_law_may":Str)=some LW.mayF:=by kernel_rfl
theorem zf:T.lookup ("_law_table":Str)=some LW.tblF:=by kernel_rfl
theorem Wq:T.lookup ("_law_is_name":Str)=some LK.VF:=by kernel_rfl
theorem qK:T.lookup ("_law_is_row":Str)=some LK.WI:=by kernel_rfl
theorem VR:T.lookup ("_law_is_table":Str)=some LK.WJ:=by kernel_rfl
theorem ZbN:T.lookup ("_law_odd":Str)=some F_law_odd:=by kernel_rfl
theorem ZbO:T.lookup ("_law_put":Str)=some F_law_put:=by kernel_rfl
theorem Wr:T.lookup ("_law_machine":Str)=some F_law_machine:=by kernel_rfl
theorem U8:T.lookup ("_law_is_machine":Str)=some LK.Ut:=by kernel_rfl
theorem zg:T.lookup ("_law_other":Str)=some F_law_other:=by kernel_rfl
theorem qL:T.lookup ("_law_spoilt":Str)=some F_law_spoilt:=by kernel_rfl
theorem zi:T.lookup ("_law_right":Str)=some F_law_right:=by kernel_rfl
theorem zj:T.lookup ("_law_eight":Str)=some F_law_eight:=by kernel_rfl
open PySem L2 PF LZ LW LK
theorem wt:Wt T:=⟨Zav,Zaw,Zax,ze,ZbM,zf⟩
theorem zt:Zt T:=⟨Wp,ZbL,VP,VQ,U7,Zas,by kernel_rfl,by kernel_rfl⟩
theorem mt:LM.Mt T:=⟨zt,Zar,qI,Zat,Zau,Uc,qJ,by kernel_rfl,by kernel_rfl,by kernel_rfl,by kernel_rfl⟩
theorem lt:LK.Lt T:=⟨wt,Wq,qK,VR,U8⟩
theorem up{n L:Nat}(h:n+1<=L):∃ j,L=j+1/\n<=j:=⟨L - 1,by lia,by lia⟩
section
variable {S:Sto}{P:D->Sto->Prop}{PD:D->Prop}{k:Nat}
structure G(S:Sto)(d:D):Prop where
 w:wd S d=true
 z:sz d=true
theorem ZbP{xs ys:List D}(hz:xs.length+ys.length<=line)(k:PD (.lst (xs++ys))):Op (binop S .Add (.lst xs) (.lst ys)) PD:=
 ⟨_,by show ((if xs.length+ys.length<=line then some (xs++ys) else none).map D.lst)=_;rw[if_pos hz];rfl,k⟩
theorem ZQ{L:List D}{d:Int}(h0:0<=d)(h1:d<L.length)(kk:∀ x∈L,PD x):Op (subD S (.lst L) (.int d)) PD:=by
 have hl:d.toNat<L.length:=by lia
 have e:((d.toNat:Nat):Int)=d:=by lia
 have:=YJ<|oAt hl;rw[e] at this;exact ZK this<|kk _<|getElem_mem hl
theorem ZU{L:Nat}{r:Nat}{m:Int}{env:En}{e:Ex}(hL:1<=L)(h:Pk S r)(he:env[0]?=some (some (.ref r)))(hm:0<m)(hm2:m<=1000)(hv:∀ P:D->Sto->Prop,P (.int m) S->Ev (ev (Za T 40 L) e env S) P)(kk:∀ (d:Int) (S':Sto),Pk S' r->Fr r S S'->S'.length=S.length->0<=d->d<m->P (.int d) S'):Ev (ev (Za T 40 L) (.call "_law_pick" (.cons (.var 0) (.cons e .nil))) env S) P:=by
 obtain⟨L,rfl,_⟩:=up (n:=0) hL;exact Zy<|Zb<|Zc he<|Zb<|hv _<|Ze<|ZP wt h hm hm2 kk
theorem ZcN{d:D}{L:Nat}(g:G S d)(hL:12<=L)(kk:P (.bl true) S):Ev ((Za T 40 L).fn "_law_right" [d] S) P:=by
 obtain⟨j,rfl⟩:∃ j,L=j+11+1:=⟨L - 12,by omega⟩;refine Zu zi rfl ?_;dsimp only[F_law_right];walk_at "al";refine Zd<|ZD<|Zy<|Zb<|Zc rfl<|Zb<|Zg<|Ze ?_;refine ZcM (k:=j+3) lt 4 g.w g.z ?_;refine g_nm<|Zh<|Zd<|JQ<|Zg ⟨2,λ i e2 S2=>S2=S/\∃ y z,e2=[some d,some<|.bl<|LM.isM 4 d,y,z],rfl,by decide,by decide,⟨rfl,none,none,rfl⟩,?_,?_⟩
 ·rintro i e2 S2 hi ⟨rfl,y,z,rfl⟩;refine g_nm<|Zd<|ZD<|Zy<|Zb<|Zc rfl<|Ze ?_;refine LM.Jh (k:=j) mt g.w ?_;refine g_nm<|Zh<|Zd<|Zk<|ZW<|Z2<|YY<|Zc rfl ?_;refine LC.YC LM.Jb rfl ?_;rw[show (decide (("bool":String)="bool")||(decide (("bool":String)="bool")&&decide (("bool":String)="int")))=true by decide];walk_at "go";refine⟨false,?_,?_⟩
  ·show (eqD S2 (.bl<|LM.isM 4 d)<|.bl<|LM.isM 4 d).map not=_;unfold eqD;rw[show Vm (.bl<|LM.isM 4 d) (.bl<|LM.isM 4 d)=true from rfl,oAi rfl];rfl
  ·walk_at "go";exact⟨rfl,_,_,rfl⟩
 ·rintro e2 S2 ⟨rfl,y,z,rfl⟩;walk_at "go";exact kk
theorem ZbQ{S:Sto}(i:Int):wd S (.int i)=true:=by rw[wd]<;>intros<;>contradiction
theorem zW{d:D}{ds:List D}(h:wd S d=true)(h2:wds S ds=true):wds S (d::ds)=true:=by rw[wds,h,h2];rfl
mutual
theorem ZbR{S S':Sto}{r:Nat}(hp:vd S (.ref r)=true->vd S' (.ref r)=true)(f:Fr r S S'):∀ d:D,wd S d=true->wd S' d=true
 | .tup ds,h=>by
  rw[wd,and_eq_true] at h ⊢;exact⟨h.1,VS hp f ds h.2⟩
 | .lst ds,h=>by
  rw[wd,and_eq_true] at h ⊢;exact⟨h.1,VS hp f ds h.2⟩
 |.str z,h=>by rw[wd] at h ⊢;exact h
 | .ref n,h=>by
  rw[wd] at h ⊢;by_cases hn:n=r
  ·subst hn;exact hp h
  ·cases ho:S[n]? with
   |none=>dsimp only[vd] at h;rw[ho] at h;cases h
   | some o=>
    dsimp only[vd] at h ⊢;rw[f.get hn ho];rw[ho] at h;exact h
 |.non,h=>by rw[wd] at h ⊢<;>intros<;>contradiction
 |.bl b,h=>by rw[wd] at h ⊢<;>intros<;>contradiction
 |.int i,h=>ZbQ i
theorem VS{S S':Sto}{r:Nat}(hp:vd S (.ref r)=true->vd S' (.ref r)=true)(f:Fr r S S'):∀ ds:List D,wds S ds=true->wds S' ds=true
 |[],h=>by rw[wds]
 | d::ds,h=>by
  rw[wds,and_eq_true] at h;exact zW (ZbR hp f d h.1)<|VS hp f ds h.2
end
theorem ZhR{S S':Sto}{r:Nat}(hp:Pk S' r)(f:Fr r S S')(d:D)(h:wd S d=true):wd S' d=true:=
 ZbR (λ _=>by obtain⟨a,b,c,h1,_⟩:=hp;dsimp only[vd];rw[h1]) f d h
theorem G.fr{S S':Sto}{r:Nat}{d:D}(g:G S d)(hp:Pk S' r)(f:Fr r S S'):G S' d:=⟨ZhR hp f d g.w,g.z⟩
theorem qM:∀ {l:List D},(∀ d∈l,wd S d=true)->wds S l=true
 |[],_=>by rw[wds]
 |d::l,h=>zW (h d<|oAn ..)<|qM λ x hx=>h x<|oAm _ hx
theorem ZbS:∀ {l:List D},(∀ d∈l,sz d=true)->szs l=true
 |[],_=>by rw[szs]
 |d::l,h=>by rw[szs,h d<|oAn ..,ZbS λ x hx=>h x<|oAm _ hx];rfl
theorem G.tup{l:List D}(hl:l.length<60)(h:∀ d∈l,G S d):G S (.tup l):=
 ⟨by rw[wd,oAi (by omega),qM λ d hd=>(h d hd).w];rfl,by rw[sz,oAi hl,ZbS λ d hd=>(h d hd).z];rfl⟩
theorem G.lst{l:List D}(hl:l.length<60)(h:∀ d∈l,G S d):G S (.lst l):=
 ⟨by rw[wd,oAi (by omega),qM λ d hd=>(h d hd).w];rfl,by rw[sz];intros;contradiction⟩
end
open PySem L2 PF LZ LW LK
section
variable {S:Sto}{P:D->Sto->Prop}{PD:D->Prop}{k:Nat}
theorem Zay{ds:List D}{a:Nat}(h:a<=ds.length):ZS S (.tup ds) (some (a:Int)) none=some (.tup (ds.drop a)):=by
 have e1:HT.sIx ds.length 0 (some (a:Int))=a:=by
  show (if (a:Int)<0 then ((a:Int)+(ds.length:Int)).toNat else min (a:Int).toNat ds.length)=a;rw[if_neg (by omega)];omega
 show (if HT.sIx ds.length 0 (some (a:Int))=0/\HT.sIx ds.length ds.length none=ds.length then some (D.tup ds) else some (D.tup<|cutD ds (some (a:Int)) none))=_;rw[e1];by_cases h0:a=0
 ·subst h0;rw[if_pos ⟨rfl,rfl⟩];rfl
 ·rw[if_neg<|λ z=>h0 z.1];unfold cutD;rw[e1];show some (D.tup<|(ds.drop a).take<|ds.length - a)=_;rw[take_of_length_le (by rw[length_drop];omega)]
theorem Zaz{ds:List D}{a:Nat}(h:a<ds.length):ZS S (.tup ds) none (some (a:Int))=some (.tup (ds.take a)):=by
 have e1:HT.sIx ds.length ds.length (some (a:Int))=a:=by
  show (if (a:Int)<0 then ((a:Int)+(ds.length:Int)).toNat else min (a:Int).toNat ds.length)=a;rw[if_neg (by omega)];omega
 show (if HT.sIx ds.length 0 none=0/\HT.sIx ds.length ds.length (some (a:Int))=ds.length then some (D.tup ds) else some (D.tup<|cutD ds none<|some (a:Int)))=_;rw[e1,if_neg (λ z=>by omega)];unfold cutD;rw[e1];show some (D.tup<|(ds.drop 0).take<|a - 0)=_;rw[List.drop_zero,Nat.sub_zero]
theorem Vl{ds:List D}{a:Nat}{x:D}{L:Nat}(h:a<ds.length)(hl:ds.length<1000)(hL:1<=L)(kk:P (.tup (ds.take a++[x]++ds.drop (a+1))) S):Ev ((Za T 40 L).fn "_law_put" [.tup ds,.int (a:Int),x] S) P:=by
 obtain⟨L,rfl,hj⟩:=up (n:=0) hL;refine Zu ZbO rfl ?_;dsimp only[F_law_put];walk_at "al";refine Zd<|ZY<|Zv<|Zv<|YZ<|Zc rfl<|Jg<|Y0<|Zc rfl ?_;refine⟨_,rfl,YA (Zaz h) ?_⟩;refine ZG<|Zb<|Zc rfl<|Ze ⟨by show 1<=16777216;decide,YB (by rw[length_take];show _<=16777216;simp only[length_cons,length_nil];omega) ?_⟩
 refine YZ<|Zc rfl<|Y0<|Zv<|Zc rfl<|Zg<|p_add ?_;refine⟨_,rfl,Jg ?_⟩;rw[show ((a:Int)+1)=((a+1:Nat):Int) by omega];refine YA (Zay<|by omega)<|YB ?_ ?_
 ·simp only[length_append,length_take,length_drop,length_cons,length_nil];show _<=16777216;omega
 ·walk_at "go";exact kk
noncomputable def nest:Nat->D
 |0=>.tup []
 |n+1=>.tup [nest n]
theorem ZbT:∀ n,G S (nest n)
 |0=>.tup (by decide) (λ _ h=>nomatch h)
 |n+1=>.tup (by show 1<60;decide) (λ d h=>by rw[List.mem_singleton.1 h];exact ZbT n)
theorem ZhS{n:Nat}{l:List (Key×D)}(h:S[n]?=some (.dk l)):wd S (.ref n)=true:=by rw[wd];dsimp only[vd];rw[h]
theorem ZhT{n:Nat}{l:List (List Key×D)}(h:S[n]?=some (.dt l)):wd S (.ref n)=true:=by rw[wd];dsimp only[vd];rw[h]
noncomputable def oddA:List D:=[.non,.bl true,.bl false,.int 0,.int 1,.int (-1),.int (10 ^ 30),.str "",.str " ",.str "A",.str "a1",.str "ab c",.str "abcdefghi",.str "table",.str "zzzzzzzz"]
noncomputable def oddB(near deep:D)(n n2:Nat):List D:=[.str "-",.lst [],.ref n,.tup [],.lst [near],.tup [near],.ref n2,deep,.lst [deep],.tup [.non,.non],.tup [.str "a",.str "b",.str "c",.str "d"]]
theorem Ji{i:Int}:G S (.int i):=⟨ZbQ i,by rw[sz];intros;contradiction⟩
theorem Zde{n:Nat}(h:wd S (.ref n)=true):G S (.ref n):=⟨h,by rw[sz];intros;contradiction⟩
theorem Y3{x:Str}(h:x.length<1000000):G S (.str x):=⟨by rw[wd];exact oAi h,by rw[sz];intros;contradiction⟩
theorem WL:G S .non:=⟨by rw[wd]<;>intros<;>contradiction,by rw[sz];intros;contradiction⟩
theorem g_bl{b:Bool}:G S (.bl b):=⟨by rw[wd]<;>intros<;>contradiction,by rw[sz];intros;contradiction⟩
theorem ZhU{near deep:D}{n n2:Nat}{l:List (List Key×D)}{l2:List (Key×D)}(h1:S[n]?=some (.dt l))(h2:S[n2]?=some (.dk l2))(hn:G S near)(hd:G S deep):∀ x∈oddA++oddB near deep n n2,G S x:=by
 have ln:G S (.lst [near]):=.lst (by show 1<60;decide) (λ d h=>by rw[List.mem_singleton.1 h];exact hn)
 have ld:G S (.lst [deep]):=.lst (by show 1<60;decide) (λ d h=>by rw[List.mem_singleton.1 h];exact hd)
 have tn:G S (.tup [near]):=.tup (by show 1<60;decide) (λ d h=>by rw[List.mem_singleton.1 h];exact hn)
 have t2:G S (.tup [.non,.non]):=.tup (by decide) (λ d h=>by simp only[mem_cons,not_mem_nil,or_false,or_self] at h;rw[h];exact WL)
 have t4:G S (.tup [.str "a",.str "b",.str "c",.str "d"]):=.tup (by decide) (λ d h=>by
  simp only[mem_cons,not_mem_nil,or_false] at h
  rcases h with rfl | rfl | rfl | rfl<;>exact Y3<|by decide +kernel)
 intro x hx
 rcases List.mem_append.1 hx with hx | hx
 ·unfold oddA at hx;simp only[mem_cons,not_mem_nil,or_false] at hx
  rcases hx with rfl | rfl | rfl | rfl | rfl | rfl | rfl | rfl | rfl | rfl | rfl | rfl | rfl | rfl | rfl<;>first | exact WL | exact g_bl | exact Ji | exact Y3 (by decide +kernel)
 ·unfold oddB at hx;simp only[mem_cons,not_mem_nil,or_false] at hx
  rcases hx with rfl | rfl | rfl | rfl | rfl | rfl | rfl | rfl | rfl | rfl | rfl
  ·exact Y3 (by decide +kernel)
  ·exact .lst (by decide) (λ _ h=>nomatch h)
  ·exact Zde<|ZhT h1
  ·exact .tup (by decide) (λ _ h=>nomatch h)
  ·exact ln
  ·exact tn
  ·exact Zde<|ZhS h2
  ·exact hd
  ·exact ld
  ·exact t2
  ·exact t4
theorem ZbU{r L:Nat}{near:D}(hL:2<=L)(hp:Pk S r)(hn:G S near)(kk:∀ x S',G S' x->Pk S' r->Fr r S S'->P x S'):Ev ((Za T 40 L).fn "_law_odd" [.ref r,near] S) P:=by
 obtain⟨L,rfl,hj⟩:=up hL;refine Zu ZbN rfl ?_;dsimp only[F_law_odd];walk_at "al";refine Zd<|ZD<|ZG<|Ze ⟨by show 0<=16777216;decide,g_nm<|Zh<|Zd<|JQ ?_⟩
 refine ZU (m:=16) (by lia) hp rfl (by decide) (by decide) (λ P h=>Zg h)<|λ z S1 hp1 g1 _ z0 z1=>?_;refine⟨z,λ i e2 S2=>S2=S1/\∃ t,e2=[some<|.ref r,some near,some<|nest i,t,none],rfl,by lia,by lia,⟨rfl,none,rfl⟩,?_,?_⟩
 ·rintro i e2 S2 hi ⟨rfl,t,rfl⟩;refine g_nm (Zd<|ZD<|ZG<|Zb<|Zc rfl<|Ze ⟨by show 1<=16777216;decide,g_nm<|Zh<|Ym ?_⟩)
  walk_at "go";exact⟨rfl,_,rfl⟩
 ·rintro e2 S2 ⟨rfl,t,rfl⟩;refine Zh (Zd<|ZD ⟨.lst oddA,S2,by kernel_rfl,g_nm<|Zh<|Zd<|ZD ⟨.lst<|oddA++oddB near (nest z.toNat) S2.length (S2++[Ob.dt []]).length,S2++[.dt []]++[.dk [(.inr "a",near)]],?_,?_⟩⟩)
  ·kernel_rfl
  ·have g2:Gr S2 (S2++[.dt []]++[.dk [(.inr "a",near)]]):=⟨[.dt [],.dk [(.inr "a",near)]],by rw[List.append_assoc];rfl⟩
   have hp2:=hp1.gr g2;refine g_nm<|Zh<|Zd<|ZY<|Zw<|Zc rfl<|ZU (m:=26) (by lia) hp2 rfl (by decide) (by decide) (λ P h=>Yz<|Zb<|Zc rfl<|Ze<|Op.mk Yk h)<|λ d S3 hp3 g3 _ d0 dl=>ZQ d0 dl λ x hx=>?_;refine kk x S3 ((ZhU (l:=[]) (l2:=[(.inr "a",near)]) (by simp) (by simp) (hn.fr hp2<|g1.trans g2.fr) (ZbT _) x hx).fr hp3 g3) hp3<|(g1.trans g2.fr).trans g3
end
open PySem L2 PF LZ LW LK
inductive Tr:Nat->D->Prop
 |s {n:Nat}{x:Str}:x.length<1000000->Tr n (.str x)
 |i {n:Nat}{i:Int}:Tr n (.int i)
 |t {n:Nat}{ds:List D}:ds.length<50->(∀ d∈ds,Tr n d)->Tr (n+1) (.tup ds)
theorem Tr.up{n m:Nat}{d:D}(h:Tr n d)(hm:n<=m):Tr m d:=by
 induction h generalizing m with
 |s h=>exact .s h
 |i=>exact .i
 | t h1 _ ih=>
  obtain⟨m,rfl⟩:∃ j,m=j+1:=⟨m - 1,by omega⟩;exact .t h1 λ d hd=>ih d hd (by omega)
theorem Tr.g{S:Sto}{n:Nat}{d:D}(h:Tr n d):G S d:=by
 induction h with
 |s h=>exact Y3 h
 |i=>exact Ji
 |t h1 _ ih=>exact .tup (by omega) ih
structure Mn(n:Nat)(m:D):Prop where
 tr:Tr (n+2) m
 ne:∃ ds,m=.tup ds/\ds≠[]
theorem Jm{x:Str}(h:isN (.str x)=true):x.length<1000000:=by
 have h:(decide (1<=x.length)&&decide (x.length<=8)&&x.cps.toList.all λ c=>decide (97<=c)&&decide (c<=122))=true:=h;simp only[and_eq_true,decide_eq_true_eq] at h;omega
theorem qN{x:Str}(h:isNb (.str x)=true):x.length<1000000:=by
 have h:(decide (x="")||isN (.str x))=true:=h;rw[or_eq_true] at h
 rcases h with h | h
 ·rw[oAj h];decide +kernel
 ·exact Jm h
theorem ZbV{q s f:Str}{rows:List (List Str)}(tb:Tb q s f rows):Mn 1 (tabOf q s f rows):=by
 obtain⟨_,h1,h2,h3,hr,_⟩:=Zgk tb.tab;refine⟨.t (by show 5<50;decide) λ d hd=>?_,_,rfl,cons_ne_nil _ _⟩
 simp only[mem_cons,not_mem_nil,or_false] at hd
 rcases hd with rfl | rfl | rfl | rfl | rfl
 ·exact .s (by decide +kernel)
 ·exact .s<|Jm h1
 ·exact .s<|Jm h2
 ·exact .s<|Jm h3
 ·refine .t (by rw[length_map];have:=tb.few;omega) λ d hd=>?_
  obtain⟨row,hrow,rfl⟩:=List.mem_map.1 hd;obtain⟨l,o,r,n,rfl,g1,g2,g3,g4,_⟩:=hr row hrow;refine .t (by show 4<50;decide) λ d hd=>?_
  simp only[List.mem_map,mem_cons,not_mem_nil,or_false] at hd;obtain⟨x,hx,rfl⟩:=hd
  rcases hx with rfl | rfl | rfl | rfl
  ·exact .s<|qN g1
  ·exact .s<|Jm g2
  ·exact .s<|qN g3
  ·exact .s<|Jm g4
theorem UG{n:Nat}{ds:List D}(h:ds.length<50)(h0:ds≠[])(ht:∀ d∈ds,Tr (n+2) d):Mn (n+1) (.tup ds):=⟨.t h ht,ds,rfl,h0⟩
theorem mem2{Q:D->Prop}{a b:D}(h1:Q a)(h2:Q b):∀ d∈[a,b],Q d:=λ d hd=>by
 simp only[mem_cons,not_mem_nil,or_false] at hd
 rcases hd with rfl | rfl
 ·exact h1
 ·exact h2
theorem mem3{Q:D->Prop}{a b c:D}(h1:Q a)(h2:Q b)(h3:Q c):∀ d∈[a,b,c],Q d:=λ d hd=>by
 simp only[mem_cons,not_mem_nil,or_false] at hd
 rcases hd with rfl | rfl | rfl
 ·exact h1
 ·exact h2
 ·exact h3
section
variable {S:Sto}{P:D->Sto->Prop}{PD:D->Prop}{k:Nat}
theorem e_or{p q:Bool}{a b:Ex}{env:En}{c:Cl}(ha:∀ P:D->Sto->Prop,P (.bl p) S->Ev (ev c a env S) P)(hb:∀ P:D->Sto->Prop,P (.bl q) S->Ev (ev c b env S) P)(kk:P (.bl (p||q)) S):Ev (ev c (.or a b) env S) P:=
 ZW<|ha _<|t_bl ⟨λ h=>by subst h;exact kk,λ h=>by subst h;exact hb _ kk⟩
theorem t2:2<=16777216:=by decide
theorem t3:3<=16777216:=by decide
theorem t5:5<=16777216:=by decide
theorem nle{N n:Nat}(h:n<=N+1)(h2:¬ (n:Int)<2):∃ j,n=j+1/\j<=N/\1<=j:=⟨n - 1,by lia,by lia,by lia⟩
theorem VH{w v:Int}{env:En}{c:Cl}{W:Nat}{a ss:Sms}{Q:Fl->Prop}(he:env[3]?=some (some (.int w)))(ka:w=v->Fo (evSs c W a env S) (UA c W ss Q))(kb:w≠v->Fo (evSs c W ss env S) Q):Fo (evSs c W (.cons (.ifs (.cmp .Eq (.var 3) (.int v)) a .nil) ss) env S) Q:=
 Zd<|Zk<|YX<|Zc he<|Zg<|Zal<|t_bl<|two_of ka<|λ h=>Ym<|Zh<|kb h
theorem Jh{ms:List D}{r:Nat}(h0:0<ms.length)(h1:ms.length<=1000)(hm:∀ m∈ms,Mn 1 m):∀ (N n:Nat) {L:Nat}{S:Sto}{P:D->Sto->Prop},n<=N->n+1<=L->1<=n->Pk S r->(∀ m S',Mn n m->Pk S' r->Fr r S S'->P m S')->Ev ((Za T 40 L).fn "_law_machine" [.ref r,.int (n:Int),.lst ms] S) P
 |0,n,L,S,P,hN,hL,hn,hp,kk=>by lia
 | N+1,n,L,S,P,hN,hL,hn,hp,kk=>by
  have ih:=λ (n:Nat) {L:Nat}{S:Sto}{P:D->Sto->Prop}=>Jh (r:=r) h0 h1 hm N n (L:=L) (S:=S) (P:=P);obtain⟨L,rfl,hj⟩:=up hL;refine Zu Wr rfl ?_;dsimp only[F_law_machine];walk_at "al";refine Zd<|ZD<|ZU (m:=7) (by lia) hp rfl (by decide) (by decide) (λ P h=>Zg h)<|λ w S1 hp1 g1 _ w0 w7=>g_nm<|Zh ?_;refine Zd<|Zk<|e_or (p:=decide<|(n:Int)<2) (q:=decide<|w<2) (λ P h=>YX<|Zc rfl<|Zg<|c_lt h) (λ P h=>YX<|Zc rfl<|Zg<|c_lt h)<|t_bl ⟨λ h=>?_,λ h=>?_⟩
  ·refine Zd<|ZY<|Zw<|Zc rfl<|ZU (m:=(ms.length:Int)) (by lia) hp1 rfl (by lia) (by lia) (λ P h=>Yz<|Zb<|Zc rfl<|Ze<|Op.mk Yk h)<|λ d S2 hp2 g2 _ d0 dl=>ZQ d0 dl λ x hx=>?_;exact kk x S2 ⟨(hm x hx).tr.up (by omega),(hm x hx).ne⟩ hp2<|g1.trans g2
  ·rw[Bool.or_eq_false_iff] at h;obtain⟨j,rfl,hjN,hj1⟩:=nle hN<|of_decide_eq_false h.1;have hw2:=of_decide_eq_false h.2;refine Ym<|Zh<|Zd<|ZD<|Zy<|Zb<|Zc rfl<|Zb<|Zv<|Zc rfl<|Zg<|Wv<|Zb<|Zc rfl<|Ze ?_;rw[show ((j+1:Nat):Int) - 1=(j:Int) from by lia];refine ih j hjN (by lia) hj1 hp1<|λ m S2 hm1 hp2 g2=>g_nm<|Zh ?_;refine VH rfl (λ h=>?_) (λ h2=>VH rfl (λ h=>?_)<|λ h3=>VH rfl (λ h=>?_)<|λ h4=>?_)
   ·exact Zd<|ZY<|ZG<|Zb<|Z1<|Zb<|Zc rfl<|Ze ⟨t2,kk _ S2 (UG (by show 2<50;decide) (cons_ne_nil _ _)<|mem2 (.s<|by decide +kernel) hm1.tr) hp2<|g1.trans g2⟩
   ·refine Zd<|ZY<|ZG<|Zb<|Z1<|Zb<|Zw<|ZX<|Yy<|Zb<|Zg<|Zb<|Zg<|Zb<|Zg<|Zb<|Zg<|Zb ?_;refine ZU (m:=61) (by lia) hp2 rfl (by decide) (by decide) (λ P h=>Zg h)<|λ d S3 hp3 g3 _ d0 d1=>Ze ⟨t5,?_⟩;refine ZU (m:=5) (by lia) hp3 rfl (by decide) (by decide) (λ P h=>Zg h)<|λ i S4 hp4 g4 _ i0 i4=>ZQ i0 i4 λ x hx=>Zb<|Zc rfl<|Ze ⟨t3,?_⟩;have hx':∃ z:Int,x=.int z:=by
     simp only[mem_cons,not_mem_nil,or_false] at hx
     rcases hx with rfl | rfl | rfl | rfl | rfl<;>exact⟨_,rfl⟩
    obtain⟨z,rfl⟩:=hx';exact kk _ S4 (UG (by show 3<50;decide) (cons_ne_nil _ _)<|mem3 (.s<|by decide +kernel) .i hm1.tr) hp4<|((g1.trans g2).trans g3).trans g4
   ·refine Zd<|ZY<|ZG<|Zb<|Z1<|Zb<|Zw<|ZX<|Yy<|Zb<|Zg<|Zb<|Zg<|Zb<|Zg<|Zb<|Zg<|Zb<|Zv<|Zg ?_;refine ZU (m:=60) (by lia) hp2 rfl (by decide) (by decide) (λ P h=>Zg h)<|λ d S3 hp3 g3 _ d0 d1=>p_add<|Ze ⟨t5,?_⟩;refine ZU (m:=5) (by lia) hp3 rfl (by decide) (by decide) (λ P h=>Zg h)<|λ i S4 hp4 g4 _ i0 i4=>ZQ i0 i4 λ x hx=>Zb<|Zc rfl<|Ze ⟨t3,?_⟩;have hx':∃ z:Int,x=.int z:=by
     simp only[mem_cons,not_mem_nil,or_false] at hx
     rcases hx with rfl | rfl | rfl | rfl | rfl<;>exact⟨_,rfl⟩
    obtain⟨z,rfl⟩:=hx';exact kk _ S4 (UG (by show 3<50;decide) (cons_ne_nil _ _)<|mem3 (.s<|by decide +kernel) .i hm1.tr) hp4<|((g1.trans g2).trans g3).trans g4
   ·refine Zd<|ZD<|Zy<|Zb<|Zc rfl<|Zb<|Yz<|Zb<|Zg<|Zb<|Zv<|Zc rfl<|Zg<|Wv<|Ze<|Op.mk zL<|Zb<|Zc rfl<|Ze ?_;rw[show (if ((j+1:Nat):Int) - 1<2 then ((j+1:Nat):Int) - 1 else 2)=((min 2 j:Nat):Int) from by split<;>lia]
    refine ih (min 2 j) (by lia) (by lia) (by lia) hp2<|λ n S3 hm2 hp3 g3=>g_nm<|Zh ?_;have hn2:Tr (j+2) n:=hm2.tr.up (by omega);obtain⟨b,hb1,hb⟩:∃ b:Str,b.length<1000000/\∀ P:D->Prop,P (.str b)->Op (subD S3 (.lst [.str "both",.str "either"])<|.int<|w - 5) P:=by
     have:w=5\/w=6:=by lia
     rcases this with rfl | rfl
     ·exact⟨"both",by decide +kernel,λ P h=>ZK (d:=.str "both") rfl h⟩
     ·exact⟨"either",by decide +kernel,λ P h=>ZK (d:=.str "either") rfl h⟩
    refine Zd<|ZY<|Zv<|ZG<|Zb<|Zw<|ZX<|Yy<|Zb<|Z1<|Zb<|Z1<|Ze ⟨t2,Zv<|Zc rfl<|Zg<|Wv<|hb _<|Ze ⟨by show 1<=16777216;decide,?_⟩⟩
    refine Zw<|ZX<|Yy<|Zb<|ZG<|Zb<|Zc rfl<|Zb<|Zc rfl<|Ze ⟨t2,Zb<|ZG<|Zb<|Zc rfl<|Zb<|Zc rfl<|Ze ⟨t2,Ze ⟨t2,?_⟩⟩⟩;refine ZU (m:=2) (by lia) hp3 rfl (by decide) (by decide) (λ P h=>Zg h)<|λ i S4 hp4 g4 _ i0 i2=>ZQ i0 i2 λ x hx=>?_;simp only[mem_cons,not_mem_nil,or_false] at hx;have hg:=((g1.trans g2).trans g3).trans g4
    rcases hx with rfl | rfl
    ·exact YB (by show 1+2<=16777216;decide)<|kk _ S4 (UG (by show 3<50;decide) (cons_ne_nil _ _)<|mem3 (.s hb1) hm1.tr hn2) hp4 hg
    ·exact YB (by show 1+2<=16777216;decide)<|kk _ S4 (UG (by show 3<50;decide) (cons_ne_nil _ _)<|mem3 (.s hb1) hn2 hm1.tr) hp4 hg
end
open PySem L2 PF LZ LW LK
section
variable {S:Sto}{P:D->Sto->Prop}{PD:D->Prop}{k:Nat}
noncomputable def qO:List D:=[.str "table",.str "mirrored",.str "later",.str "slowed",.str "both",.str "either",.str "Later",.str "lat",.str "boths",.str "",.non,.int 0]
noncomputable def qP:List D:=[.int (-1),.int 0,.int 1,.int 2,.int 59,.int 60,.int 61,.int (10 ^ 30),.bl true,.bl false,.non,.str "1",.tup [.int 1],.lst [.int 1]]
theorem ZcO:∀ x∈qO,G S x:=by
 intro x hx;unfold qO at hx;simp only[mem_cons,not_mem_nil,or_false] at hx
 rcases hx with rfl | rfl | rfl | rfl | rfl | rfl | rfl | rfl | rfl | rfl | rfl | rfl<;>first | exact WL | exact Ji | exact Y3 (by decide +kernel)
theorem ZcP:∀ x∈qP,G S x:=by
 have t1:G S (.tup [.int 1]):=.tup (by decide) (λ d h=>by rw[List.mem_singleton.1 h];exact Ji)
 have t2:G S (.lst [.int 1]):=.lst (by decide) (λ d h=>by rw[List.mem_singleton.1 h];exact Ji)
 intro x hx;unfold qP at hx;simp only[mem_cons,not_mem_nil,or_false] at hx
 rcases hx with rfl | rfl | rfl | rfl | rfl | rfl | rfl | rfl | rfl | rfl | rfl | rfl | rfl | rfl<;>first | exact WL | exact g_bl | exact Ji | exact Y3 (by decide +kernel) | exact t1 | exact t2
theorem ZcQ{r L n:Nat}{old:D}(hL:3<=L)(hp:Pk S r)(ho:Tr n old)(kk:∀ x S',G S' x->Pk S' r->Fr r S S'->P x S'):Ev ((Za T 40 L).fn "_law_other" [.ref r,old] S) P:=by
 obtain⟨L,rfl,hj⟩:=up hL;refine Zu zg rfl ?_;dsimp only[F_law_other];walk_at "al";cases ho with
 | s h=>
  refine Zd<|Zk<|YY<|Zc rfl<|YE (Zp (Tr.s (n:=0) h).g.w) ?_;rw[show isS (.str _)=true from rfl];refine t_bl ⟨λ _=>?_,λ z=>nomatch z⟩;refine Zd<|ZD ⟨.lst qO,S,by kernel_rfl,g_nm<|Zh ?_⟩;exact Zd<|ZY<|Zw<|Zc rfl<|ZU (m:=12) (by lia) hp rfl (by decide) (by decide) (λ P h=>Yz<|Zb<|Zc rfl<|Ze<|Op.mk Yk h)<|λ d S3 hp3 g3 _ d0 dl=>ZQ d0 dl λ x hx=>kk x S3 (ZcO x hx) hp3 g3
 | i=>
  refine Zd<|Zk<|YY<|Zc rfl<|YE (Zp (Tr.i (n:=0)).g.w) ?_;rw[show isS (.int _)=false from rfl];refine t_bl ⟨(λ z=>nomatch z),λ _=>Ym<|Zh ?_⟩;refine Zd<|Zk<|YY<|Zc rfl<|LC.YC LM.Yp rfl ?_;rw[show (decide (("int":String)="int")||(decide (("int":String)="bool")&&decide (("int":String)="int")))=true by decide];refine t_bl ⟨λ _=>?_,λ z=>nomatch z⟩;refine Zd<|ZD ⟨.lst qP,S,by kernel_rfl,g_nm<|Zh ?_⟩;exact Zd<|ZY<|Zw<|Zc rfl<|ZU (m:=14) (by lia) hp rfl (by decide) (by decide) (λ P h=>Yz<|Zb<|Zc rfl<|Ze<|Op.mk Yk h)<|λ d S3 hp3 g3 _ d0 dl=>ZQ d0 dl λ x hx=>kk x S3 (ZcP x hx) hp3 g3
 | t h1 h2=>
  have hg:G S (.tup _):=(Tr.t h1 h2).g;refine Zd<|Zk<|YY<|Zc rfl<|YE (Zp hg.w) ?_;rw[show isS (.tup _)=false from rfl];refine t_bl ⟨(λ z=>nomatch z),λ _=>Ym<|Zh ?_⟩;refine Zd<|Zk<|YY<|Zc rfl<|LC.YC LM.Yp rfl ?_;rw[show (decide (("tuple":String)="int")||(decide (("tuple":String)="bool")&&decide (("int":String)="int")))=false by decide];refine t_bl ⟨(λ z=>nomatch z),λ _=>Ym<|Zh ?_⟩;exact Zd<|ZY<|Zy<|Zb<|Zc rfl<|Zb<|Zc rfl<|Ze<|ZbU (by lia) hp hg kk
theorem Zdf{ds:List D}{a:Nat}{x:D}(hl:ds.length<50)(h:a<ds.length)(hd:∀ d∈ds,G S d)(hx:G S x):G S (.tup (ds.take a++[x]++ds.drop (a+1))):=by
 refine .tup ?_ λ d h=>?_
 ·simp only[length_append,length_take,length_drop,length_cons,length_nil];omega
 ·rcases List.mem_append.1 h with h | h
  ·rcases List.mem_append.1 h with h | h
   ·exact hd d<|mem_of_mem_take h
   ·rw[List.mem_singleton.1 h];exact hx
  ·exact hd d<|mem_of_mem_drop h
theorem ZbW{r:Nat}:∀ (n:Nat) {ds:List D}{L:Nat}{S:Sto}{P:D->Sto->Prop},ds.length<50->(∀ d∈ds,Tr n d)->ds≠[]->n+5<=L->Pk S r->(∀ x S',G S' x->Pk S' r->Fr r S S'->P x S')->Ev ((Za T 40 L).fn "_law_spoilt" [.ref r,.tup ds] S) P:=by
 intro n
 induction n with
 |zero=>?_
 |succ n ih=>?_
 all_goals
  intro ds L S P hl ht hne hL hp kk;obtain⟨L,rfl,hj⟩:=up hL;have h0:0<ds.length:=List.length_pos_iff.2 hne;refine Zu qL rfl ?_;dsimp only[F_law_spoilt];walk_at "al";refine Zd<|Zc6<|ZU (m:=(ds.length:Int)) (by lia) hp rfl (by lia) (by lia) (λ P h=>Yz<|Zb<|Zc rfl<|Ze<|Op.mk UP h)<|λ at' S1 hp1 g1 _ a0 a1=>?_;refine ZU (m:=8) (by lia) hp1 rfl (by decide) (by decide) (λ P h=>Zg h)<|λ w S2 hp2 g2 _ w0 w8=>Zh ?_;obtain⟨a,rfl⟩:∃ a:Nat,at'=(a:Int):=⟨at'.toNat,by lia⟩;have ha:a<ds.length:=by lia
  have g12:=g1.trans g2;have hat:atI ds (a:Int)=some ds[a]:=YJ<|oAt ha;have htr:=ht ds[a] (getElem_mem ha);have hg:∀ S:Sto,∀ d∈ds,G S d:=λ S d hd=>(ht d hd).g;have rest:Fo (evSs (Za T 40 L) 40 (.cons (.ifs (.cmp .Lt (.var 3)<|.int<|5) (.cons (.ret<|.call "_law_put"<|.cons (.var 1)<|.cons (.var 2)<|.cons (.call "_law_other"<|.cons (.var 0)<|.cons (.sub (.var 1)<|.var 2) .nil) .nil) .nil) .nil)<|.cons (.ifs (.cmp .Eq (.var 3)<|.int<|5) (.cons (.ret<|.bin .Add (.slc (.var 1) .no<|.yes<|.var 2)<|.slc (.var 1) (.yes<|.bin .Add (.var 2)<|.int<|1) .no) .nil) .nil)<|.cons (.ifs (.cmp .Eq (.var 3)<|.int<|6) (.cons (.ret<|.bin .Add (.bin .Add (.slc (.var 1) .no<|.yes<|.var 2)<|.tup<|.cons (.sub (.var 1)<|.var 2) .nil)<|.slc (.var 1) (.yes<|.var 2) .no) .nil) .nil)<|.cons (.ret<|.sub (.lv<|.dsp<|.cons (.lv<|.blt .list<|.cons (.var 1) .nil)<|.cons (.tup<|.cons (.var 1) .nil)<|.cons (.rev<|.var 1)<|.cons (.bin .Add (.var 1)<|.tup<|.cons (.int<|0) .nil) .nil)<|.call "_law_pick"<|.cons (.var 0)<|.cons (.int<|4) .nil) .nil) [some<|.ref r,some<|.tup ds,some<|.int (a:Int),some<|.int w] S2) (finK P):=by
   refine Zd<|Zk<|YX<|Zc rfl<|Zg<|c_lt<|t_bl<|two_of (λ h=>?_)<|λ h=>Ym<|Zh ?_
   ·refine Zd<|ZY<|Zy<|Zb<|Zc rfl<|Zb<|Zc rfl<|Zb<|Zy<|Zb<|Zc rfl<|Zb<|Zw<|Zc rfl<|Zc rfl<|ZL hat<|Ze ?_;refine ZcQ (by lia) hp2 htr<|λ x S3 hx hp3 g3=>Ze ?_;refine Vl ha (by lia) (by lia) ?_;walk_at "go";exact kk _ S3 (Zdf hl ha (hg S3) hx) hp3<|g12.trans g3
   refine VH rfl (λ h=>?_)<|λ h5=>VH rfl (λ h=>?_)<|λ h6=>?_
   ·refine Zd<|ZY<|Zv<|YZ<|Zc rfl<|Jg<|Y0<|Zc rfl ?_;refine⟨_,rfl,YA (Zaz ha) ?_⟩;refine YZ<|Zc rfl<|Y0<|Zv<|Zc rfl<|Zg<|p_add ?_;refine⟨_,rfl,Jg ?_⟩;rw[show ((a:Int)+1)=((a+1:Nat):Int) by omega];refine YA (Zay<|by omega) (YB ?_ ?_)
    ·simp only[length_take,length_drop];show _<=16777216;omega
    ·walk_at "go";refine kk _ S2 (.tup ?_ λ d h=>?_) hp2 g12
     ·simp only[length_append,length_take,length_drop];omega
     ·rcases List.mem_append.1 h with h | h
      ·exact hg S2 d<|mem_of_mem_take h
      ·exact hg S2 d<|mem_of_mem_drop h
   ·refine Zd<|ZY<|Zv<|Zv<|YZ<|Zc rfl<|Jg<|Y0<|Zc rfl ?_;refine⟨_,rfl,YA (Zaz ha) ?_⟩;refine ZG (Zb<|Zw<|Zc rfl<|Zc rfl<|ZL hat<|Ze ⟨by show 1<=16777216;decide,YB (by rw[length_take];show _<=16777216;simp only[length_cons,length_nil];omega) ?_⟩)
    refine YZ<|Zc rfl<|Y0<|Zc rfl ?_;refine⟨_,rfl,Jg ?_⟩;refine YA (Zay<|by omega)<|YB ?_ ?_
    ·simp only[length_append,length_take,length_drop,length_cons,length_nil];show _<=16777216;omega
    ·walk_at "go";refine kk _ S2 (.tup ?_ λ d h=>?_) hp2 g12
     ·simp only[length_append,length_take,length_drop,length_cons,length_nil];omega
     ·rcases List.mem_append.1 h with h | h
      ·rcases List.mem_append.1 h with h | h
       ·exact hg S2 d<|mem_of_mem_take h
       ·rw[List.mem_singleton.1 h];exact hg S2 _<|getElem_mem ha
      ·exact hg S2 d<|mem_of_mem_drop h
   ·refine Zd<|ZY<|Zw<|ZX<|Yy<|Zb<|ZX<|qv<|Zb<|Zc rfl<|Ze ?_;refine⟨ds,rfl,?_⟩;refine Zb (ZG<|Zb<|Zc rfl<|Ze ⟨by show 1<=16777216;decide,Zb<|Zgd<|Zc rfl ⟨ds,rfl,Zb<|Zv<|Zc rfl<|ZG<|Zb<|Zg<|Ze ⟨by show 1<=16777216;decide,YB (by show _+1<=16777216;omega)<|Ze ⟨by show 4<=16777216;decide,?_⟩⟩⟩⟩)
    refine ZU (m:=4) (by lia) hp2 rfl (by decide) (by decide) (λ P h=>Zg h)<|λ i S3 hp3 g3 _ i0 i4=>ZQ i0 i4 λ x hx=>?_;walk_at "go";refine kk x S3 ?_ hp3<|g12.trans g3;simp only[mem_cons,not_mem_nil,or_false] at hx
    rcases hx with rfl | rfl | rfl | rfl
    ·exact .lst (by omega)<|hg S3
    ·exact .tup (by show 1<60;decide) λ d hd=>by rw[List.mem_singleton.1 hd];exact .tup (by omega)<|hg S3
    ·exact .tup (by rw[List.length_reverse];omega) λ d hd=>hg S3 d<|List.mem_reverse.1 hd
    ·refine .tup (by rw[length_append];show _+1<60;omega) λ d hd=>?_
     rcases List.mem_append.1 hd with hd | hd
     ·exact hg S3 d hd
     ·rw[List.mem_singleton.1 hd];exact Ji
 ·refine Zd (Zk<|JP<|YX<|Zc rfl<|Zg<|c_lt<|t_bl<|two_of (λ h=>?_)<|λ h=>?_)
  ·refine JP<|YY<|Zw<|Zc rfl<|Zc rfl<|ZL hat<|Yu (Zp (hg S2 _<|getElem_mem ha).w) ?_;have e:isT ds[a]=false:=by generalize ds[a]=d at htr;cases htr<;>rfl
   rw[e];exact t_bl ⟨(λ z=>nomatch z),λ _=>t_bl ⟨(λ z=>nomatch z),λ _=>Ym<|Zh rest⟩⟩
  ·rw[oAh h];exact t_bl ⟨(λ z=>nomatch z),λ _=>Ym<|Zh rest⟩
 ·refine Zd (Zk<|JP<|YX<|Zc rfl<|Zg<|c_lt<|t_bl<|two_of (λ h=>?_)<|λ h=>?_)
  ·refine JP<|YY<|Zw<|Zc rfl<|Zc rfl<|ZL hat<|Yu (Zp (hg S2 _<|getElem_mem ha).w) ?_;by_cases hT:∃ es,ds[a]=.tup es
   ·obtain⟨es,he⟩:=hT;rw[he] at hat htr ⊢;rw[show isT (.tup es)=true from rfl];refine t_bl ⟨λ _=>?_,λ z=>nomatch z⟩;refine YX (Zw<|Zc rfl<|Zc rfl<|ZL hat<|ZG<|Ze ⟨by show 0<=16777216;decide,ZhO ?_⟩)
    cases es with
    | nil=>
     rw[show (!([]:List D).isEmpty)=false from rfl];exact t_bl ⟨(λ z=>nomatch z),λ _=>Ym<|Zh rest⟩
    | cons e es=>
     rw[show (!(e::es).isEmpty)=true from rfl];refine t_bl ⟨λ _=>?_,λ z=>nomatch z⟩;refine Zd<|ZY<|Zy<|Zb<|Zc rfl<|Zb<|Zc rfl<|Zb<|Zy<|Zb<|Zc rfl<|Zb<|Zw<|Zc rfl<|Zc rfl<|ZL hat<|Ze ?_;cases htr with
     | t q1 q2=>
      refine ih q1 q2 (cons_ne_nil _ _) (by lia) hp2<|λ x S3 hx hp3 g3=>Ze ?_;refine Vl ha (by lia) (by lia) ?_;walk_at "go";exact kk _ S3 (Zdf hl ha (hg S3) hx) hp3<|g12.trans g3
   ·have e:isT ds[a]=false:=by
     cases hq:ds[a] with
     |tup es=>exact absurd ⟨es,hq⟩ hT
     |_=>rfl
    rw[e];exact t_bl ⟨(λ z=>nomatch z),λ _=>t_bl ⟨(λ z=>nomatch z),λ _=>Ym<|Zh rest⟩⟩
  ·rw[oAh h];exact t_bl ⟨(λ z=>nomatch z),λ _=>Ym<|Zh rest⟩
end
open PySem L2 PF LZ LW LK
section
variable {S:Sto}{P:D->Sto->Prop}{PD:D->Prop}{k:Nat}
theorem qQ{c:Cl}{env:En}{own:Nat}{caps:List Nat}{a elt:Ex}{R:List D->Sto->Prop}{z:Int}(hi:ev c a env S=some (.int z,S))(z1:0<=z)(z2:z<1000)(Pv:Nat->En->Sto->List D->Prop)(h0:Pv 0 (ZJ own caps env) S [])
  (hl:∀ i e2 S2 acc,Pv i e2 S2 acc->acc.length=i)
  (hs:∀ (i:Nat) (e2:En) (S2:Sto) (acc:List D),i<z.toNat->Pv i e2 S2 acc->Ev (ev c elt (e2.set 1 (some (.int i))) S2) λ x S3=>Pv (i+1) (e2.set 1 (some (.int i))) S3 (acc++[x]))
  (hd:∀ e2 S2 acc,Pv z.toNat e2 S2 acc->R acc S2):Es (evL c (.comp own caps (.name 1) (.rng1 a) .nil elt) env S) R:=by
 have hi':evI c (.rng1 a) env S=some (.vs<|(List.range z.toNat).map λ (k:Nat)=>D.int<|0+(k:Int),S):=by
  dsimp only[evI];rw[hi];show (if -(2 ^ 62)<=z/\z<2 ^ 62 then _ else _)=_;rw[if_pos ⟨by omega,by omega⟩]
 refine UB _ _ S hi' Pv h0 (.inl rfl) ?_ ?_
 ·intro i d e2 S2 acc hd' hp;obtain⟨a1,rfl⟩:=VN hd';refine g_nm<|Vw ⟨λ _=>?_,λ z=>nomatch z⟩;refine Ev.mono (hs i e2 S2 acc a1 hp) λ x S3 h=>⟨?_,h⟩;rw[hl i e2 S2 acc hp];show i<16777216;omega
 ·intro e2 S2 acc hp;rw[length_map,length_range] at hp;exact hd e2 S2 acc hp
theorem ZcR{ms:List D}{r L:Nat}(h0:ms.length=2)(hm:∀ m∈ms,Mn 1 m)(hL:2<=L)(hp:Pk S r)(kk:∀ m S',Mn 4 m->Pk S' r->Fr r S S'->P m S'):Ev ((Za T 40 L).fn "_law_eight" [.ref r,.lst ms] S) P:=by
 obtain⟨L,rfl,hj⟩:=up hL;refine Zu zj rfl ?_;dsimp only[F_law_eight];walk_at "al";refine Zd<|ZD<|ZX<|qQ (z:=8) rfl (by decide) (by decide) (λ i e2 S2 acc=>(∃ y0 y1,e2=[y0,y1,some<|.ref r,some<|.lst ms])/\Pk S2 r/\Fr r S S2/\acc.length=i/\∀ m∈acc,Mn 1 m) ⟨⟨_,_,rfl⟩,hp,.refl,rfl,λ _ h=>nomatch h⟩ (λ i e2 S2 acc h=>h.2.2.2.1) ?_ ?_
 ·rintro i e2 S2 acc hi ⟨⟨y0,y1,rfl⟩,hp2,f2,hla,hacc⟩;show Ev (ev _ _ [y0,some<|.int i,some<|.ref r,some<|.lst ms] S2) _;obtain⟨L,rfl,_⟩:=up (n:=0) (show 0+1<=L by omega);refine Zw (Zc rfl<|Zy<|Zb<|Zc rfl<|Zb<|Zg<|Ze<|ZP wt hp2 (by decide) (by decide)<|λ d S3 hp3 f3 _ d0 d1=>ZQ d0 (by rw[h0];exact d1) λ x hx=>?_)
  refine⟨⟨_,_,rfl⟩,hp3,f2.trans f3,by rw[length_append,hla];rfl,λ m hm'=>?_⟩
  rcases List.mem_append.1 hm' with h | h
  ·exact hacc m h
  ·rw[List.mem_singleton.1 h];exact hm x hx
 ·rintro e2 S2 acc ⟨_,hp2,f2,hla,hacc⟩;refine g_nm (Zh<|Zd<|JQ<|Zg ⟨3,λ i e2 S3=>∃ (acc:List D) (y z:Option D),e2=[some<|.ref r,some<|.lst ms,some<|.lst acc,y,z]/\Pk S3 r/\Fr r S S3/\acc.length=2 ^ (3 - i)/\∀ m∈acc,Mn (i+1) m,rfl,by decide,by decide,⟨acc,_,_,rfl,hp2,f2,hla,hacc⟩,?_,?_⟩)
  ·rintro i e2 S3 hi ⟨acc,y,z,rfl,hp3,f3,hla,hacc⟩;have hi3:i<3:=hi;refine g_nm (Zd<|ZD<|Zw<|ZX<|Yy<|Zb<|Z1<|Zb<|Z1<|Ze ⟨by show 2<=16777216;decide,?_⟩)
   refine ZU (m:=2) (by lia) hp3 rfl (by decide) (by decide) (λ P h=>Zg h)<|λ d S4 hp4 f4 _ d0 d2=>ZQ d0 d2 λ w hw=>?_;obtain⟨w,rfl,hwl⟩:∃ v:Str,w=.str v/\v.length<1000000:=by
    simp only[mem_cons,not_mem_nil,or_false] at hw
    rcases hw with rfl | rfl
    ·exact⟨_,rfl,by decide +kernel⟩
    ·exact⟨_,rfl,by decide +kernel⟩
   have hlen:acc.length=2 * 2 ^ (2 - i):=by
    rw[hla]
    match i,hi3 with
    |0,_=>rfl
    |1,_=>rfl
    |2,_=>rfl
   have hsm:2 ^ (2 - i)<=4:=by
    match i,hi3 with
    |0,_=>decide
    |1,_=>decide
    |2,_=>decide
   generalize 2 ^ (2 - i)=h at hlen hsm;refine g_nm<|Zh<|Zd<|ZD<|ZX<|qQ (z:=(h:Int)) ?_ (by omega) (by omega) (λ i2 e2 S5 new=>(∃ y0 y1,e2=[y0,y1,some<|.lst acc,some<|.str w])/\S5=S4/\new.length=i2/\∀ m∈new,Mn (i+2) m) ⟨⟨_,_,rfl⟩,rfl,rfl,λ _ h=>nomatch h⟩ (λ i e2 S2 acc h=>h.2.2.1) ?_ ?_
   ·refine LM.Zdc<|Zv<|Yz<|Zb<|Zc rfl<|Ze<|Op.mk Yk<|Zg ?_;refine Zbv (by omega) (by omega) ?_;refine⟨?_,rfl⟩;congr 1
    omega
   ·rintro i2 e2 S5 new hi2 ⟨⟨y0,y1,rfl⟩,rfl,hln,hnew⟩;show Ev (ev _ _ [y0,some<|.int i2,some<|.lst acc,some<|.str w] S5) _;have hi2':i2<h:=by omega
    refine ZG<|Zb<|Zc rfl<|Zb<|Zw<|Zc rfl<|Zv<|Zg<|Zc rfl ?_;refine qw (by omega) (by omega) ?_;refine ZQ (by omega) (by omega) λ x hx=>?_;refine Zb<|Zw<|Zc rfl<|Zv<|Zv<|Zg<|Zc rfl ?_;refine qw (by omega) (by omega)<|Zg<|p_add ?_;refine ZQ (by omega) (by omega) λ x2 hx2=>Ze ⟨by show 3<=16777216;decide,?_⟩
    refine⟨⟨_,_,rfl⟩,rfl,by rw[length_append,hln];rfl,λ m hm'=>?_⟩
    rcases List.mem_append.1 hm' with h | h
    ·exact hnew m h
    ·rw[List.mem_singleton.1 h];exact UG (by show 3<50;decide) (cons_ne_nil _ _)<|mem3 (.s hwl) (hacc x hx).tr (hacc x2 hx2).tr
   ·rintro e2 S5 new ⟨_,rfl,hln,hnew⟩;refine g_nm<|Zh<|Ym<|zM ?_;refine⟨new,_,_,rfl,hp4,f3.trans f4,?_,hnew⟩;rw[hln];have:acc.length=2 ^ (3 - i):=hla;rw[hlen] at this;have e:2 ^ (3 - i)=2 * 2 ^ (3 - (i+1)):=by
     match i,hi3 with
     |0,_=>rfl
     |1,_=>rfl
     |2,_=>rfl
    rw[e] at this;omega
  ·rintro e2 S3 ⟨acc,y,z,rfl,hp3,f3,hla,hacc⟩;refine Zh (Zd<|ZY<|Zw<|Zc rfl<|Zg<|ZQ (by decide) (by rw[hla];decide) λ x hx=>?_)
   walk_at "go";exact kk x S3 (hacc x hx) hp3 f3
end
section
theorem g_mn{S:Sto}{n:Nat}{m:D}(h:Mn n m):G S m:=h.tr.g
theorem Zgm{ns:List Int}(hn:ns.length<=63):Ev ((Za T 40 30).fn "law" [.lst (ns.map D.int)] []) (λ d _=>d=.bl true):=by
 refine Zu Zaq rfl ?_;dsimp only[Flaw];walk_at "al";refine Zd<|JQ ?_;walk_at "go";refine⟨_,λ i e2 S2=>∃ t1 t2 t3 t4 t5 t6,e2=[some<|.lst<|ns.map D.int,t1,t2,t3,t4,t5,t6],rfl,by split<;>lia,by split<;>lia,⟨none,none,none,none,none,none,rfl⟩,?_,?_⟩
 ·rintro i e2 S2 hi ⟨t1,t2,t3,t4,t5,t6,rfl⟩;have hi4:(i:Int)<=100:=by
   split at hi<;>lia
  walk_at "go";refine Zew wt (by lia) hi4<|λ S3 p3 g3=>?_;generalize S2.length=r at *;refine g_nm<|Zh<|Zd<|ZD<|ZX<|Yy<|Zb<|Zy<|Zb<|Zc rfl<|Zb<|Zg<|Zb<|Zg<|Ze ?_;refine ZbI wt p3 (by decide) (by decide) (by decide) (by decide)<|λ q s f rows S4 tb p4 f4=>?_;refine Zb<|Zy<|Zb<|Zc rfl<|Zb<|Zg<|Zb<|Zg<|Ze ?_;refine ZbI wt p4 (by decide) (by decide) (by decide) (by decide)<|λ q2 s2 f2 rows2 S5 tb2 p5 f5=>Ze ⟨by show 2<=16777216;decide,?_⟩
  have hms:=mem2 (ZbV tb)<|ZbV tb2;have hl2:([tabOf q s f rows,tabOf q2 s2 f2 rows2]:List D).length=2:=rfl;generalize ([tabOf q s f rows,tabOf q2 s2 f2 rows2]:List D)=ms at hms hl2 ⊢;refine g_nm<|Zh<|Zd<|Zak [.int 4,.int 5,.int 2,.int 0] S5 rfl (λ _ e2 S6=>Pk S6 r/\∃ t4 t5 t6,e2=[some<|.lst<|ns.map D.int,some<|.int i,some<|.ref r,some<|.lst ms,t4,t5,t6]) ⟨p5,_,_,_,rfl⟩ ?_ ?_
  ·rintro j d e2 S6 hd ⟨p6,t4,t5,t6,rfl⟩;have hdd:∃ n:Nat,d=.int n/\n<=5/\(n=0\/1<=n):=by
    have:=mem_of_getElem? hd;simp only[mem_cons,not_mem_nil,or_false] at this
    rcases this with rfl | rfl | rfl | rfl
    ·exact⟨4,rfl,by decide,by decide⟩
    ·exact⟨5,rfl,by decide,by decide⟩
    ·exact⟨2,rfl,by decide,by decide⟩
    ·exact⟨0,rfl,by decide,by decide⟩
   obtain⟨n,rfl,hn5,hn0⟩:=hdd;refine g_nm ?_;show Fo (evSs _ _ _ [some<|.lst<|ns.map D.int,some<|.int i,some<|.ref r,some<|.lst ms,some<|.int (n:Int),t5,t6] S6) _;have main:∀ m S7,Mn 5 m->Pk S7 r->Fo (evSs (Za T 40 29) 40 (.cons (.asg (.name 6)<|.lv<|.dsp<|.cons (.var 5)<|.cons (.tup<|.cons (.str "mirrored")<|.cons (.var 5) .nil)<|.cons (.tup<|.cons (.str "slowed")<|.cons (.int<|1)<|.cons (.var 5) .nil) .nil)<|.cons (.asg (.name 6)<|.bin .Add (.var 6)<|.lv<|.comp 2 [2,5] (.name 1) (.rng1<|.int<|14) .nil (.call "_law_spoilt"<|.cons (.var 2)<|.cons (.var 3) .nil))<|.cons (.asg (.name 6)<|.bin .Add (.var 6)<|.lv<|.dsp<|.cons (.call "_law_odd"<|.cons (.var 2)<|.cons (.var 5) .nil)<|.cons (.tup<|.cons (.str "mirrored") .nil)<|.cons (.tup<|.cons (.str "later")<|.cons (.int<|1) .nil)<|.cons (.tup<|.cons (.str "both")<|.cons (.var 5) .nil) .nil)<|.cons (.ifs (.not<|.blt .all<|.cons (.lv<|.comp 2 [] (.name 1) (.seq<|.var 6) .nil (.call "_law_right"<|.cons (.var 1) .nil)) .nil) (.cons (.ret<|.bl false) .nil) .nil) .nil) [some<|.lst<|ns.map D.int,some<|.int i,some<|.ref r,some<|.lst ms,some<|.int (n:Int),some m,t6] S7) (Vv (λ e2 S6=>Pk S6 r/\∃ t4 t5 t6,e2=[some<|.lst<|ns.map D.int,some<|.int i,some<|.ref r,some<|.lst ms,t4,t5,t6])<|UA (Za T 40 29) 40 .nil<|Vv (λ e2 S2=>∃ t1 t2 t3 t4 t5 t6,e2=[some<|.lst<|ns.map D.int,t1,t2,t3,t4,t5,t6])<|UA (Za T 40 29) 40 (.cons (.ret<|.bl true) .nil)<|finK λ d _=>d=.bl true):=by
    intro m S7 hm p7;have gm:∀ S:Sto,G S m:=λ S=>g_mn hm;refine Zd<|ZD ⟨.lst [m,.tup [.str "mirrored",m],.tup [.str "slowed",.int 1,m]],S7,by kernel_rfl,g_nm<|Zh ?_⟩;have h1:∀ S:Sto,∀ x∈([m,.tup [.str "mirrored",m],.tup [.str "slowed",.int 1,m]]:List D),G S x:=λ S=>mem3 (gm S) (.tup (by show 2<60;decide)<|mem2 (Y3<|by decide +kernel)<|gm S)<|.tup (by show 3<60;decide)<|mem3 (Y3<|by decide +kernel) Ji<|gm S
    have l1:([m,.tup [.str "mirrored",m],.tup [.str "slowed",.int 1,m]]:List D).length=3:=rfl;generalize ([m,.tup [.str "mirrored",m],.tup [.str "slowed",.int 1,m]]:List D)=A at h1 l1 ⊢;obtain⟨ds,rfl,hne⟩:=hm.ne;have htr:=hm.tr;refine Zd<|ZD<|Zv<|Zc rfl<|ZX<|qQ (z:=14) rfl (by decide) (by decide) (λ i2 e2 S8 acc=>(∃ y0 y1,e2=[y0,y1,some<|.ref r,some<|.tup ds])/\Pk S8 r/\Fr r S7 S8/\acc.length=i2/\∀ x∈acc,G S8 x) ⟨⟨_,_,rfl⟩,p7,.refl,rfl,λ _ h=>nomatch h⟩ (λ i e2 S2 acc h=>h.2.2.2.1) ?_ ?_
    ·rintro i2 e2 S8 acc hi2 ⟨⟨y0,y1,rfl⟩,p8,f8,hla,hacc⟩;show Ev (ev _ _ [y0,some<|.int i2,some<|.ref r,some<|.tup ds] S8) _;refine Zy<|Zb<|Zc rfl<|Zb<|Zc rfl<|Ze ?_;cases htr with
     | t q1 q2=>
      refine ZbW 6 q1 q2 hne (by decide) p8<|λ x S9 hx p9 f9=>?_;refine⟨⟨_,_,rfl⟩,p9,f8.trans f9,by rw[length_append,hla];rfl,λ y hy=>?_⟩
      rcases List.mem_append.1 hy with h | h
      ·exact(hacc y h).fr p9 f9
      ·rw[List.mem_singleton.1 h];exact hx
    ·rintro e2 S8 B ⟨_,p8,f8,hlb,hB⟩;refine ZbP (by rw[l1,hlb];decide) (g_nm<|Zh ?_)
     refine Zd<|ZD<|Zv<|Zc rfl<|ZX<|Yy<|Zb<|Zy<|Zb<|Zc rfl<|Zb<|Zc rfl<|Ze ?_;refine ZbU (by decide) p8 (gm S8)<|λ x S9 hx p9 f9=>?_;refine Zb<|ZG<|Zb<|Z1<|Ze ⟨by show 1<=16777216;decide,?_⟩
     refine Zb<|ZG<|Zb<|Z1<|Zb<|Zg<|Ze ⟨by show 2<=16777216;decide,?_⟩
     refine Zb<|ZG<|Zb<|Z1<|Zb<|Zc rfl<|Ze ⟨by show 2<=16777216;decide,Ze ⟨by show 4<=16777216;decide,?_⟩⟩
     have hC:∀ y∈([x,.tup [.str "mirrored"],.tup [.str "later",.int 1],.tup [.str "both",.tup ds]]:List D),G S9 y:=by
      intro y hy;simp only[mem_cons,not_mem_nil,or_false] at hy
      rcases hy with rfl | rfl | rfl | rfl
      ·exact hx
      ·exact .tup (by decide) λ d hd=>by rw[List.mem_singleton.1 hd];exact Y3 (by decide +kernel)
      ·exact .tup (by decide)<|mem2 (Y3<|by decide +kernel) Ji
      ·exact .tup (by show 2<60;decide)<|mem2 (Y3<|by decide +kernel)<|gm S9
     have lC:([x,.tup [.str "mirrored"],.tup [.str "later",.int 1],.tup [.str "both",.tup ds]]:List D).length=4:=rfl;generalize ([x,.tup [.str "mirrored"],.tup [.str "later",.int 1],.tup [.str "both",.tup ds]]:List D)=C at hC lC ⊢;have lz:(A++B++C).length=21:=by rw[length_append,length_append,l1,hlb,lC];rfl
     have hall:∀ y∈A++B++C,G S9 y:=λ y hy=>by
      rcases List.mem_append.1 hy with hy | hy
      ·rcases List.mem_append.1 hy with hy | hy
       ·exact h1 S9 y hy
       ·exact(hB y hy).fr p9 f9
      ·exact hC y hy
     refine ZbP (by rw[length_append,l1,hlb,lC];decide)<|g_nm<|Zh ?_
     generalize A++B++C=Z at lz hall ⊢;refine Zd<|Zk<|Z2<|Yz<|Zb<|ZX<|Y1 (ds:=Z) (λ _=>.bl true) (λ e=>∃ y0 y1,e=[y0,y1]) rfl (by omega) ⟨_,_,rfl⟩ ?_<|Ze ?_
     ·rintro d hd e2 ⟨y0,y1,rfl⟩;refine⟨⟨_,_,rfl⟩,?_⟩;show Ev (ev _ _ [y0,some d] S9) _;exact Zy<|Zb<|Zc rfl<|Ze<|ZcN (hall d hd) (by decide) ⟨rfl,rfl⟩
     ·rw[show (Z.map λ _=>D.bl true)=(Z.map λ _=>true).map D.bl by rw[map_map];rfl]
      refine J3 ?_;rw[show ((Z.map λ _=>true).all id)=true by rw[all_map];exact List.all_eq_true.2 λ _ _=>rfl]
      walk_at "go";exact⟨p9,_,_,_,rfl⟩
   refine Zd<|ZD<|Zf9<|YX<|Zc rfl<|Zg<|Zal<|t_bl<|two_of (λ h=>?_)<|λ h=>?_
   ·exact Zy<|Zb<|Zc rfl<|Zb<|Zc rfl<|Ze<|ZcR hl2 hms (by decide) p6<|λ m S7 hm p7 f7=>g_nm<|Zh<|main m S7 ⟨hm.tr.up (by decide),hm.ne⟩ p7
   ·exact Zy<|Zb<|Zc rfl<|Zb<|Zc rfl<|Zb<|Zc rfl<|Ze<|Jh (by omega) (by omega) hms 5 n hn5 (by omega) (by omega) p6<|λ m S7 hm p7 f7=>g_nm<|Zh<|main m S7 ⟨hm.tr.up (by omega),hm.ne⟩ p7
  ·rintro e2 S6 ⟨p6,t4,t5,t6,rfl⟩;walk_at "go";exact⟨_,_,_,_,_,_,rfl⟩
 ·rintro e2 S2 ⟨t1,t2,t3,t4,t5,t6,rfl⟩;walk_at "go";rfl
end
open PySem L2 PF
theorem kd:∀ p∈Dz.zip Fz,Kd T 40 p.1.1 (top p.1.2) p.2:=by
 dsimp only[Dz,Fz,List.zip_cons_cons,List.zip_nil_left]
 repeat refine fm (by walk_at "kd") ?_
 exact List.forall_mem_nil _
theorem km:∀ p∈Mz.zip Qz,Km T 40 p.1.1 p.1.2.1 (mth p.1.2.2.1 p.1.2.2.2) p.2:=by
 dsimp only[Mz,Qz,List.zip_cons_cons,List.zip_nil_left]
 repeat refine fm (by walk_at "km") ?_
 exact List.forall_mem_nil _
end K03
open PySem PySem.W PyProof.Rows L2 PF K03
theorem PySem.Challenge.cw_firetogether_k03_machines_of_anything_holds : PySem.Challenge.rw_firetogether_k03_machines_of_anything.Holds := by
 refine HQ.hd (CX:=CX0) (sp:=λ K=>spOf K K03.T 40 30 "law") ⟨?F,?S,λ H s e s' z=>z⟩
 case F=>
  intro w K mg fa h KX G hmg dd dm fb gb bb gdb;have k:=kd _<|.head _;obtain⟨fl,fd,dl,hb⟩:=YW.ok2 KX G (dd _<|.head _) k.sc k.bo k.hp k.hn k.dv;have e0:=hmg.symm.trans dl.gl;cases e0
  exact⟨fd,λ s u=>hb s [u] rfl,λ base kb nb=>Zf5 (facts rfl kd KX G dd) (mfacts rfl km KX G dm) (ZhA KX G bb) (Zge KX G gb) (λ x kvs hl=>gdb (x,kvs)<|PySem.mem_of_lookup (l:=K03.T.gds) hl) (ZhI fb) 30 "law" Flaw (top 39) _ _ Zaq dl⟩
 case S=>exact λ K H a ns hl hO hS=>Zf6 Zaq rfl (λ ns hl=>by
  obtain⟨d,S',h1,h2⟩:=Zgm hl;rw[h2] at h1;exact⟨S',h1⟩) H a ns hl hS _
end
