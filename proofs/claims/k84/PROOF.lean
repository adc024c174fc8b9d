import PyProof.Rows.All
import Wide.All
import OpenK.AllK
import Wide.FinOn
import Lean
import PyProof.EqAt
import PyProof.EqKinds
import PyProof.TupleCall
import PyProof.Rows.SortRunsK
import OpenK.KMore
import PyProof.Rows.SortShell
import PyProof.Rows.SortWalk
import KE.KSortTup
import PyProof.StrLawsLines
import PyProof.StrWalks
import PySem.Challenge.RW_firetogether_k84_marks_by_running
open PySem.W (Frag)
set_option Elab.async false
set_option linter.all false
set_option maxRecDepth 100000
namespace L2
open PySem PySem.Spec PyProof.Rows
noncomputable abbrev Key := Sum Int Str
noncomputable def keyIs : Key → Value → Bool
  | .inl k, v => Value.isInt k v
  | .inr x, v => Value.isStrOf x v
noncomputable def keyH (w : World) : Key → Int
  | .inl k => hashInt k
  | .inr x => hashStr w x
theorem keyIs_shape : ∀ {k : Key} {v : Value}, keyIs k v = true → (∃ i t, k = Sum.inl i ∧ v = Value.int i t) ∨ (∃ x t, k = Sum.inr x ∧ v = Value.str x t)
  | .inl i, v, h => by
    obtain ⟨t, e⟩ := Value.isInt_shape (k := i) (v := v) h
    exact .inl ⟨i, t, rfl, e⟩
  | .inr x, v, h => by
    obtain ⟨t, e⟩ := Value.isStrOf_shape (x := x) (v := v) h
    exact .inr ⟨x, t, rfl, e⟩
theorem keyIs_int (i : Int) (t : Tok) : keyIs (.inl i) (.int i t) = true := by simp [keyIs, Value.isInt]
theorem keyIs_str (x : Str) (t : Tok) : keyIs (.inr x) (.str x t) = true := by simp [keyIs, Value.isStrOf]
theorem key_ll (a b : Int) : decide ((Sum.inl a : Key) = Sum.inl b) = (a == b) := by
  by_cases e : a = b
  · subst e; simp
  · have h : ¬ (Sum.inl a : Key) = Sum.inl b := fun q => e (Sum.inl.inj q)
    rw [decide_eq_false h]
    exact (beq_eq_false_iff_ne.mpr e).symm
theorem key_rr (a b : Str) : decide ((Sum.inr a : Key) = Sum.inr b) = decide (a = b) := by
  by_cases e : a = b
  · subst e; simp
  · have h : ¬ (Sum.inr a : Key) = Sum.inr b := fun q => e (Sum.inr.inj q)
    rw [decide_eq_false h, decide_eq_false e]
theorem key_lr (a : Int) (b : Str) : decide ((Sum.inl a : Key) = Sum.inr b) = false := decide_eq_false (fun q => nomatch q)
theorem key_rl (a : Str) (b : Int) : decide ((Sum.inr a : Key) = Sum.inl b) = false := decide_eq_false (fun q => nomatch q)
noncomputable def mixKind (prog : Program) (w : World) : PySem.KeyKind prog w Key where
  is := keyIs
  hash := keyH w
  inj := fun v a b ha hb => by
    rcases keyIs_shape ha with ⟨i, t, rfl, rfl⟩ | ⟨x, t, rfl, rfl⟩
    · rcases keyIs_shape hb with ⟨j, u, rfl, e⟩ | ⟨y, u, rfl, e⟩
      · injection e with e1 _; rw [e1]
      · exact nomatch e
    · rcases keyIs_shape hb with ⟨j, u, rfl, e⟩ | ⟨y, u, rfl, e⟩
      · exact nomatch e
      · injection e with e1 _; rw [e1]
  byValue := fun k v h => by
    rcases keyIs_shape h with ⟨i, t, rfl, rfl⟩ | ⟨x, t, rfl, rfl⟩ <;> rfl
  pyHash := fun hv h => by
    rcases keyIs_shape hv with ⟨i, t, rfl, rfl⟩ | ⟨x, t, rfl, rfl⟩
    · exact wpAny_pyHash_int h
    · exact wpAny_pyHash_str h
  eqBool := fun hu hv h => by
    rcases keyIs_shape hu with ⟨i, t, rfl, rfl⟩ | ⟨x, t, rfl, rfl⟩
    · rcases keyIs_shape hv with ⟨j, u, rfl, rfl⟩ | ⟨y, u, rfl, rfl⟩
      · rw [key_ll] at h; exact wpAny_eqBool_int h
      · rw [key_lr] at h; exact SeqAt.EqAt.int_str i t y u _ _ _ _ h
    · rcases keyIs_shape hv with ⟨j, u, rfl, rfl⟩ | ⟨y, u, rfl, rfl⟩
      · rw [key_rl] at h; exact SeqAt.EqAt.str_int x t j u _ _ _ _ h
      · rw [key_rr] at h; exact wpAny_eqBool_str h
  «strs» := fun k x t v h => by
    rcases keyIs_shape h with ⟨i, u, rfl, e⟩ | ⟨y, u, rfl, e⟩
    · exact nomatch e
    · injection e with e1 _
      subst e1
      cases v <;> rfl
theorem mixKind_int (prog : Program) (w : World) (i : Int) (t : Tok) : (mixKind prog w).is (.inl i) (.int i t) = true := keyIs_int i t
theorem mixKind_str (prog : Program) (w : World) (x : Str) (t : Tok) : (mixKind prog w).is (.inr x) (.str x t) = true := keyIs_str x t
end L2
namespace L2
open PySem PySem.Spec PyProof.Rows
inductive V where
  | non | bl (b : Bool) | int (i : Int) | str (x : Str) | byt (b : Array UInt8) | flt (b : UInt64) | ref (a : Addr) | ty (n : String)
  deriving DecidableEq
def RelV : V → Value → Prop
  | .non, u => u = Value.none
  | .bl b, u => u = Value.bool b
  | .int i, u => ∃ t, u = Value.int i t
  | .str x, u => ∃ t, u = Value.str x t
  | .byt b, u => ∃ t, u = Value.bytes b t
  | .flt b, u => ∃ t, u = Value.float b t
  | .ref a, u => u = Value.ref a
  | .ty n, u => u = Value.type n
abbrev Vals : List V → List Value → Prop := Paired RelV
theorem Vals.length {xs : List V} {us : List Value} (r : Vals xs us) : xs.length = us.length := Paired.length r
theorem Vals.get : ∀ {xs : List V} {us : List Value} {i : Nat} {x : V}, Vals xs us → xs[i]? = some x → ∃ u, us[i]? = some u ∧ RelV x u
  | _, _, _, _, .nil, e => by simp at e
  | _, _, 0, _, .cons r _, e => by simp at e; subst e; exact ⟨_, rfl, r⟩
  | _, _, i + 1, x, .cons _ t, e => by
    obtain ⟨u, h1, h2⟩ := Vals.get (i := i) (x := x) t (by simpa using e)
    exact ⟨u, by simpa using h1, h2⟩
theorem Vals.set {x : V} {u : Value} (r : RelV x u) : ∀ {xs : List V} {us : List Value} (i : Nat), Vals xs us → Vals (xs.set i x) (us.set i u)
  | _, _, _, .nil => .nil
  | _, _, 0, .cons _ t => .cons r t
  | _, _, i + 1, .cons q t => .cons q (Vals.set r i t)
theorem Vals.append : ∀ {xs ys : List V} {us ws : List Value}, Vals xs us → Vals ys ws → Vals (xs ++ ys) (us ++ ws)
  | _, _, _, _, .nil, s => s
  | _, _, _, _, .cons r t, s => .cons r (Vals.append t s)
theorem Vals.take : ∀ {xs : List V} {us : List Value} (n : Nat), Vals xs us → Vals (xs.take n) (us.take n)
  | _, _, 0, _ => .nil
  | _, _, _ + 1, .nil => .nil
  | _, _, n + 1, .cons r t => .cons r (Vals.take n t)
theorem Vals.drop : ∀ {xs : List V} {us : List Value} (n : Nat), Vals xs us → Vals (xs.drop n) (us.drop n)
  | _, _, 0, r => r
  | _, _, _ + 1, .nil => .nil
  | _, _, n + 1, .cons _ t => Vals.drop n t
def RelO : Option V → Option Value → Prop
  | some v, some u => RelV v u
  | none, none => True
  | _, _ => False
def KV {κ : Type} : List (κ × V) → List (κ × Value) → Prop := Paired fun (p : κ × V) (q : κ × Value) => p.1 = q.1 ∧ RelV p.2 q.2
noncomputable def kV : Key → V
  | .inl i => .int i
  | .inr x => .str x
inductive HO where
  /-- a list -/
  | lst (xs : List V)
  /-- a tuple (never changes) -/
  | tup (xs : List V)
  /-- a dict whose keys are ints and texts; one whose keys are tuples of ints and texts (the empty one is both) -/
  | dK (kvs : List (Key × V)) | dT (kvs : List (List Key × V))
  /-- a set of ints: its members, its size -/
  | set (S : Int → Bool) (n : Nat)
  /-- an instance of the class at C, its dict at dx, its attributes -/
  | ins (C dx : Addr) (fs : List (Str × V))
  /-- the dict of the instance at x -/
  | own (x : Addr)
  /-- the dict of an exception -/
  | xd (fs : List (Str × V))
  /-- a bound method, f of x -/
  | met (f x : Addr)
  /-- a range object lo, lo + 1, .. below hi -/
  | rng (lo hi : Int)
  /-- a thing that is known to the object (the script; a dict while a loop walks it): read, never written while it is so -/
  | frz (o : Obj) (u : HO)
  /-- a code object's table -/
  | tbl (ps : Array Value)
  /-- any other thing, by what is true of its one object (a def of one's own: SetO a S n := HO.ext fun h => ..) -/
  | ext (φ : Heap → Prop)
noncomputable abbrev Hp := Addr → Option HO
noncomputable def upd (H : Hp) (a : Addr) (o : HO) : Hp := fun b => if b = a then some o else H b
theorem upd_same {H : Hp} {a : Addr} {o : HO} : upd H a o a = some o := by unfold upd; rw [if_pos rfl]
theorem upd_ne {H : Hp} {a b : Addr} {o : HO} (h : b ≠ a) : upd H a o b = H b := by unfold upd; rw [if_neg h]
theorem upd_upd {H : Hp} {a : Addr} {o u : HO} : upd (upd H a o) a u = upd H a u := by
  funext b; unfold upd; split <;> rfl
theorem ne_of {H : Hp} {a b : Addr} {o u : HO} (h : H a = some o) (h' : H b = some u) (d : o ≠ u) : a ≠ b := by
  intro e; subst e; rw [h] at h'; exact d (Option.some.inj h')
theorem ne_of_none {H : Hp} {a b : Addr} {o : HO} (h : H a = some o) (h' : H b = none) : a ≠ b := by
  intro e; subst e; rw [h] at h'; cases h'
section
variable (P : Program) (w : World)
def ObjOk (H : Hp) (h : Heap) (a : Addr) : HO → Prop
  | .lst xs => xs.length ≤ sizeLine ∧ ∃ (its : List Value) (n : Nat), Vals xs its ∧ h.get? a = some { cls := .type "list", data := .seq its.toArray n }
  | .tup xs => xs.length ≤ sizeLine ∧ ∃ its : List Value, Vals xs its ∧ IsTup h a its.toArray
  | .dK kvs => kvs.length ≤ sizeLine ∧ (a == sysModules) = false ∧ ∃ vs, KV kvs vs ∧ h.DictOf (mixKind P w) a vs
  | .dT kvs => kvs.length ≤ sizeLine ∧ (a == sysModules) = false ∧ ∃ xs : List (List Key × Addr × Value),
      Paired (fun (p : List Key × V) (q : List Key × Addr × Value) => p.1 = q.1 ∧ H q.2.1 = some (.tup (p.1.map kV)) ∧ RelV p.2 q.2.2) kvs xs ∧
      ∃ o es ep, h.get? a = some o ∧ o.ExactDict ∧ o.data = .dict es ep ∧ es.toList = xs.map (entryOfKey (tupleKind (mixKind P w))) ∧ (xs.map (·.1)).Nodup
  | .set S n => h.SetOf (intKind P w) a S n
  | .ins C dx fs => H dx = some (.own a) ∧ fs.length ≤ 1000 ∧ dx ≠ a ∧ h.get? a = some (PySem.W.instObj C dx) ∧
      ∃ mA, h.Ns1 dx mA ∧ (∀ f, RelO (fs.lookup f) (mA f)) ∧ PySem.Within mA (fs.map (·.1))
  | .own _ => ∃ o, h.get? a = some o
  | .xd fs => ∃ mA, h.Ns1 a mA ∧ ∀ f, RelO (fs.lookup f) (mA f)
  | .rng lo hi => ∃ t u v, h.get? a = some { cls := .type "range", data := .fields #[.int lo t, .int hi u, .int 1 v] }
  | .frz o u => h.get? a = some o ∧ ObjOk H h a u
  | .tbl ps => h.get? a = some { cls := .none, data := .fields ps }
  | .met f x => h.get? a = some (PySem.W.methodObj (.ref f) (.ref x))
  | .ext φ => φ h ∧ (∃ o, h.get? a = some o) ∧ ∀ h1 h2 : Heap, φ h1 → (∀ o, h1.get? a = some o → h2.get? a = some o) → φ h2
def HOk (H : Hp) (h : Heap) : Prop := ∀ a o, H a = some o → ObjOk P w H h a o
end
section
variable {P : Program} {w : World} {H H' : Hp} {h h' : Heap} {a : Addr} {o : HO}
theorem ObjOk.lt (x : ObjOk P w H h a o) : a < h.objs.size := by
  cases o with
  | lst xs => obtain ⟨_, _, _, _, e⟩ := x; exact Heap.lt_size e
  | tup xs => obtain ⟨_, _, _, p⟩ := x; exact p.lt
  | dK kvs => obtain ⟨_, _, _, _, o, _, _, e, _⟩ := x; exact Heap.lt_size e
  | dT kvs => obtain ⟨_, _, _, _, o, _, _, e, _⟩ := x; exact Heap.lt_size e
  | set S n => obtain ⟨o, _, _, _, e, _⟩ := x; exact Heap.lt_size e
  | ins C dx fs => obtain ⟨_, _, _, e, _⟩ := x; exact Heap.lt_size e
  | own y => obtain ⟨_, e⟩ := x; exact Heap.lt_size e
  | xd fs => obtain ⟨_, ⟨_, _, _, e, _⟩, _⟩ := x; exact Heap.lt_size e
  | rng lo hi => obtain ⟨_, _, _, e⟩ := x; exact Heap.lt_size e
  | frz ob u => obtain ⟨e, _⟩ := x; exact Heap.lt_size e
  | tbl ps => exact Heap.lt_size (show h.get? a = some _ from x)
  | met f y => exact Heap.lt_size (show h.get? a = some _ from x)
  | ext φ => obtain ⟨_, ⟨_, e⟩, _⟩ := x; exact Heap.lt_size e
theorem Paired.mapP {α β : Type} {F G : α → β → Prop} : ∀ {l₁ : List α} {l₂ : List β}, Paired F l₁ l₂ → (∀ a b, F a b → G a b) → Paired G l₁ l₂
  | _, _, .nil, _ => .nil
  | _, _, .cons r t, f => .cons (f _ _ r) (Paired.mapP t f)
theorem ObjOk.stay (x : ObjOk P w H h a o) (k : ∀ b u, (b = a ∨ H b = some (.own a)) → h.get? b = some u → h'.get? b = some u)
    (ho : ∀ b, H b = some (.own a) → H' b = some (.own a)) (ht : ∀ b xs, H b = some (.tup xs) → H' b = some (.tup xs)) : ObjOk P w H' h' a o := by
  induction o with
  | lst xs => obtain ⟨z, its, n, r, e⟩ := x; exact ⟨z, its, n, r, k _ _ (.inl rfl) e⟩
  | tup xs => obtain ⟨z, its, r, ob, e, c⟩ := x; exact ⟨z, its, r, ob, k _ _ (.inl rfl) e, c⟩
  | dK kvs => obtain ⟨z, y, vs, r, ob, es, ep, e, c⟩ := x; exact ⟨z, y, vs, r, ob, es, ep, k _ _ (.inl rfl) e, c⟩
  | dT kvs =>
    obtain ⟨z, y, xs, r, ob, es, ep, e, c⟩ := x
    exact ⟨z, y, xs, Paired.mapP r fun p q z => ⟨z.1, ht _ _ z.2.1, z.2.2⟩, ob, es, ep, k _ _ (.inl rfl) e, c⟩
  | set S n => obtain ⟨ob, es, ep, t, e, c⟩ := x; exact ⟨ob, es, ep, t, k _ _ (.inl rfl) e, c⟩
  | ins C dx fs =>
    obtain ⟨d, z, ne, e, mA, ⟨od, es, ep, e2, c⟩, r⟩ := x
    exact ⟨ho _ d, z, ne, k _ _ (.inl rfl) e, mA, ⟨od, es, ep, k _ _ (.inr d) e2, c⟩, r⟩
  | own y => obtain ⟨ob, e⟩ := x; exact ⟨ob, k _ _ (.inl rfl) e⟩
  | xd fs => obtain ⟨mA, ⟨od, es, ep, e, c⟩, r⟩ := x; exact ⟨mA, ⟨od, es, ep, k _ _ (.inl rfl) e, c⟩, r⟩
  | rng lo hi => obtain ⟨t, u, v, e⟩ := x; exact ⟨t, u, v, k _ _ (.inl rfl) e⟩
  | frz ob u ih => obtain ⟨e, q⟩ := x; exact ⟨k _ _ (.inl rfl) e, ih q⟩
  | tbl ps =>
    have e : h.get? a = some { cls := .none, data := .fields ps } := x
    show h'.get? a = some { cls := .none, data := .fields ps }
    exact k a _ (.inl rfl) e
  | met f y =>
    have e : h.get? a = some (PySem.W.methodObj (.ref f) (.ref y)) := x
    show h'.get? a = some (PySem.W.methodObj (.ref f) (.ref y))
    exact k a _ (.inl rfl) e
  | ext φ => obtain ⟨p, ⟨o, e⟩, st⟩ := x; exact ⟨st _ _ p fun o q => k _ _ (.inl rfl) q, ⟨o, k _ _ (.inl rfl) e⟩, st⟩
theorem HOk.lt (x : HOk P w H h) (e : H a = some o) : a < h.objs.size := (x a o e).lt
theorem HOk.fresh (x : HOk P w H h) (e : h.objs.size ≤ a) : H a = none := by
  cases q : H a with
  | none => rfl
  | some u => exact absurd (Nat.lt_of_lt_of_le (x.lt q) e) (Nat.lt_irrefl _)
theorem HOk.kept (x : HOk P w H h) (k : ∀ b u, h.get? b = some u → h'.get? b = some u) : HOk P w H h' := fun a o e =>
  (x a o e).stay (fun b u _ q => k b u q) (fun _ q => q) fun _ _ q => q
theorem HOk.laid (x : HOk P w H h) (k : ∀ b u, h.get? b = some u → h'.get? b = some u) (hp : h.objs.size ≤ a) (new : ObjOk P w (upd H a o) h' a o) : HOk P w (upd H a o) h' := fun b u e => by
  have hn := x.fresh hp
  by_cases hb : b = a
  · subst hb; rw [upd_same] at e; cases e; exact new
  · rw [upd_ne hb] at e
    exact (x b u e).stay (fun c v _ q => k c v q) (fun c q => by rw [upd_ne (ne_of_none q hn)]; exact q) fun c xs q => by rw [upd_ne (ne_of_none q hn)]; exact q
end
def Rd (H : Hp) (a : Addr) (u : HO) : Prop := H a = some u ∨ ∃ o, H a = some (.frz o u)
theorem Rd.ok {P : Program} {w : World} {H : Hp} {h : Heap} {a : Addr} {u : HO} (r : Rd H a u) (x : HOk P w H h) : ObjOk P w H h a u := by
  rcases r with r | ⟨o, r⟩
  · exact x a u r
  · obtain ⟨_, q⟩ := x a _ r
    exact q
def Mut : Option HO → Prop
  | some (.lst _) => True
  | some (.dK _) => True
  | some (.dT _) => True
  | some (.set _ _) => True
  | some (.ins _ _ _) => True
  | some (.ext _) => True
  | _ => False
section
variable {P : Program} {w : World} {H : Hp} {h h' : Heap} {x e : Addr} {o' : HO}
theorem HOk.write (ok : HOk P w H h) (mu : Mut (H x)) (he : e = x ∨ H e = some (.own x)) (k : ∀ b u, b ≠ e → h.get? b = some u → h'.get? b = some u) (heo : ∃ u, h'.get? e = some u)
    (new : ObjOk P w (upd H x o') h' x o') : HOk P w (upd H x o') h' := fun b u q => by
  have nown : ∀ c y, H c = some (.own y) → c ≠ x := fun c y r z => by subst z; rw [r] at mu; exact mu
  have ntup : ∀ c xs, H c = some (.tup xs) → c ≠ x := fun c xs r z => by subst z; rw [r] at mu; exact mu
  by_cases hb : b = x
  · subst hb; rw [upd_same] at q; cases q; exact new
  · rw [upd_ne hb] at q
    by_cases hbe : b = e
    · have q' : H b = some (.own x) := by
        rcases he with z | z
        · exact absurd (hbe.trans z) hb
        · rw [hbe]; exact z
      rw [q] at q'; cases q'
      obtain ⟨v, hv⟩ := heo
      exact ⟨v, by rw [hbe]; exact hv⟩
    · refine (ok b u q).stay (fun c v hc r => k c v ?_ r) (fun c r => by rw [upd_ne (nown c b r)]; exact r) fun c xs r => by rw [upd_ne (ntup c xs r)]; exact r
      rcases hc with rfl | hc
      · exact hbe
      · rintro rfl
        rcases he with z | z
        · exact nown c b hc z
        · rw [hc] at z; cases z; exact hb rfl
end
structure Un (fs ex : List Addr) (H H' : Hp) (h h' : Heap) : Prop where
  keep : ∀ b o, h.get? b = some o → H b = none → b ∉ fs → b ∉ ex → h'.get? b = some o
  slot : ∀ b o, h.get? b = some o → H b = none → b ∈ fs → b ∉ ex → ∃ sl, h'.get? b = some { o with slots := sl }
  free : ∀ b o, h.get? b = some o → H b = none → b ∉ ex → H' b = none
  there : ∀ b o, h.get? b = some o → b ∉ ex → ∃ o', h'.get? b = some o'
  tups : ∀ b xs, H b = some (.tup xs) → H' b = some (.tup xs)
  frzs : ∀ b o u, H b = some (.frz o u) → H' b = some (.frz o u)
  tbls : ∀ b ps, H b = some (.tbl ps) → ∃ more, H' b = some (.tbl (ps ++ more))
section
variable {fs fs' ex ex' : List Addr} {H H1 H2 : Hp} {h h1 h2 h' : Heap} {a x e : Addr} {o : HO}
theorem Un.any (u : Un fs ex H H1 h h1) {b : Addr} {ob : Obj} (q : h.get? b = some ob) (n : H b = none) (hx : b ∉ ex) : ∃ sl, h1.get? b = some { ob with slots := sl } := by
  by_cases hb : b ∈ fs
  · exact u.slot b ob q n hb hx
  · exact ⟨ob.slots, u.keep b ob q n hb hx⟩
theorem Un.kept (k : ∀ b u, h.get? b = some u → h'.get? b = some u) : Un fs ex H H h h' :=
  ⟨fun b ob q _ _ _ => k b ob q, fun b ob q _ _ _ => ⟨ob.slots, k b ob q⟩, fun _ _ _ n _ => n, fun b ob q _ => ⟨ob, k b ob q⟩, fun _ _ q => q, fun _ _ _ q => q, fun _ ps q => ⟨#[], by rw [q]; simp⟩⟩
theorem Un.refl : Un fs ex H H h h := Un.kept fun _ _ q => q
theorem Un.laid (k : ∀ b u, h.get? b = some u → h'.get? b = some u) (hp : h.objs.size ≤ a) (hn : H a = none) : Un fs ex H (upd H a o) h h' where
  keep := fun b u q _ _ _ => k b u q
  slot := fun b u q _ _ _ => ⟨u.slots, k b u q⟩
  free := fun b u q n _ => by rw [upd_ne (Nat.ne_of_lt (Nat.lt_of_lt_of_le (Heap.lt_size q) hp))]; exact n
  there := fun b u q _ => ⟨u, k b u q⟩
  tups := fun b xs q => by rw [upd_ne (ne_of_none q hn)]; exact q
  frzs := fun b u xs q => by rw [upd_ne (ne_of_none q hn)]; exact q
  tbls := fun b ps q => ⟨#[], by rw [upd_ne (ne_of_none q hn), q]; simp⟩
theorem Un.write (mu : Mut (H x)) (he : e = x ∨ H e = some (.own x)) (k : ∀ b u, b ≠ e → h.get? b = some u → h'.get? b = some u) (heo : ∃ u, h'.get? e = some u) : Un fs ex H (upd H x o) h h' := by
  have hx : ∀ b, H b = none → b ≠ x := fun b n z => by subst z; rw [n] at mu; exact mu
  have hb : ∀ b, H b = none → b ≠ e := fun b n z => by
    subst z
    rcases he with r | r
    · exact hx b n r
    · rw [n] at r; cases r
  have hm : ∀ b u, H b = some u → ¬ Mut (some u) → b ≠ x := fun b u q nm z => by subst z; rw [q] at mu; exact nm mu
  refine ⟨fun b u q n _ _ => k b u (hb b n) q, fun b u q n _ _ => ⟨u.slots, k b u (hb b n) q⟩, fun b u q n _ => by rw [upd_ne (hx b n)]; exact n, fun b u q _ => ?_,
    fun b xs q => by rw [upd_ne (hm b _ q fun z => z)]; exact q, fun b u xs q => by rw [upd_ne (hm b _ q fun z => z)]; exact q, fun b ps q => ⟨#[], by rw [upd_ne (hm b _ q fun z => z), q]; simp⟩⟩
  by_cases hbe : b = e
  · subst hbe; exact heo
  · exact ⟨u, k b u hbe q⟩
end
noncomputable def trk (h : Heap) (H : Hp) : List Addr := (List.range h.objs.size).filter fun a => (H a).isSome
noncomputable def hidT (h : Heap) (H : Hp) : Heap := PySem.W.hideAll h (trk h H)
theorem hidT_size (h : Heap) (H : Hp) : (hidT h H).objs.size = h.objs.size := PySem.W.hideAll_size _ _
theorem hidT_get {h : Heap} {H : Hp} {b : Addr} {o : Obj} (e : h.get? b = some o) (n : H b = none) : (hidT h H).get? b = some o :=
  PySem.W.hideAll_get _ e fun hm => by
    have q : (H b).isSome = true := (List.mem_filter.mp hm).2
    rw [n] at q; simp at q
theorem of_hidT {h : Heap} {H : Hp} {b : Addr} {o : Obj} (e : (hidT h H).get? b = some o) : h.get? b = some o ∧ H b = none := by
  have e' : h.get? b = some o := PySem.W.of_hideAll (trk h H) e
  refine ⟨e', ?_⟩
  cases q : H b with
  | none => rfl
  | some x =>
    have hm : b ∈ trk h H := List.mem_filter.mpr ⟨List.mem_range.mpr (Heap.lt_size e'), by simp [q]⟩
    have z : (hidT h H).get? b = none := PySem.W.hideAll_none (trk h H) hm
    rw [z] at e; cases e
end L2
namespace L2
open PySem PySem.Spec PyProof.Rows
structure Mod (K : Frag) (mg : Str → Option Value) (base : Heap) : Prop where
  kin : K.In base
  glob : base.Ns mainGlobals mg
  blt : ∃ mb, base.Ns builtinsNs mb ∧ ∀ x : Str, x ≠ "__name__" → mb x = bootBuiltins x
  nolimit : base.NoLimit
structure Cx where
  prog : Program
  w : World
  K : Frag
  mg : Str → Option Value
  base : Heap
  A : Around
  N : List Str
  s₀ : Shared
  H₀ : Hp
  env : Env
  outer : List Env
  stack : List Env
  ex : List Addr
  fn : Str → Bool
  calm : Bool
  pn : List (Addr × Obj)
  xe : Value → Shared → Prop
noncomputable def frs (l : List Env) : List Addr := l.filterMap (·.frame)
noncomputable abbrev Cx.fs (X : Cx) : List Addr := frs X.outer
def Vis (sc : Scope) (x : Str) : Prop := sc.names.lookup x = some .local ∨ sc.names.lookup x = some .cell ∨ sc.names.lookup x = some .free
def Loc (sc : Scope) (x : Str) : Prop := sc.names.lookup x = some .local ∨ sc.names.lookup x = some .cell
def Look (env : Env) (h : Heap) (m : Str → Option Value) (x : Str) (u : Value) : Prop :=
  (env.kindOf x = some .local ∧ m x = some u) ∨ ((env.kindOf x = some .cell ∨ env.kindOf x = some .free) ∧ ∃ c, env.cells.lookup x = some c ∧ h.IsCell c (some u))
structure Cx.Ok (X : Cx) : Prop where
  mod : Mod X.K X.mg X.base
  kind : X.env.scope.kind = .function
  glob : X.env.globals = mainGlobals
  blt : X.env.builtins = builtinsNs
  above : X.s₀.heap.objs.size ≤ X.env.locals
  inj : ∀ x y c, X.env.cells.lookup x = some c → X.env.cells.lookup y = some c → x = y
  has : ∀ x, (X.env.kindOf x = some .cell ∨ X.env.kindOf x = some .free) → ∃ c, X.env.cells.lookup x = some c
  cab : ∀ x c, X.fn x = true → X.env.cells.lookup x = some c → X.s₀.heap.objs.size ≤ c
  hd : X.calm = true → X.A.handled = none
  frames : X.A.frames = some X.stack
  stk : X.stack = X.outer ∨ (X.stack = X.env :: X.outer ∧ X.env.frame = some X.env.locals)
  exf : ∀ b ∈ X.ex, b ≠ X.env.locals ∧ ∀ x c, X.env.cells.lookup x = some c → c ≠ b
  bs : ∀ b o, X.base.get? b = some o → X.s₀.heap.get? b = some o ∧ X.H₀ b = none
  bsz : X.base.objs.size ≤ X.s₀.heap.objs.size
  noex : ∀ b o, X.base.get? b = some o → b ∉ X.ex
  exfs : ∀ b ∈ X.ex, b ∉ X.fs
  funs : X.s₀.heap.FunFrames X.base X.outer
  frf : ∀ b ∈ X.fs, X.H₀ b = none
structure Inv (X : Cx) (pins : List (Addr × Obj)) (σ : List (Option V)) (H : Hp) (s : Shared) : Prop where
  ok : X.Ok
  os : s.os = X.s₀.os
  bare : AllBare s.gens
  base : Un X.fs X.ex X.H₀ H X.s₀.heap s.heap
  loc : ∃ m, s.heap.Ns X.env.locals m ∧ ∀ (i : Nat) (x : Str) (v : V), X.N[i]? = some x → σ[i]? = some (some v) → Vis X.env.scope x → ∃ u, RelV v u ∧ Look X.env s.heap m x u
  cell : ∀ x c, X.env.cells.lookup x = some c → ∃ v, s.heap.IsCell c v
  free : H X.env.locals = none
  freeC : ∀ x c, X.env.cells.lookup x = some c → H c = none
  pin : ∀ p ∈ X.pn ++ pins, s.heap.get? p.1 = some p.2 ∧ H p.1 = none ∧ p.1 ≠ X.env.locals ∧ p.1 ∉ X.fs ∧ ∀ v, p.2.data ≠ .cell v
  hok : HOk X.prog X.w H s.heap
  len : σ.length = X.N.length
section
variable {X : Cx} {pins : List (Addr × Obj)} {σ : List (Option V)} {H H' : Hp} {s : Shared} {h' : Heap}
theorem Cx.Ok.nofr (ok : X.Ok) {b : Addr} {o : Obj} (e : X.base.get? b = some o) : b ∉ X.fs := fun hb => by
  have := (ok.funs.mem hb).1
  rw [e] at this; cases this
theorem Inv.bs (I : Inv X pins σ H s) : ∀ b o, X.base.get? b = some o → s.heap.get? b = some o ∧ H b = none := fun b o e =>
  ⟨I.base.keep b o (I.ok.bs b o e).1 (I.ok.bs b o e).2 (I.ok.nofr e) (I.ok.noex b o e), I.base.free b o (I.ok.bs b o e).1 (I.ok.bs b o e).2 (I.ok.noex b o e)⟩
theorem Inv.bk (I : Inv X pins σ H s) : ∀ b o, X.base.get? b = some o → s.heap.get? b = some o := fun b o e => (I.bs b o e).1
theorem Inv.mod (I : Inv X pins σ H s) : Mod X.K X.mg X.base := I.ok.mod
theorem Inv.kIn (I : Inv X pins σ H s) : X.K.In s.heap := I.ok.mod.kin.keeps I.bk
theorem Inv.lt (I : Inv X pins σ H s) : X.env.locals < s.heap.objs.size := let ⟨_, hn, _⟩ := I.loc; hn.lt
theorem Inv.sz (I : Inv X pins σ H s) : X.s₀.heap.objs.size ≤ s.heap.objs.size := Nat.le_trans I.ok.above (Nat.le_of_lt I.lt)
theorem Inv.nofs (I : Inv X pins σ H s) {a : Addr} (h : s.heap.objs.size ≤ a) : a ∉ X.fs := fun hb => by
  obtain ⟨_, o, ho, _⟩ := I.ok.funs.mem hb
  exact absurd (Nat.lt_of_lt_of_le (Heap.lt_size ho) (Nat.le_trans I.sz h)) (Nat.lt_irrefl _)
theorem Inv.cne (I : Inv X pins σ H s) : ∀ x c, X.env.cells.lookup x = some c → c ≠ X.env.locals := fun x c e z => by
  obtain ⟨v, o, ho, hd⟩ := I.cell x c e
  obtain ⟨m, ⟨o', es, ep, ho', hd', _⟩, _⟩ := I.loc
  rw [z, ho'] at ho; cases ho; rw [hd'] at hd; cases hd
theorem Inv.funs (I : Inv X pins σ H s) : s.heap.FunFrames X.base X.outer := by
  have all : ∀ (l : List Env), (∀ b ∈ frs l, b ∈ X.fs) → X.s₀.heap.FunFrames X.base l → s.heap.FunFrames X.base l := by
    intro l
    induction l with
    | nil => intro _ _; trivial
    | cons env r ih =>
      intro hs hl
      obtain ⟨hk, ⟨L, o, hf, hn, ho, hd⟩, hr⟩ := hl
      have hL : L ∈ X.fs := hs L (by unfold frs; rw [List.filterMap_cons, hf]; exact List.mem_cons_self)
      obtain ⟨sl, e⟩ := I.base.slot L o ho (I.ok.frf L hL) hL fun z => I.ok.exfs L z hL
      exact ⟨hk, ⟨L, _, hf, hn, e, hd⟩, ih (fun b hb => hs b (by unfold frs; rw [List.filterMap_cons, hf]; exact List.mem_cons_of_mem _ hb)) hr⟩
  exact all X.outer (fun _ hb => hb) I.ok.funs
theorem Inv.stack (I : Inv X pins σ H s) : s.heap.FunFrames X.base X.stack := by
  rcases I.ok.stk with e | ⟨e, hf⟩
  · rw [e]; exact I.funs
  · rw [e]
    obtain ⟨m, hn, _⟩ := I.loc
    refine .cons (by rw [I.ok.kind]; decide) hf hn ?_ I.funs
    exact Heap.get?_none_of_le (Nat.le_trans I.ok.bsz I.ok.above)
theorem Inv.stkSub (I : Inv X pins σ H s) : ∀ b ∈ frs X.stack, b ∈ X.env.locals :: X.fs := fun b hb => by
  rcases I.ok.stk with e | ⟨e, hf⟩
  · rw [e] at hb; exact List.mem_cons_of_mem _ hb
  · rw [e] at hb
    unfold frs at hb
    rw [List.filterMap_cons, hf] at hb
    exact hb
theorem Inv.stkFree (I : Inv X pins σ H s) : ∀ b ∈ frs X.stack, H b = none := fun b hb => by
  rcases List.mem_cons.mp (I.stkSub b hb) with e | hb
  · rw [e]; exact I.free
  · obtain ⟨_, o, ho, _⟩ := I.ok.funs.mem hb
    exact I.base.free b o ho (I.ok.frf b hb) fun z => I.ok.exfs b z hb
theorem Inv.step {g' : Array GenState} {t' : Nat} {d' : Drawn} {ch : List Addr} (I : Inv X pins σ H s)
    (hch : ∀ b ∈ ch, (b ∈ X.ex ∨ X.s₀.heap.objs.size ≤ b) ∧ b ≠ X.env.locals ∧ (∀ x c, X.env.cells.lookup x = some c → c ≠ b) ∧ ∀ p ∈ X.pn ++ pins, p.1 ≠ b)
    (keep : ∀ b o, b ≠ X.env.locals → b ∉ X.fs → b ∉ ch → s.heap.get? b = some o → H b = none → h'.get? b = some o)
    (slot : ∀ b o, b ≠ X.env.locals → b ∈ X.fs → b ∉ ch → s.heap.get? b = some o → H b = none → ∃ sl, h'.get? b = some { o with slots := sl }) (free : ∀ b o, b ∉ ch → s.heap.get? b = some o → H b = none → H' b = none)
    (there : ∀ b o, b ∉ ch → s.heap.get? b = some o → ∃ o', h'.get? b = some o')
    (tups : ∀ b xs, H b = some (.tup xs) → H' b = some (.tup xs)) (frzs : ∀ b o u, H b = some (.frz o u) → H' b = some (.frz o u)) (tbls : ∀ b ps, H b = some (.tbl ps) → ∃ more, H' b = some (.tbl (ps ++ more)))
    (ns : ∀ m, s.heap.Ns X.env.locals m → h'.Ns X.env.locals m) (hok : HOk X.prog X.w H' h') (hg : AllBare g') :
    Inv X pins σ H' { s with heap := h', gens := g', drawn := d', toks := t' } := by
  have neL : ∀ b o, X.s₀.heap.get? b = some o → b ≠ X.env.locals := fun b o e => Nat.ne_of_lt (Nat.lt_of_lt_of_le (Heap.lt_size e) I.ok.above)
  have neC : ∀ b o, X.s₀.heap.get? b = some o → b ∉ X.ex → b ∉ ch := fun b o e hx hb => by
    rcases (hch b hb).1 with z | z
    · exact hx z
    · exact absurd (Nat.lt_of_lt_of_le (Heap.lt_size e) z) (Nat.lt_irrefl _)
  have cellK : ∀ x c, X.env.cells.lookup x = some c → ∀ v, s.heap.IsCell c v → h'.IsCell c v := fun x c e v ⟨o, ho, hd⟩ => by
    have nch : c ∉ ch := fun z => (hch c z).2.2.1 x c e rfl
    by_cases hc : c ∈ X.fs
    · obtain ⟨sl, q⟩ := slot c o (I.cne x c e) hc nch ho (I.freeC x c e)
      exact ⟨_, q, hd⟩
    · exact ⟨o, keep c o (I.cne x c e) hc nch ho (I.freeC x c e), hd⟩
  refine ⟨I.ok, I.os, hg, ⟨fun b o e n hb hx => ?_, fun b o e n hb hx => ?_, fun b o e n hx => ?_, fun b o e hx => ?_, fun b xs e => tups b xs (I.base.tups b xs e), fun b o xs e => frzs b o xs (I.base.frzs b o xs e), fun b ps e => ?_⟩, ?_, fun x c e => ?_, ?_, fun x c e => ?_, fun p hp => ?_, hok, I.len⟩
  · exact keep b o (neL b o e) hb (neC b o e hx) (I.base.keep b o e n hb hx) (I.base.free b o e n hx)
  · obtain ⟨sl, e1⟩ := I.base.slot b o e n hb hx
    obtain ⟨sl', e2⟩ := slot b _ (neL b o e) hb (neC b o e hx) e1 (I.base.free b o e n hx)
    exact ⟨sl', e2⟩
  · obtain ⟨o', e1⟩ := I.base.there b o e hx
    exact free b o' (neC b o e hx) e1 (I.base.free b o e n hx)
  · obtain ⟨o', e1⟩ := I.base.there b o e hx
    exact there b o' (neC b o e hx) e1
  · obtain ⟨m1, e1⟩ := I.base.tbls b ps e
    obtain ⟨m2, e2⟩ := tbls b _ e1
    exact ⟨m1 ++ m2, by rw [e2, Array.append_assoc]⟩
  · obtain ⟨m, hn, hl⟩ := I.loc
    refine ⟨m, ns m hn, fun i x v e1 e2 e3 => ?_⟩
    obtain ⟨u, r, l⟩ := hl i x v e1 e2 e3
    refine ⟨u, r, ?_⟩
    rcases l with l | ⟨k, c, e, z⟩
    · exact .inl l
    · exact .inr ⟨k, c, e, cellK x c e _ z⟩
  · obtain ⟨v, z⟩ := I.cell x c e
    exact ⟨v, cellK x c e v z⟩
  · obtain ⟨m, ⟨o, _, _, ho, _⟩, _⟩ := I.loc
    exact free _ o (fun z => (hch _ z).2.1 rfl) ho I.free
  · obtain ⟨v, o, ho, hd⟩ := I.cell x c e
    exact free c o (fun z => (hch c z).2.2.1 x c e rfl) ho (I.freeC x c e)
  · obtain ⟨e, n, ne, nf, d⟩ := I.pin p hp
    have nch : p.1 ∉ ch := fun z => (hch p.1 z).2.2.2 p hp rfl
    exact ⟨keep p.1 p.2 ne nf nch e n, free p.1 p.2 nch e n, ne, nf, d⟩
theorem Inv.un {t' : Nat} (I : Inv X pins σ H s) (u : Un X.fs [] H H' s.heap h') (hok : HOk X.prog X.w H' h') : Inv X pins σ H' { s with heap := h', toks := t' } := by
  obtain ⟨m, ⟨o, es, ep, ho, r⟩, _⟩ := id I.loc
  obtain ⟨sl, hL⟩ := u.any ho I.free (by simp)
  exact I.step (g' := s.gens) (d' := s.drawn) (ch := []) (fun _ z => nomatch z) (fun b o _ hb _ e n => u.keep b o e n hb (by simp)) (fun b o _ hb _ e n => u.slot b o e n hb (by simp)) (fun b o _ e n => u.free b o e n (by simp)) (fun b o _ e => u.there b o e (by simp)) u.tups u.frzs u.tbls (fun m' hm => by
    obtain ⟨o', es', ep', ho', r'⟩ := hm
    rw [ho] at ho'; cases ho'
    exact ⟨_, es', ep', hL, r'⟩) hok I.bare
theorem Inv.call {g' : Array GenState} {t' : Nat} {d' : Drawn} {ch : List Addr} (I : Inv X pins σ H s) (u : Un (frs X.stack) ch H H' s.heap h') (hok : HOk X.prog X.w H' h') (hg : AllBare g')
    (hch : ∀ b ∈ ch, (b ∈ X.ex ∨ X.s₀.heap.objs.size ≤ b) ∧ b ≠ X.env.locals ∧ (∀ x c, X.env.cells.lookup x = some c → c ≠ b) ∧ ∀ p ∈ X.pn ++ pins, p.1 ≠ b) :
    Inv X pins σ H' { s with heap := h', gens := g', drawn := d', toks := t' } := by
  obtain ⟨m, ⟨o, es, ep, ho, r⟩, _⟩ := id I.loc
  obtain ⟨sl, hL⟩ := u.any ho I.free fun z => (hch _ z).2.1 rfl
  exact I.step (ch := ch) hch (fun b o hL hb hc e n => u.keep b o e n (fun z => (List.mem_cons.mp (I.stkSub b z)).elim hL hb) hc) (fun b o _ _ hc e n => u.any e n hc) (fun b o hc e n => u.free b o e n hc) (fun b o hc e => u.there b o e hc) u.tups u.frzs u.tbls (fun m' hm => by
    obtain ⟨o', es', ep', ho', r'⟩ := hm
    rw [ho] at ho'; cases ho'
    exact ⟨_, es', ep', hL, r'⟩) hok hg
theorem Inv.turned {t' : Nat} {it : Addr} (I : Inv X pins σ H s) (k : ∀ b o, b ≠ it → s.heap.get? b = some o → h'.get? b = some o) (hn : H it = none) (hL : it ≠ X.env.locals)
    (h1 : it ∈ X.ex ∨ X.s₀.heap.objs.size ≤ it) (h2 : ∀ x c, X.env.cells.lookup x = some c → c ≠ it) (h3 : ∀ p ∈ X.pn ++ pins, p.1 ≠ it) : Inv X pins σ H { s with heap := h', toks := t' } := by
  have nit : ∀ b u, H b = some u → b ≠ it := fun b u e z => by rw [z, hn] at e; cases e
  refine I.step (g' := s.gens) (d' := s.drawn) (ch := [it]) (fun b hb => ?_) (fun b o _ _ hc e _ => k b o (fun z => hc (by simp [z])) e) (fun b o _ _ hc e _ => ⟨o.slots, k b o (fun z => hc (by simp [z])) e⟩) (fun _ _ _ _ n => n)
    (fun b o hc e => ⟨o, k b o (fun z => hc (by simp [z])) e⟩) (fun _ _ e => e) (fun _ _ _ e => e) (fun b ps e => ⟨#[], by rw [e]; simp⟩) (fun m hm => ?_) (fun b u e => ?_) I.bare
  · have e : b = it := by simpa using hb
    subst e
    exact ⟨h1, hL, h2, h3⟩
  · obtain ⟨o, es, ep, ho, r⟩ := hm
    exact ⟨o, es, ep, k _ o (Ne.symm hL) ho, r⟩
  · refine (I.hok b u e).stay (fun c v hc q => k c v ?_ q) (fun _ q => q) fun _ _ q => q
    rcases hc with z | z
    · rw [z]; exact nit b u e
    · exact nit c _ z
theorem Inv.tok (I : Inv X pins σ H s) (t : Nat) : Inv X pins σ H { s with toks := t } := I.un (h' := s.heap) (t' := t) Un.refl I.hok
theorem Inv.kept {t' : Nat} (I : Inv X pins σ H s) (k : ∀ b u, s.heap.get? b = some u → h'.get? b = some u) : Inv X pins σ H { s with heap := h', toks := t' } := I.un (Un.kept k) (I.hok.kept k)
theorem Inv.laid {a : Addr} {o : HO} {t' : Nat} (I : Inv X pins σ H s) (k : ∀ b u, s.heap.get? b = some u → h'.get? b = some u) (hp : s.heap.objs.size ≤ a) (new : ObjOk X.prog X.w (upd H a o) h' a o) :
    Inv X pins σ (upd H a o) { s with heap := h', toks := t' } := I.un (Un.laid k hp (I.hok.fresh hp)) (I.hok.laid k hp new)
theorem Inv.write {x e : Addr} {o : HO} {t' : Nat} (I : Inv X pins σ H s) (mu : Mut (H x)) (he : e = x ∨ H e = some (.own x)) (k : ∀ b u, b ≠ e → s.heap.get? b = some u → h'.get? b = some u) (heo : ∃ u, h'.get? e = some u)
    (new : ObjOk X.prog X.w (upd H x o) h' x o) : Inv X pins σ (upd H x o) { s with heap := h', toks := t' } := I.un (Un.write mu he k heo) (I.hok.write mu he k heo new)
theorem Inv.pins_of {pins' : List (Addr × Obj)} (I : Inv X pins σ H s) (h : ∀ p ∈ pins', s.heap.get? p.1 = some p.2 ∧ H p.1 = none ∧ p.1 ≠ X.env.locals ∧ p.1 ∉ X.fs ∧ ∀ v, p.2.data ≠ .cell v) : Inv X pins' σ H s :=
  ⟨I.ok, I.os, I.bare, I.base, I.loc, I.cell, I.free, I.freeC, fun p hp => (List.mem_append.mp hp).elim (fun z => I.pin p (List.mem_append_left _ z)) (h p), I.hok, I.len⟩
theorem nodup_ix {N : List Str} (hN : N.Nodup) {i j : Nat} {x : Str} (a : N[i]? = some x) (b : N[j]? = some x) : i = j := by
  obtain ⟨h1, e1⟩ := List.getElem?_eq_some_iff.mp a
  obtain ⟨h2, e2⟩ := List.getElem?_eq_some_iff.mp b
  exact (List.getElem_inj hN).mp (e1.trans e2.symm)
theorem store_ok2 {M : Model} {A : Around} {E : Value → Shared → Prop} {i : Nat} {x : Str} {v : V} {u : Value} {Q : Unit → Shared → Prop} (I : Inv X pins σ H s) (hN : X.N.Nodup) (hi : X.N[i]? = some x) (hx : Loc X.env.scope x) (r : RelV v u)
    (h : ∀ s', Inv X pins (σ.set i (some v)) H s' → (∃ a, Heap.SameBut a s.heap s'.heap ∧ (a = X.env.locals ∨ X.env.cells.lookup x = some a)) → Q () s') (hf : X.fn x = true ∨ X.env.scope.names.lookup x = some .local := by first | exact .inl rfl | exact .inr rfl | assumption) : wpAny M A (storeName X.env x u) Q E s := by
  obtain ⟨m, hn, hl⟩ := id I.loc
  have hcls : (X.env.scope.kind == .class || (X.env.scope.kind == .module && X.env.locals != X.env.globals)) = false := by rw [I.ok.kind]; rfl
  have hiσ : i < σ.length := by rw [I.len]; exact (List.getElem?_eq_some_iff.mp hi).1
  have cne := I.cne
  have tracked : ∀ {a : Addr} {h' : Heap}, (∃ o, s.heap.get? a = some o ∧ H a = none) → Heap.SameBut a s.heap h' → HOk X.prog X.w H h' := fun {a h'} ha hs b ob e => by
    obtain ⟨_, _, hfree⟩ := ha
    refine (I.hok b ob e).stay (fun c w' hc q => (hs.2 c ?_).trans q) (fun _ q => q) fun _ _ q => q
    rintro rfl
    rcases hc with rfl | hc
    · rw [hfree] at e; cases e
    · rw [hfree] at hc; cases hc
  rcases hx with hk | hk
  · refine wpAny_storeName_local hk hn (fun h' hn' hs => ?_) hcls
    obtain ⟨oL, _, _, hoL, _⟩ := id hn
    refine h _ ⟨I.ok, I.os, I.bare, ⟨fun b o e n hb hx => ?_, fun b o e n hb hx => ?_, I.base.free, fun b o e hx => ?_, I.base.tups, I.base.frzs, I.base.tbls⟩, ⟨_, hn', fun j y v' e1 e2 e3 => ?_⟩, fun y c e => ?_, I.free, I.freeC, fun p hp => ?_, tracked ⟨oL, hoL, I.free⟩ hs, by simpa using I.len⟩ ⟨_, hs, .inl rfl⟩
    · exact (hs.2 b (Nat.ne_of_lt (Nat.lt_of_lt_of_le (Heap.lt_size e) I.ok.above))).trans (I.base.keep b o e n hb hx)
    · obtain ⟨sl, e1⟩ := I.base.slot b o e n hb hx
      exact ⟨sl, (hs.2 b (Nat.ne_of_lt (Nat.lt_of_lt_of_le (Heap.lt_size e) I.ok.above))).trans e1⟩
    · obtain ⟨o', e1⟩ := I.base.there b o e hx
      exact ⟨o', (hs.2 b (Nat.ne_of_lt (Nat.lt_of_lt_of_le (Heap.lt_size e) I.ok.above))).trans e1⟩
    · by_cases hj : j = i
      · subst hj
        rw [hi] at e1; cases e1
        rw [List.getElem?_set_self hiσ] at e2
        cases e2
        exact ⟨u, r, .inl ⟨hk, by simp⟩⟩
      · rw [List.getElem?_set_ne (Ne.symm hj)] at e2
        obtain ⟨u', r', q⟩ := hl j y v' e1 e2 e3
        refine ⟨u', r', ?_⟩
        rcases q with ⟨k, e⟩ | ⟨k, c, e, z⟩
        · refine .inl ⟨k, ?_⟩
          have : y ≠ x := fun e => hj (nodup_ix hN e1 (e ▸ hi))
          simp [this, e]
        · exact .inr ⟨k, c, e, z.sameBut hs (cne y c e)⟩
    · obtain ⟨w', z⟩ := I.cell y c e
      exact ⟨w', z.sameBut hs (cne y c e)⟩
    · obtain ⟨e, n, ne, nf, d⟩ := I.pin p hp
      exact ⟨(hs.2 p.1 ne).trans e, n, ne, nf, d⟩
  · have hfn : X.fn x = true := by
      rcases hf with z | z
      · exact z
      · rw [z] at hk; cases hk
    obtain ⟨c, hc⟩ := I.ok.has x (.inl hk)
    obtain ⟨w', z⟩ := I.cell x c hc
    refine wpAny_storeName_cell I.ok.kind hk hc z (fun h' hc' hs => ?_)
    obtain ⟨oc, hoc, hocd⟩ := id z
    refine h { s with heap := h' } ⟨I.ok, I.os, I.bare, ⟨fun b o e n hb hx => ?_, fun b o e n hb hx => ?_, I.base.free, fun b o e hx => ?_, I.base.tups, I.base.frzs, I.base.tbls⟩, ⟨m, hn.sameBut hs (Ne.symm (cne x c hc)), fun j y v' e1 e2 e3 => ?_⟩, fun y c' e => ?_, I.free, I.freeC, fun p hp => ?_, tracked ⟨oc, hoc, I.freeC x c hc⟩ hs, by simpa using I.len⟩ ⟨c, hs, .inr hc⟩
    · exact (hs.2 b (Nat.ne_of_lt (Nat.lt_of_lt_of_le (Heap.lt_size e) (I.ok.cab x c hfn hc)))).trans (I.base.keep b o e n hb hx)
    · obtain ⟨sl, e1⟩ := I.base.slot b o e n hb hx
      exact ⟨sl, (hs.2 b (Nat.ne_of_lt (Nat.lt_of_lt_of_le (Heap.lt_size e) (I.ok.cab x c hfn hc)))).trans e1⟩
    · obtain ⟨o', e1⟩ := I.base.there b o e hx
      exact ⟨o', (hs.2 b (Nat.ne_of_lt (Nat.lt_of_lt_of_le (Heap.lt_size e) (I.ok.cab x c hfn hc)))).trans e1⟩
    · by_cases hj : j = i
      · subst hj
        rw [hi] at e1; cases e1
        rw [List.getElem?_set_self hiσ] at e2
        cases e2
        exact ⟨u, r, .inr ⟨.inl hk, c, hc, hc'⟩⟩
      · rw [List.getElem?_set_ne (Ne.symm hj)] at e2
        obtain ⟨u', r', q⟩ := hl j y v' e1 e2 e3
        refine ⟨u', r', ?_⟩
        rcases q with q | ⟨k, c', e, z'⟩
        · exact .inl q
        · refine .inr ⟨k, c', e, z'.sameBut hs ?_⟩
          rintro rfl
          exact hj (nodup_ix hN e1 (I.ok.inj _ _ _ e hc ▸ hi))
    · by_cases hcc : c' = c
      · subst hcc; exact ⟨_, hc'⟩
      · obtain ⟨w2, z2⟩ := I.cell y c' e
        exact ⟨w2, z2.sameBut hs hcc⟩
    · obtain ⟨e, n, ne, nf, d⟩ := I.pin p hp
      refine ⟨(hs.2 p.1 ?_).trans e, n, ne, nf, d⟩
      intro q
      rw [q, hoc] at e
      have q' : oc = p.2 := Option.some.inj e
      exact d w' (by rw [← q']; exact hocd)
theorem store_ok {M : Model} {A : Around} {E : Value → Shared → Prop} {i : Nat} {x : Str} {v : V} {u : Value} {Q : Unit → Shared → Prop} (I : Inv X pins σ H s) (hN : X.N.Nodup) (hi : X.N[i]? = some x) (hx : Loc X.env.scope x) (r : RelV v u)
    (h : ∀ s', Inv X pins (σ.set i (some v)) H s' → Q () s') (hf : X.fn x = true ∨ X.env.scope.names.lookup x = some .local := by first | exact .inl rfl | exact .inr rfl | assumption) : wpAny M A (storeName X.env x u) Q E s :=
  store_ok2 I hN hi hx r (fun s' I' _ => h s' I') hf
end
abbrev XK := Value → Option Addr → Hp → Prop
noncomputable abbrev St := List (Option V)
abbrev VK := V → Hp → Prop
abbrev TE := St → Hp → VK → Prop
abbrev TT := St → Hp → (Bool → Hp → Prop) → Prop
abbrev TA := St → Hp → (List V → Hp → Prop) → Prop
structure Ends where
  nx : St → Hp → Prop
  rt : VK
  bk : St → Hp → Prop := fun _ _ => False
  ct : St → Hp → Prop := fun _ _ => False
abbrev TS := Ends → St → Hp → Prop
def EP (X : Cx) (pins : List (Addr × Obj)) (σ : St) (Q : VK) (u : Value) (s' : Shared) : Prop := ∃ v H', Inv X pins σ H' s' ∧ RelV v u ∧ Q v H'
def TP (X : Cx) (pins : List (Addr × Obj)) (σ : St) (Q : Bool → Hp → Prop) (b : Bool) (s' : Shared) : Prop := ∃ H', Inv X pins σ H' s' ∧ Q b H'
def AP (X : Cx) (pins : List (Addr × Obj)) (σ : St) (Q : List V → Hp → Prop) (us : List Value) (s' : Shared) : Prop := ∃ vs H', Inv X pins σ H' s' ∧ Vals vs us ∧ Q vs H'
def SP (X : Cx) (pins : List (Addr × Obj)) (D : Ends) (f : Flow) (s' : Shared) : Prop :=
  match f with
  | .next => ∃ σ' H', Inv X pins σ' H' s' ∧ D.nx σ' H'
  | .brk => ∃ σ' H', Inv X pins σ' H' s' ∧ D.bk σ' H'
  | .cont => ∃ σ' H', Inv X pins σ' H' s' ∧ D.ct σ' H'
  | .ret u => ∃ v σ' H', Inv X pins σ' H' s' ∧ RelV v u ∧ D.rt v H'
def PE (X : Cx) (e : Expr) (t : TE) : Prop :=
  ∀ (pins : List (Addr × Obj)) (s : Shared) (σ : St) (H : Hp) (Q : VK), Inv X pins σ H s → t σ H Q → wpAny (model X.prog X.w) X.A (eval e X.env) (EP X pins σ Q) X.xe s
def PT (X : Cx) (e : Expr) (t : TT) : Prop :=
  ∀ (pins : List (Addr × Obj)) (s : Shared) (σ : St) (H : Hp) (Q : Bool → Hp → Prop), Inv X pins σ H s → t σ H Q → wpAny (model X.prog X.w) X.A (isTrue e X.env (eval e X.env)) (TP X pins σ Q) X.xe s
def PW (X : Cx) (e : Expr) (t : TT) : Prop :=
  ∀ (whole : Sem Value) (pins : List (Addr × Obj)) (s : Shared) (σ : St) (H : Hp) (Q : Bool → Hp → Prop), Inv X pins σ H s → t σ H Q → wpAny (model X.prog X.w) X.A (isTrue e X.env whole) (TP X pins σ Q) X.xe s
theorem PW.pt {X : Cx} {e : Expr} {t : TT} (h : PW X e t) : PT X e t := h _
def PA (X : Cx) (es : List Expr) (t : TA) : Prop :=
  ∀ (pos : Pos) (pins : List (Addr × Obj)) (s : Shared) (σ : St) (H : Hp) (Q : List V → Hp → Prop), Inv X pins σ H s → t σ H Q → wpAny (model X.prog X.w) X.A (spliced (backTo pos (starEach es X.env))) (AP X pins σ Q) X.xe s
def PS (X : Cx) (st : Stmt) (t : TS) : Prop :=
  ∀ (pins : List (Addr × Obj)) (s : Shared) (σ : St) (H : Hp) (D : Ends), Inv X pins σ H s → t D σ H → wpAny (model X.prog X.w) X.A (exec st X.env) (SP X pins D) X.xe s
def PSs (X : Cx) (st : List Stmt) (t : TS) : Prop :=
  ∀ (pins : List (Addr × Obj)) (s : Shared) (σ : St) (H : Hp) (D : Ends), Inv X pins σ H s → t D σ H → wpAny (model X.prog X.w) X.A (execs st X.env) (SP X pins D) X.xe s
theorem thn {α : Type} {t : Sem α} {Q Q' : α → Shared → Prop} {M : Model} {A : Around} {E : Value → Shared → Prop} {s : Shared} (h : wpAny M A t Q E s) (hQ : ∀ a s, Q a s → Q' a s) : wpAny M A t Q' E s := wpAny_mono h hQ fun _ _ x => x
end L2
namespace L2
open PySem PySem.Spec PyProof.Rows
section
variable {X : Cx}
noncomputable def tVar (i : Nat) : TE := fun σ H Q => ∃ v, σ[i]? = some (some v) ∧ Q v H
noncomputable def tC (v : V) : TE := fun _ H Q => Q v H
theorem pe_var {i : Nat} {x : Str} {pos : Pos} (hN : X.N[i]? = some x) (hv : Vis X.env.scope x) (hd : (x == ("__debug__" : Str)) = false := by decide) (hcd : (x == ("__classdict__" : Str)) = false := by decide) : PE X (.Name x pos) (tVar i) := by
  intro pins s σ H Q I h
  obtain ⟨v, e, h⟩ := h
  obtain ⟨m, hn, hl⟩ := I.loc
  obtain ⟨u, r, l⟩ := hl i x v hN e hv
  have fin : EP X pins σ Q u s := ⟨v, H, I, r, h⟩
  rcases l with ⟨hk, hm⟩ | ⟨hk, c, hc, hcell⟩
  · exact wpAny_Name (wpAny_loadName_local I.ok.kind hk hn hm fin) hd
  · rcases hk with hk | hk
    · exact wpAny_Name (wpAny_loadName_cell I.ok.kind hk hc hcell fin) hd
    · exact wpAny_Name (wpAny_loadName_free I.ok.kind hk hc hcell fin hcd) hd
theorem pe_int {i j pos} : PE X (.Constant (.int i) j pos) (tC (.int i)) := fun _ _ _ H _ I h => wpAny_Constant_int ⟨.int i, H, I.tok _, ⟨_, rfl⟩, h⟩
theorem pe_bl {b j pos} : PE X (.Constant (.bool b) j pos) (tC (.bl b)) := fun _ _ _ H _ I h => Constant_bool ⟨.bl b, H, I, rfl, h⟩
theorem pe_non {j pos} : PE X (.Constant .none j pos) (tC .non) := fun _ _ _ H _ I h => Constant_none ⟨.non, H, I, rfl, h⟩
theorem pe_str {x j pos} : PE X (.Constant (.str x) j pos) (tC (.str x)) := fun _ _ _ H _ I h => Calls.Constant_str ⟨.str x, H, I.tok _, ⟨_, rfl⟩, h⟩
def Gl (X : Cx) (x : Str) : Prop := X.env.kindOf x = some .globalImplicit
theorem ld_glob {E : Value → Shared → Prop} {pins : List (Addr × Obj)} {s : Shared} {σ : St} {H : Hp} {x : Str} {u : Value} {pos : Pos} {Q : Value → Shared → Prop} (I : Inv X pins σ H s) (hg : Gl X x) (hm : X.mg x = some u) (h : Q u s)
    (hd : (x == ("__debug__" : Str)) = false := by decide) : wpAny (model X.prog X.w) X.A (eval (.Name x pos) X.env) Q E s :=
  Calls.Name_function_global I.ok.kind hg (Calls.loadGlobal_global (by rw [I.ok.glob]; exact I.mod.glob.keeps I.bk) hm h) hd
theorem ld_blt {E : Value → Shared → Prop} {pins : List (Addr × Obj)} {s : Shared} {σ : St} {H : Hp} {x : Str} {u : Value} {pos : Pos} {Q : Value → Shared → Prop} (I : Inv X pins σ H s) (hg : Gl X x) (hm : X.mg x = none) (hv : bootBuiltins x = some u) (h : Q u s)
    (hn : x ≠ "__name__" := by decide) (hd : (x == ("__debug__" : Str)) = false := by decide) : wpAny (model X.prog X.w) X.A (eval (.Name x pos) X.env) Q E s := by
  obtain ⟨mb, h1, h2⟩ := I.mod.blt
  exact Calls.Name_function_global I.ok.kind hg (Calls.loadGlobal_builtin (by rw [I.ok.glob]; exact I.mod.glob.keeps I.bk) hm (by rw [I.ok.blt]; exact h1.keeps I.bk) ((h2 x hn).trans hv) h) hd
variable {a b : Expr} {ta tb : TE} {pos : Pos}
def PC (X : Cx) (op : CmpOp) (a b : Expr) (t : TE) : Prop :=
  ∀ (pins : List (Addr × Obj)) (s : Shared) (σ : St) (H : Hp) (Q : VK), Inv X pins σ H s → t σ H Q →
    wpAny (model X.prog X.w) X.A (eval a X.env) (fun v s₁ => wpAny (model X.prog X.w) X.A (eval b X.env) (fun u s₂ => wpAny (model X.prog X.w) X.A (compareOp op v u) (EP X pins σ Q) X.xe s₂) X.xe s₁) X.xe s
noncomputable def tIsN (ta : TE) : TE := fun σ H Q => ta σ H fun x H1 => Q (.bl (decide (x = .non))) H1
theorem RelV.none_iff {x : V} {v : Value} (r : RelV x v) : (v == Value.none) = decide (x = .non) := by
  cases x with
  | non => cases r; rfl
  | bl _ => cases r; rfl
  | int _ => obtain ⟨t, rfl⟩ := r; rfl
  | str _ => obtain ⟨t, rfl⟩ := r; rfl
  | byt _ => obtain ⟨t, rfl⟩ := r; rfl
  | flt _ => obtain ⟨t, rfl⟩ := r; rfl
  | ref _ => cases r; rfl
  | ty _ => cases r; rfl
theorem pc_isN {j pos'} (ha : PE X a ta) : PC X .Is a (.Constant .none j pos') (tIsN ta) := by
  intro pins s σ H Q I h
  refine thn (ha pins s σ H _ I h) fun v s1 ⟨x, H1, I1, r1, q1⟩ => ?_
  exact Constant_none (is_none_gen ⟨.bl _, H1, I1, by rw [r1.none_iff]; rfl, q1⟩)
theorem pe_cmp {op : CmpOp} {t : TE} (h : PC X op a b t) (h1 : behindInMarks op b = false := by first | exact nobehind _ (by decide) (by decide) | rfl) : PE X (.Compare a [op] [b] pos) t := fun pins s σ H Q I hw => wpAny_Compare1 (h pins s σ H Q I hw) h1
variable {tA tB' : TT} {rest : List Expr}
theorem pw_and1 (ha : PT X a tA) : PW X (.BoolOp .And [a] pos) tA := by
  intro wh pins s σ H Q I h
  refine isTrue_and (thn (ha pins s σ H Q I h) fun c s1 e => ?_)
  cases c with
  | true => exact isTrue_and_nil e
  | false => exact e
theorem pw_or1 (ha : PT X a tA) : PW X (.BoolOp .Or [a] pos) tA := by
  intro wh pins s σ H Q I h
  refine isTrue_or (thn (ha pins s σ H Q I h) fun c s1 e => ?_)
  cases c with
  | false => exact isTrue_or_nil e
  | true => exact e
theorem pe_one {op} {t : TE} (h : PE X a t) : PE X (.BoolOp op [a] pos) t := fun pins s σ H Q I hw => BoolOp_one (h pins s σ H Q I hw)
end
end L2
namespace L2
open PySem PySem.Spec PyProof.Rows
def SqL (K : Frag) (H : Hp) (a : Addr) (xs : List V) : Prop :=
  Rd H a (.lst xs) ∨
    ∃ (o : Obj) (its : Array Value) (n : Nat), K.lookup a = some o ∧ o.cls = .type "list" ∧ o.dict = none ∧ o.data = .seq its n ∧ its.size ≤ sizeLine ∧ Vals xs its.toList
def SqT (K : Frag) (H : Hp) (a : Addr) (xs : List V) : Prop :=
  Rd H a (.tup xs) ∨
    ∃ (o : Obj) (its : Array Value) (n : Nat), K.lookup a = some o ∧ o.cls = .type "tuple" ∧ o.data = .seq its n ∧ its.size ≤ sizeLine ∧ Vals xs its.toList
noncomputable def absV : Value → Option V
  | .none => some .non
  | .bool b => some (.bl b)
  | .int i _ => some (.int i)
  | .str x _ => some (.str x)
  | .bytes b _ => some (.byt b)
  | .float b _ => some (.flt b)
  | .ref a => some (.ref a)
  | .type n => some (.ty n)
  | _ => none
theorem RelV.abs {x : V} {u : Value} (r : RelV x u) : absV u = some x := by
  cases x with
  | non => cases r; rfl
  | bl _ => cases r; rfl
  | int _ => obtain ⟨t, rfl⟩ := r; rfl
  | str _ => obtain ⟨t, rfl⟩ := r; rfl
  | byt _ => obtain ⟨t, rfl⟩ := r; rfl
  | flt _ => obtain ⟨t, rfl⟩ := r; rfl
  | ref _ => cases r; rfl
  | ty _ => cases r; rfl
theorem RelV.inj {x y : V} {u : Value} (r : RelV x u) (q : RelV y u) : x = y := Option.some.inj (r.abs.symm.trans q.abs)
theorem Vals.inj : ∀ {xs ys : List V} {us : List Value}, Vals xs us → Vals ys us → xs = ys
  | _, _, _, .nil, .nil => rfl
  | _, _, _, .cons r t, .cons r' t' => by rw [r.inj r', Vals.inj t t']
section
variable {X : Cx} {pins : List (Addr × Obj)} {σ : St} {H : Hp} {s : Shared} {a : Addr} {xs ys : List V}
theorem SqL.of {K : Frag} (h : H a = some (.lst xs)) : SqL K H a xs := .inl (.inl h)
theorem SqT.of {K : Frag} (h : H a = some (.tup xs)) : SqT K H a xs := .inl (.inl h)
theorem Inv.list (I : Inv X pins σ H s) (h : SqL X.K H a xs) : ∃ its : List Value, Vals xs its ∧ PlainL s.heap a its.toArray ∧ xs.length ≤ sizeLine := by
  rcases h with h | ⟨o, its, n, hk, hc, hd, hs, hz, r⟩
  · obtain ⟨z, its, n, r, e⟩ := h.ok I.hok
    exact ⟨its, r, ⟨_, n, e, rfl, rfl, rfl⟩, z⟩
  · refine ⟨its.toList, r, ⟨o, n, I.kIn a o hk, hc, hd, by simpa using hs⟩, ?_⟩
    have e := r.length
    simp only [Array.length_toList] at e
    omega
theorem Inv.tuple (I : Inv X pins σ H s) (h : SqT X.K H a xs) : ∃ its : List Value, Vals xs its ∧ IsTup s.heap a its.toArray ∧ xs.length ≤ sizeLine := by
  rcases h with h | ⟨o, its, n, hk, hc, hs, hz, r⟩
  · obtain ⟨z, its, r, p⟩ := h.ok I.hok
    exact ⟨its, r, p, z⟩
  · refine ⟨its.toList, r, ⟨o, I.kIn a o hk, hc, n, by simpa using hs⟩, ?_⟩
    have e := r.length
    simp only [Array.length_toList] at e
    omega
theorem Inv.list_inj (I : Inv X pins σ H s) (h : SqL X.K H a xs) (h' : SqL X.K H a ys) : xs = ys := by
  obtain ⟨its, r, ⟨o, n, e, _, _, d⟩, _⟩ := I.list h
  obtain ⟨its', r', ⟨o', n', e', _, _, d'⟩, _⟩ := I.list h'
  rw [e] at e'; cases e'
  rw [d] at d'
  injection d' with d1 _
  have : its = its' := by simpa using congrArg Array.toList d1
  subst this
  exact r.inj r'
theorem Inv.tuple_inj (I : Inv X pins σ H s) (h : SqT X.K H a xs) (h' : SqT X.K H a ys) : xs = ys := by
  obtain ⟨its, r, ⟨o, e, _, n, d⟩, _⟩ := I.tuple h
  obtain ⟨its', r', ⟨o', e', _, n', d'⟩, _⟩ := I.tuple h'
  rw [e] at e'; cases e'
  rw [d] at d'
  injection d' with d1 _
  have : its = its' := by simpa using congrArg Array.toList d1
  subst this
  exact r.inj r'
end
noncomputable abbrev Cx.wish (X : Cx) (E : Value → Shared → Prop) : Cx := { X with xe := E }
noncomputable abbrev Cx.nox (X : Cx) : Cx := X.wish fun _ _ => False
theorem Cx.Ok.wish {X : Cx} (ok : X.Ok) (E : Value → Shared → Prop) : (X.wish E).Ok :=
  ⟨ok.mod, ok.kind, ok.glob, ok.blt, ok.above, ok.inj, ok.has, ok.cab, ok.hd, ok.frames, ok.stk, ok.exf, ok.bs, ok.bsz, ok.noex, ok.exfs, ok.funs, ok.frf⟩
theorem Cx.Ok.unwish {X : Cx} {E : Value → Shared → Prop} (ok : (X.wish E).Ok) : X.Ok :=
  ⟨ok.mod, ok.kind, ok.glob, ok.blt, ok.above, ok.inj, ok.has, ok.cab, ok.hd, ok.frames, ok.stk, ok.exf, ok.bs, ok.bsz, ok.noex, ok.exfs, ok.funs, ok.frf⟩
section
variable {X : Cx} {pins : List (Addr × Obj)} {σ : St} {H : Hp} {s : Shared} {E : Value → Shared → Prop}
theorem Inv.wish (I : Inv X pins σ H s) (E : Value → Shared → Prop) : Inv (X.wish E) pins σ H s := ⟨I.ok.wish E, I.os, I.bare, I.base, I.loc, I.cell, I.free, I.freeC, I.pin, I.hok, I.len⟩
theorem Inv.unwish (I : Inv (X.wish E) pins σ H s) : Inv X pins σ H s := ⟨I.ok.unwish, I.os, I.bare, I.base, I.loc, I.cell, I.free, I.freeC, I.pin, I.hok, I.len⟩
theorem SP.unwish {D : Ends} {f : Flow} {s' : Shared} (h : SP (X.wish E) pins D f s') : SP X pins D f s' := by
  cases f with
  | next => obtain ⟨σ', H', I, q⟩ := h; exact ⟨σ', H', I.unwish, q⟩
  | brk => obtain ⟨σ', H', I, q⟩ := h; exact ⟨σ', H', I.unwish, q⟩
  | cont => obtain ⟨σ', H', I, q⟩ := h; exact ⟨σ', H', I.unwish, q⟩
  | ret u => obtain ⟨v, σ', H', I, r, q⟩ := h; exact ⟨v, σ', H', I.unwish, r, q⟩
theorem PSs.nox {st : List Stmt} {t : TS} (h : PSs X.nox st t) : PSs X st t := fun pins s σ H D I hw =>
  wpAny_mono (h pins s σ H D (I.wish _) hw) (fun _ _ q => q.unwish) fun _ _ z => False.elim z
end
section
variable {X : Cx} {st : Stmt} {rest : List Stmt} {t u : TS} {e : Expr} {te : TE} {pos : Pos}
noncomputable def tNext : TS := fun D σ H => D.nx σ H
noncomputable def tSeq (t u : TS) : TS := fun D σ H => t { D with nx := u D } σ H
theorem pss_nil : PSs X [] tNext := fun _ _ σ H _ I h => wpAny_execs_nil ⟨σ, H, I, h⟩
theorem pss_cons (h1 : PS X st t) (h2 : PSs X rest u) : PSs X (st :: rest) (tSeq t u) := by
  intro pins s σ H D I h
  refine wpAny_execs_cons (thn (h1 pins s σ H { D with nx := u D } I h) fun f s1 q => ?_)
  cases f with
  | next =>
    obtain ⟨σ', H', I', q⟩ := q
    exact h2 pins s1 σ' H' D I' q
  | ret v => exact q
  | brk => exact q
  | cont => exact q
theorem Inv.quiet {pins : List (Addr × Obj)} {σ : St} {H : Hp} {s : Shared} (I : Inv X pins σ H s) : interactive X.env = false := by simp [interactive, I.ok.kind]
noncomputable def tDrop (te : TE) : TS := fun D σ H => te σ H fun _ H1 => D.nx σ H1
theorem ps_expr (he : PE X e te) (hs : swapsWith e none pos.line X.env = pure false := by rfl) : PS X (.Expr e pos) (tDrop te) := by
  intro pins s σ H D I h
  exact wpAny_Expr_any (thn (he pins s σ H _ I h) fun v s1 ⟨x, H1, I1, r1, q1⟩ => ⟨σ, H1, I1, q1⟩) I.quiet hs
noncomputable def tRet (te : TE) : TS := fun D σ H => te σ H D.rt
theorem ps_ret (he : PE X e te) : PS X (.Return (some e) pos) (tRet te) := by
  intro pins s σ H D I h
  exact wpAny_Return_some (thn (he pins s σ H _ I h) fun v s1 ⟨x, H1, I1, r1, q1⟩ => ⟨x, σ, H1, I1, r1, q1⟩)
noncomputable def tIfS (c : TT) (t u : TS) : TS := fun D σ H => c σ H fun b H1 => if b = true then t D σ H1 else u D σ H1
theorem ps_if {c : Expr} {a b : List Stmt} {tc : TT} (hc : PT X c tc) (ha : PSs X a t) (hb : PSs X b u) : PS X (.If c a b pos) (tIfS tc t u) := by
  intro pins s σ H D I h
  refine wpAny_If (thn (hc pins s σ H _ I h) fun d s1 ⟨H1, I1, q1⟩ => ?_)
  cases d with
  | true => exact ha pins s1 σ H1 D I1 q1
  | false => exact hb pins s1 σ H1 D I1 q1
end
abbrev TG := V → St → Hp → (St → Hp → Prop) → Prop
abbrev TGs := List V → St → Hp → (St → Hp → Prop) → Prop
def PG (X : Cx) (target : Expr) (t : TG) : Prop :=
  ∀ (pins : List (Addr × Obj)) (s : Shared) (σ : St) (H : Hp) (v : V) (u : Value) (Q : St → Hp → Prop), Inv X pins σ H s → RelV v u → t v σ H Q →
    wpAny (model X.prog X.w) X.A (assign target X.env u) (fun _ s' => ∃ σ' H', Inv X pins σ' H' s' ∧ Q σ' H') X.xe s
def PGs (X : Cx) (ts : List Expr) (t : TGs) : Prop :=
  ∀ (pins : List (Addr × Obj)) (s : Shared) (σ : St) (H : Hp) (vs : List V) (us : List Value) (Q : St → Hp → Prop), Inv X pins σ H s → Vals vs us → t vs σ H Q →
    wpAny (model X.prog X.w) X.A (assignInOrder ((assignEach ts X.env).map (·.2)) us) (fun _ s' => ∃ σ' H', Inv X pins σ' H' s' ∧ Q σ' H') X.xe s
abbrev TSet := V → V → V → Hp → (Hp → Prop) → Prop
def PSet (X : Cx) (t : TSet) : Prop :=
  ∀ (pins : List (Addr × Obj)) (s : Shared) (σ : St) (H : Hp) (o i v : V) (ov iv u : Value) (Q : Hp → Prop), Inv X pins σ H s → RelV o ov → RelV i iv → RelV v u → t o i v H Q →
    wpAny (model X.prog X.w) X.A (setItem ov iv u) (fun _ s' => ∃ H', Inv X pins σ H' s' ∧ Q H') X.xe s
section
variable {X : Cx} {pos : Pos}
noncomputable def gName (i : Nat) : TG := fun v σ H Q => Q (σ.set i (some v)) H
theorem pg_name {i : Nat} {x : Str} (hN : X.N.Nodup) (hi : X.N[i]? = some x) (hx : Loc X.env.scope x) (hf : X.fn x = true ∨ X.env.scope.names.lookup x = some .local := by first | exact .inl rfl | exact .inr rfl | assumption) : PG X (.Name x pos) (gName i) := by
  intro pins s σ H v u Q I r h
  exact wpAny_assign_Name (store_ok I hN hi hx r (fun s' I' => ⟨_, H, I', h⟩) hf)
noncomputable def gNil : TGs := fun vs σ H Q => vs = [] ∧ Q σ H
noncomputable def gCons (t : TG) (u : TGs) : TGs := fun vs σ H Q => ∃ v r, vs = v :: r ∧ t v σ H fun σ' H' => u r σ' H' Q
theorem pgs_nil : PGs X [] gNil := by
  intro pins s σ H vs us Q I r h
  obtain ⟨e, h⟩ := h
  subst e
  cases r
  exact assignInOrder_nil ⟨σ, H, I, h⟩
theorem pgs_cons {e : Expr} {es : List Expr} {t : TG} {u : TGs} (h1 : PG X e t) (h2 : PGs X es u)
    (hs : (assignEach (e :: es) X.env).map (·.2) = assign e X.env :: (assignEach es X.env).map (·.2) := by rfl) : PGs X (e :: es) (gCons t u) := by
  intro pins s σ H vs us Q I r h
  obtain ⟨v, vr, e1, h⟩ := h
  subst e1
  cases r with
  | cons r rr =>
    rw [hs]
    refine assignInOrder_cons (thn (h1 pins s σ H _ _ _ I r h) fun _ s1 ⟨σ1, H1, I1, q1⟩ => ?_)
    exact h2 pins s1 σ1 H1 _ _ Q I1 rr q1
noncomputable def gTup (K : Frag) (n : Nat) (t : TGs) : TG := fun v σ H Q => ∃ a xs, v = .ref a ∧ SqT K H a xs ∧ xs.length = n ∧ t xs σ H Q
theorem pg_tup {es : List Expr} {k : Nat} {t : TGs} {n : Nat} (hc : X.calm = true) (h : PGs X es t)
    (hn : (assignEach es X.env).length = n := by rfl) (hst : (assignEach es X.env).findIdx? (·.1) = none := by rfl) : PG X (.Tuple es k pos) (gTup X.K n t) := by
  intro pins s σ H v u Q I r hw
  obtain ⟨a, xs, e1, hq, hl, hw⟩ := hw
  subst e1
  cases r
  obtain ⟨its, rv, ht, hz⟩ := I.tuple hq
  refine assign_Tuple_tuple (I.ok.hd hc) ht (by simp [hn, ← hl, rv.length]) hst fun h' hx => ?_
  have I1 : Inv X pins σ H { s with heap := h' } := I.kept (t' := s.toks) fun b o e => hx b o (Nat.ne_of_lt (Heap.lt_size e)) e
  exact h pins _ σ H xs _ Q I1 (by simpa using rv) hw
noncomputable def gSub (to ti : TE) (t : TSet) : TG := fun v σ H Q => to σ H fun o H1 => ti σ H1 fun i H2 => t o i v H2 fun H3 => Q σ H3
theorem pg_sub {o i : Expr} {to ti : TE} {t : TSet} (ho : PE X o to) (hi : PE X i ti) (hs : PSet X t)
    (ha : ∀ v, assign (.Subscript o i pos) X.env v = (do
      let ov ← holding [v] (eval o X.env)
      let iv ← holding [v, ov] (eval i X.env)
      standAt pos
      holding [v, ov, iv] (setItem ov iv v)
      release [v, ov, iv] []) := by intro _; rfl) : PG X (.Subscript o i pos) (gSub to ti t) := by
  intro pins s σ H v u Q I r h
  rw [ha]
  refine wpAny_bind (wpAny_holding (thn (ho pins s σ H _ I h) fun ov s1 ⟨x, H1, I1, r1, q1⟩ => ?_))
  refine wpAny_bind (wpAny_holding (thn (hi pins s1 σ H1 _ I1 q1) fun iv s2 ⟨y, H2, I2, r2, q2⟩ => ?_))
  refine wpAny_bind (wpAny_standAt (wpAny_bind (wpAny_holding (thn (hs pins s2 σ H2 x y v ov iv u _ I2 r1 r2 r q2) fun _ s3 ⟨H3, I3, q3⟩ => ?_))))
  exact wpAny_release ⟨σ, H3, I3, q3⟩
noncomputable def tAsg (te : TE) (g : TG) : TS := fun D σ H => te σ H fun x H1 => g x σ H1 D.nx
theorem ps_asg {tg e : Expr} {te : TE} {g : TG} (he : PE X e te) (hg : PG X tg g) (hs : swapsWithSole [tg] e pos.line X.env = pure false := by rfl) (hw : swappedStores [tg] e X.env = pure none := by rfl)
    (h1 : (assignEach [tg] X.env).map (·.2) = [assign tg X.env] := by rfl) : PS X (.Assign [tg] e pos) (tAsg te g) := by
  intro pins s σ H D I h
  refine wpAny_Assign_stores (thn (he pins s σ H _ I h) fun v s1 ⟨x, H1, I1, r1, q1⟩ => ?_) hs hw
  rw [h1]
  exact thn (hg pins s1 σ H1 x v _ I1 r1 q1) fun _ s2 q => q
noncomputable def tPar (i j : Nat) (ta : TA) : TS := fun D σ H => ta σ H fun vs H1 => ∃ v w, vs = [v, w] ∧ D.nx ((σ.set i (some v)).set j (some w)) H1
theorem ps_par {i j : Nat} {x y : Str} {a b : Expr} {ta : TA} {px py pt : Pos} {kt k2 pt2} (hc : X.calm = true) (hN : X.N.Nodup) (hi : X.N[i]? = some x) (hj : X.N[j]? = some y) (hij : i ≠ j)
    (hx : X.env.scope.names.lookup x = some .local) (hy : X.env.scope.names.lookup y = some .local) (ha : PA X [a, b] ta)
    (hw : swappedStores [.Tuple [.Name x px, .Name y py] kt pt] (.Tuple [a, b] k2 pt2) X.env = pure (some [x, y]))
    (hs : swapsWithSole [.Tuple [.Name x px, .Name y py] kt pt] (.Tuple [a, b] k2 pt2) pos.line X.env = pure false := by rfl) :
    PS X (.Assign [.Tuple [.Name x px, .Name y py] kt pt] (.Tuple [a, b] k2 pt2) pos) (tPar i j ta) := by
  intro pins s σ H D I h
  rw [exec_Assign_arm]
  refine wpAny_bind (wpAny_standAt ?_)
  rw [hs]
  refine wpAny_bind (wpAny_pure ?_)
  rw [if_neg (by decide)]
  refine wpAny_bind (Tuple_ (thn (ha _ pins s σ H _ I h) fun us s1 ⟨vs, H1, I1, r1, q1⟩ => ?_))
  obtain ⟨v, w, e1, q1⟩ := q1
  subst e1
  obtain ⟨u1, u2, rfl, rv, rw'⟩ : ∃ u1 u2, us = [u1, u2] ∧ RelV v u1 ∧ RelV w u2 := by
    cases r1 with
    | cons p q =>
      cases q with
      | cons p' q' =>
        cases q'
        exact ⟨_, _, rfl, p, p'⟩
  refine wpAny_newObj_type ?_ (by show 2 ≤ sizeLine; decide)
  have I2 : Inv X pins σ H1 { s1 with heap := s1.heap.push { cls := .type "tuple", data := .seq [u1, u2].toArray } } := I1.kept (t' := s1.toks) fun b o e => Heap.get?_push_of_some _ e
  rw [hw]
  refine wpAny_bind (wpAny_pure ?_)
  show wpAny (model X.prog X.w) X.A (do rule "assign.swapped-stores"; let items ← unpackItems (.ref s1.heap.objs.size) 2 none; assignInOrder [fun v => bindName X.env y v, fun v => bindName X.env x v] items.reverse; pure Flow.next) _ _ _
  refine wpAny_bind (wpAny_rule (wpAny_bind (unpackItems_tuple (items := #[u1, u2]) (I.ok.hd hc) (IsTup.new s1.heap _) fun h' hx' => ?_)))
  have I3 := I2.kept (h' := h') (t' := s1.toks) fun b o e => hx' b o (Nat.ne_of_lt (Heap.lt_size e)) e
  show wpAny _ _ (assignInOrder [fun v => bindName X.env y v, fun v => bindName X.env x v] [u2, u1] >>= fun _ => pure Flow.next) _ _ _
  refine wpAny_bind (assignInOrder_cons (wpAny_bindName (store_ok I3 hN hj (.inl hy) rw' (fun s2 I4 => ?_) (.inr hy))))
  refine assignInOrder_cons (wpAny_bindName (store_ok I4 hN hi (.inl hx) rv (fun s3 I5 => assignInOrder_nil (wpAny_pure ?_)) (.inr hx)))
  rw [List.set_comm _ _ (Ne.symm hij)] at I5
  exact ⟨_, H1, I5, q1⟩
end
section
variable {X : Cx} {pos : Pos}
noncomputable def tWhile (c : TT) (tb : TS) : TS := fun D σ H => ∃ W : Nat → St → Hp → Prop, (∃ m, W m σ H) ∧ ∀ m σ H, W m σ H →
  c σ H fun b H1 => if b = true then ∃ N : St → Hp → Prop, (∀ σ' H', N σ' H' → ∃ m', m' < m ∧ W m' σ' H') ∧ tb { D with nx := N, ct := N, bk := D.nx } σ H1 else D.nx σ H1
theorem ps_while {c : Expr} {body : List Stmt} {tc : TT} {tb : TS} (hp : PassesOwn (model X.prog X.w) X.A X.env X.xe) (hc : PT X c tc) (hb : PSs X body tb) : PS X (.While c body [] pos) (tWhile tc tb) := by
  intro pins s σ H D I h
  obtain ⟨W, ⟨m0, w0⟩, turn⟩ := h
  refine wpAny_While (codeAny_whileLoop (fun n s' => ∃ σ' H', Inv X pins σ' H' s' ∧ W n σ' H') ?_ m0 ⟨σ, H, I, w0⟩)
  rintro n s1 ⟨σ1, H1, I1, w1⟩
  refine wpAny_passesOwn hp (thn (hc pins s1 σ1 H1 _ I1 (turn n σ1 H1 w1)) fun b s2 ⟨H2, I2, q2⟩ => ?_)
  cases b with
  | true =>
    obtain ⟨N, hN, q2⟩ := q2
    rw [if_pos rfl]
    refine wpAny_passesOwn hp (thn (hb pins s2 σ1 H2 _ I2 q2) fun f s3 q3 => ?_)
    cases f with
    | next =>
      obtain ⟨σ3, H3, I3, n3⟩ := q3
      obtain ⟨m', hm, w3⟩ := hN σ3 H3 n3
      exact ⟨m', hm, σ3, H3, I3, w3⟩
    | cont =>
      obtain ⟨σ3, H3, I3, n3⟩ := q3
      obtain ⟨m', hm, w3⟩ := hN σ3 H3 n3
      exact ⟨m', hm, σ3, H3, I3, w3⟩
    | brk => exact q3
    | ret v => exact q3
  | false =>
    rw [if_neg Bool.false_ne_true]
    exact wpAny_execs_nil ⟨σ1, H2, I2, q2⟩
end
structure It where
  go : Nat → Hp → Prop
  yld : Nat → Hp → V → Hp → Prop
  stop : Nat → Hp → Prop
def FpOk (X : Cx) (pins : List (Addr × Obj)) (H : Hp) (b : Addr) : Prop :=
  H b = none ∧ b ≠ X.env.locals ∧ b ∉ X.fs ∧ (b ∈ X.ex ∨ X.s₀.heap.objs.size ≤ b) ∧ (∀ x c, X.env.cells.lookup x = some c → c ≠ b) ∧ ∀ p ∈ X.pn ++ pins, p.1 ≠ b
theorem Inv.fpOk {X : Cx} {pins : List (Addr × Obj)} {σ : St} {H H' : Hp} {s : Shared} {b : Addr} (I : Inv X pins σ H s) (hb : s.heap.objs.size ≤ b) (hn : H' b = none) : FpOk X pins H' b := by
  refine ⟨hn, Nat.ne_of_gt (Nat.lt_of_lt_of_le I.lt hb), I.nofs hb, .inr (Nat.le_trans I.sz hb), fun x c e z => ?_, fun p hp z => ?_⟩
  · obtain ⟨v, q⟩ := I.cell x c e
    exact absurd (Nat.lt_of_lt_of_le q.lt (by rw [z]; exact hb)) (Nat.lt_irrefl _)
  · exact absurd (Nat.lt_of_lt_of_le (Heap.lt_size (I.pin p hp).1) (by rw [z]; exact hb)) (Nat.lt_irrefl _)
structure Turn (P : Program) (w : World) (K : Frag) (tg : Expr) (J : It) (fp : List Addr) (it : Addr) (tn : Nat → Heap → Prop) : Prop where
  mem : it ∈ fp
  obj : ∀ i h, tn i h → ∀ b ∈ fp, ∃ o, h.get? b = some o ∧ ∀ v, o.data ≠ .cell v
  keep : ∀ i h h', tn i h → (∀ b ∈ fp, ∀ o, h.get? b = some o → h'.get? b = some o) → tn i h'
  item : ∀ (X : Cx), X.prog = P → X.w = w → X.K = K → X.calm = true → ∀ (i : Nat) (pins : List (Addr × Obj)) (s : Shared) (σ : St) (H : Hp) (E : Value → Shared → Prop), Inv X pins σ H s → (∀ b ∈ fp, FpOk X pins H b) → tn i s.heap → J.go i H →
    wpAny (model P w) X.A (pyNext (.ref it)) (fun r s1 => ∃ u, r = some u ∧
      wpAny (model P w) X.A (letOwnedTupleGo tg (.ref it) u) (fun _ s2 => ∃ x H', Inv X pins σ H' s2 ∧ RelV x u ∧ J.yld i H x H' ∧ tn (i + 1) s2.heap ∧ ∀ b ∈ fp, H' b = none) E s1) E s
  done : ∀ (X : Cx), X.prog = P → X.w = w → X.K = K → X.calm = true → ∀ (i : Nat) (pins : List (Addr × Obj)) (s : Shared) (σ : St) (H : Hp) (E : Value → Shared → Prop), Inv X pins σ H s → (∀ b ∈ fp, FpOk X pins H b) → tn i s.heap → J.stop i H →
    wpAny (model P w) X.A (pyNext (.ref it)) (fun r s1 => r = none ∧ Inv X pins σ H s1) E s
  self : ∀ (A : Around) (i : Nat) (s : Shared) (Q : Value → Shared → Prop) (E : Value → Shared → Prop), tn i s.heap → Q (.ref it) s → wpAny (model P w) A (pyIter (.ref it)) Q E s
abbrev TI := St → Hp → (It → Hp → Prop) → Prop
def PIE (X : Cx) (pins : List (Addr × Obj)) (σ : St) (tg : Expr) (R : It → Hp → Prop) (itv : Value) (s2 : Shared) : Prop :=
  ∃ (it : Addr) (fp : List Addr) (tn : Nat → Heap → Prop) (J : It) (H' : Hp), itv = .ref it ∧ Inv X pins σ H' s2 ∧ Turn X.prog X.w X.K tg J fp it tn ∧ tn 0 s2.heap ∧ (∀ b ∈ fp, FpOk X pins H' b) ∧ R J H'
def PI (X : Cx) (tg iter : Expr) (wi : TI) : Prop :=
  ∀ (pins : List (Addr × Obj)) (s : Shared) (σ : St) (H : Hp) (R : It → Hp → Prop), Inv X pins σ H s → wi σ H R →
    wpAny (model X.prog X.w) X.A (eval iter X.env) (fun v s1 => wpAny (model X.prog X.w) X.A (pyIter v) (PIE X pins σ tg R) X.xe s1) X.xe s
theorem go_of {M : Model} {A : Around} {E : Value → Shared → Prop} {s : Shared} {tg : Expr} {it : Addr} {u : Value} {o : Obj} {n : String} {vs : Array Value} {Q : Unit → Shared → Prop} (ho : s.heap.get? it = some o) (hc : o.cls = .type n) (hd : o.data = .fields vs)
    (hn : ["enumerate", "zip", "dict_itemiterator", "dict_reverseitemiterator", "odict_iterator", "itertools.zip_longest", "itertools.pairwise"].contains n = false) (hQ : Q () s) : wpAny M A (letOwnedTupleGo tg (.ref it) u) Q E s := by
  unfold letOwnedTupleGo
  cases tg <;> first
    | exact wpAny_pure hQ
    | (cases u <;> first
        | exact wpAny_pure hQ
        | (refine wpAny_bind (wpAny_load ho ?_)
           rw [hc, hd]
           show wpAny M A (if (["enumerate", "zip", "dict_itemiterator", "dict_reverseitemiterator", "odict_iterator", "itertools.zip_longest", "itertools.pairwise"].contains n && vs[0]? == some (rawInt _)) = true then _ else _) Q E s
           rw [if_neg (by intro h; rw [hn, Bool.false_and] at h; cases h)]
           exact wpAny_pure hQ))
noncomputable def Itl (K : Frag) (a : Addr) : It :=
  ⟨fun i H => ∃ xs x, SqL K H a xs ∧ xs[i]? = some x, fun i H x H' => H' = H ∧ ∀ xs, SqL K H a xs → xs[i]? = some x, fun i H => ∃ xs, SqL K H a xs ∧ xs.length ≤ i⟩
noncomputable def Itt (K : Frag) (a : Addr) : It :=
  ⟨fun i H => ∃ xs x, SqT K H a xs ∧ xs[i]? = some x, fun i H x H' => H' = H ∧ ∀ xs, SqT K H a xs → xs[i]? = some x, fun i H => ∃ xs, SqT K H a xs ∧ xs.length ≤ i⟩
noncomputable def Itr (lo : Int) (n : Nat) : It := ⟨fun i _ => i < n, fun i H x H' => H' = H ∧ x = .int (lo + i), fun i _ => n ≤ i⟩
theorem turn_list {P : Program} {w : World} {K : Frag} {tg : Expr} (a it : Addr) : Turn P w K tg (Itl K a) [it] it (fun i h => h.IsListIter it a i) where
  mem := by simp
  obj := fun i h st b hb => by
    have e : b = it := by simpa using hb
    subst e
    obtain ⟨o, e, c, d⟩ := st
    exact ⟨o, e, fun v z => by rw [d] at z; cases z⟩
  keep := fun i h h' st k => st.at fun o e => k it (by simp) o e
  item := by
    intro X hP hw hK hc i pins s σ H E I hf st hg
    subst hP hw hK
    obtain ⟨xs, x, hq, hx⟩ := hg
    obtain ⟨its, rv, p, hz⟩ := I.list hq
    obtain ⟨u, hu, ru⟩ := rv.get hx
    obtain ⟨f0, f1, f2, f3, f4, f5⟩ := hf it (by simp)
    refine wpAny_pyNext_list_item st p.isList (x := u) (by simpa using hu) fun h' st' sb => ?_
    have I1 : Inv X pins σ H { s with heap := h' } := I.turned (t' := s.toks) (fun b o hb e => (sb.2 b hb).trans e) f0 f1 f3 f4 f5
    obtain ⟨o, e, c, d⟩ := id st'
    exact ⟨u, rfl, go_of (s := { s with heap := h' }) e c d (by decide) ⟨x, H, I1, ru, ⟨rfl, fun ys hy => by rw [I.list_inj hy hq]; exact hx⟩, st', fun b hb => (hf b hb).1⟩⟩
  done := by
    intro X hP hw hK hc i pins s σ H E I hf st hg
    subst hP hw hK
    obtain ⟨xs, hq, hx⟩ := hg
    obtain ⟨its, rv, p, hz⟩ := I.list hq
    obtain ⟨f0, f1, f2, f3, f4, f5⟩ := hf it (by simp)
    have hl := rv.length
    exact wpAny_pyNext_list_end (I.ok.hd hc) st p.isList (by simp; omega) fun h' eb => ⟨rfl, I.turned (t' := s.toks) (fun b o hb e => eb b o hb e) f0 f1 f3 f4 f5⟩
  self := fun _ _ _ _ _ st h => wpAny_pyIter_listiter st h
theorem turn_tuple {P : Program} {w : World} {K : Frag} {tg : Expr} (a it : Addr) : Turn P w K tg (Itt K a) [it] it (fun i h => h.IsTupleIter it a i) where
  mem := by simp
  obj := fun i h st b hb => by
    have e : b = it := by simpa using hb
    subst e
    obtain ⟨o, e, c, d⟩ := st
    exact ⟨o, e, fun v z => by rw [d] at z; cases z⟩
  keep := fun i h h' st k => st.at fun o e => k it (by simp) o e
  item := by
    intro X hP hw hK hc i pins s σ H E I hf st hg
    subst hP hw hK
    obtain ⟨xs, x, hq, hx⟩ := hg
    obtain ⟨its, rv, p, hz⟩ := I.tuple hq
    obtain ⟨u, hu, ru⟩ := rv.get hx
    obtain ⟨f0, f1, f2, f3, f4, f5⟩ := hf it (by simp)
    refine wpAny_pyNext_tuple_item st (show s.heap.IsTuple a its.toArray from p) (x := u) (by simpa using hu) fun h' st' sb => ?_
    have I1 : Inv X pins σ H { s with heap := h' } := I.turned (t' := s.toks) (fun b o hb e => (sb.2 b hb).trans e) f0 f1 f3 f4 f5
    obtain ⟨o, e, c, d⟩ := id st'
    exact ⟨u, rfl, go_of (s := { s with heap := h' }) e c d (by decide) ⟨x, H, I1, ru, ⟨rfl, fun ys hy => by rw [I.tuple_inj hy hq]; exact hx⟩, st', fun b hb => (hf b hb).1⟩⟩
  done := by
    intro X hP hw hK hc i pins s σ H E I hf st hg
    subst hP hw hK
    obtain ⟨xs, hq, hx⟩ := hg
    obtain ⟨its, rv, p, hz⟩ := I.tuple hq
    obtain ⟨f0, f1, f2, f3, f4, f5⟩ := hf it (by simp)
    have hl := rv.length
    exact wpAny_pyNext_tuple_end (I.ok.hd hc) st (show s.heap.IsTuple a its.toArray from p) (by simp; omega) fun h' eb => ⟨rfl, I.turned (t' := s.toks) (fun b o hb e => eb b o hb e) f0 f1 f3 f4 f5⟩
  self := fun _ _ _ _ _ st h => wpAny_pyIter_tupleiter st h
theorem turn_range {P : Program} {w : World} {K : Frag} {tg : Expr} (it : Addr) (lo : Int) (n : Nat) : Turn P w K tg (Itr lo n) [it] it (fun i h => IsRangeIter h it (lo + (i : Nat) * 1) ((n : Int) - (i : Nat)) 1) where
  mem := by simp
  obj := fun i h st b hb => by
    have e : b = it := by simpa using hb
    subst e
    exact ⟨_, st, fun v z => by
      have z' : Data.fields _ = Data.cell v := z
      cases z'⟩
  keep := fun i h h' st k => k it (by simp) _ st
  item := by
    intro X hP hw hK hc i pins s σ H E I hf st hg
    subst hP hw hK
    obtain ⟨f0, f1, f2, f3, f4, f5⟩ := hf it (by simp)
    have W := Walks.range (prog := X.prog) (w := X.w) (I.ok.hd hc) it lo 1 n
    refine W.item i s _ _ hg st fun v h' tk hv st' kk => ?_
    obtain ⟨t, rfl⟩ := hv
    have I1 : Inv X pins σ H { s with heap := h', toks := tk } := I.turned (fun b o hb e => kk b o (by simpa using hb) e) f0 f1 f3 f4 f5
    refine ⟨_, rfl, go_of (s := { s with heap := h', toks := tk }) (n := "range_iterator") st' rfl rfl (by decide) ⟨.int (lo + i), H, I1, ⟨t, ?_⟩, ⟨rfl, rfl⟩, st', fun b hb => (hf b hb).1⟩⟩
    rw [Int.mul_one]
  done := by
    intro X hP hw hK hc i pins s σ H E I hf st hg
    subst hP hw hK
    obtain ⟨f0, f1, f2, f3, f4, f5⟩ := hf it (by simp)
    exact wpAny_pyNext_range_end (I.ok.hd hc) st (by have : n ≤ i := hg; omega) fun h' eb => ⟨rfl, I.turned (t' := s.toks) (fun b o hb e => eb b o hb e) f0 f1 f3 f4 f5⟩
  self := fun _ _ _ _ _ st h => wpAny_pyIter_rangeiter st h
end L2
namespace L2
open PySem PySem.Spec PyProof.Rows
section
variable {X : Cx} {tg : Expr}
noncomputable def iList (K : Frag) (tl : TE) : TI := fun σ H R => tl σ H fun x H1 => ∃ a, x = .ref a ∧ (∃ xs, SqL K H1 a xs) ∧ R (Itl K a) H1
noncomputable def iTup (K : Frag) (tl : TE) : TI := fun σ H R => tl σ H fun x H1 => ∃ a, x = .ref a ∧ (∃ xs, SqT K H1 a xs) ∧ R (Itt K a) H1
theorem pi_list {l : Expr} {tl : TE} (hl : PE X l tl) : PI X tg l (iList X.K tl) := by
  intro pins s σ H R I h
  refine thn (hl pins s σ H _ I h) fun v s1 ⟨x, H1, I1, r1, q1⟩ => ?_
  obtain ⟨a, e, ⟨xs, hq⟩, q⟩ := q1
  subst e
  cases r1
  obtain ⟨its, rv, p, hz⟩ := I1.list hq
  refine wpAny_pyIter_list p.isList ?_
  refine ⟨s1.heap.objs.size, [s1.heap.objs.size], _, _, H1, rfl, I1.kept (t' := s1.toks) fun b o e => Heap.get?_push_of_some _ e, turn_list a _, ⟨_, Heap.get?_push_size _ rfl, rfl, rfl⟩, fun b hb => ?_, q⟩
  have e : b = s1.heap.objs.size := by simpa using hb
  subst e
  exact I1.fpOk (Nat.le_refl _) (I1.hok.fresh (Nat.le_refl _))
theorem pi_tup {l : Expr} {tl : TE} (hl : PE X l tl) : PI X tg l (iTup X.K tl) := by
  intro pins s σ H R I h
  refine thn (hl pins s σ H _ I h) fun v s1 ⟨x, H1, I1, r1, q1⟩ => ?_
  obtain ⟨a, e, ⟨xs, hq⟩, q⟩ := q1
  subst e
  cases r1
  obtain ⟨its, rv, p, hz⟩ := I1.tuple hq
  refine wpAny_pyIter_tuple (show s1.heap.IsTuple a its.toArray from p) ?_
  refine ⟨s1.heap.objs.size, [s1.heap.objs.size], _, _, H1, rfl, I1.kept (t' := s1.toks) fun b o e => Heap.get?_push_of_some _ e, turn_tuple a _, ⟨_, Heap.get?_push_size _ rfl, rfl, rfl⟩, fun b hb => ?_, q⟩
  have e : b = s1.heap.objs.size := by simpa using hb
  subst e
  exact I1.fpOk (Nat.le_refl _) (I1.hok.fresh (Nat.le_refl _))
theorem range_it {pins : List (Addr × Obj)} {σ : St} {H : Hp} {s : Shared} {R : It → Hp → Prop} {E : Value → Shared → Prop} {lo hi : Int} {t u v : Tok} {tk : Nat} (I : Inv X pins σ H s) (h1 : -(2 ^ 62) ≤ lo) (h2 : lo < 2 ^ 62) (h3 : -(2 ^ 62) ≤ hi) (h4 : hi < 2 ^ 62)
    (q : R (Itr lo (hi - lo).toNat) H) : wpAny (model X.prog X.w) X.A (pyIter (.ref s.heap.objs.size)) (PIE X pins σ tg R) E { s with heap := s.heap.push { cls := .type "range", data := .fields #[.int lo t, .int hi u, .int 1 v] }, toks := tk } := by
  refine wpAny_pyIter_range (IsRange.new ..) (small_one h1 h2 h3 h4) ?_
  have I1 : Inv X pins σ H { s with heap := s.heap.push { cls := .type "range", data := .fields #[.int lo t, .int hi u, .int 1 v] }, toks := tk } := I.kept fun b o e => Heap.get?_push_of_some _ e
  refine ⟨(s.heap.push { cls := .type "range", data := .fields #[.int lo t, .int hi u, .int 1 v] }).objs.size, [(s.heap.push { cls := .type "range", data := .fields #[.int lo t, .int hi u, .int 1 v] }).objs.size], _, _, H, rfl,
    I1.kept (t' := tk) fun b o e => Heap.get?_push_of_some _ e, turn_range _ lo (hi - lo).toNat, ?_, fun b hb => ?_, q⟩
  · have e1 : lo + ((0 : Nat) : Int) * 1 = lo := by simp
    have e2 : (((hi - lo).toNat : Nat) : Int) - ((0 : Nat) : Int) = Builtin.Range.rangeSize lo hi 1 := by rw [rangeSize_one]; split <;> omega
    show IsRangeIter _ _ (lo + ((0 : Nat) : Int) * 1) ((((hi - lo).toNat : Nat) : Int) - ((0 : Nat) : Int)) 1
    rw [e1, e2]
    exact Heap.get?_push_size _ rfl
  · have e : b = (s.heap.push { cls := .type "range", data := .fields #[.int lo t, .int hi u, .int 1 v] }).objs.size := by simpa using hb
    subst e
    exact I1.fpOk (Nat.le_refl _) (I1.hok.fresh (Nat.le_refl _))
noncomputable def iRng1 (ta : TA) : TI := fun σ H R => ta σ H fun vs H1 => ∃ j : Int, vs = [.int j] ∧ -(2 ^ 62) ≤ j ∧ j < 2 ^ 62 ∧ R (Itr 0 j.toNat) H1
theorem pi_range1 {a : Expr} {ta : TA} {p pos : Pos} (hg : Gl X "range") (hm : X.mg "range" = none) (ha : PA X [a] ta) (hs : starEach [a] X.env = [(false, eval a X.env)] := by rfl) : PI X tg (.Call (.Name "range" p) [a] [] pos) (iRng1 ta) := by
  intro pins s σ H R I h
  refine Call_ (ld_blt I hg hm boot_range (PyProof.Rows.callWith_type1 (thn (ha pos pins s σ H _ I h) fun us s1 ⟨vs, H1, I1, r1, q1⟩ => ?_) hs rfl))
  obtain ⟨j, e, q1, q2, q⟩ := q1
  subst e
  cases r1 with
  | cons r rr =>
    cases rr
    obtain ⟨t, rfl⟩ := r
    exact call_range_1 (range_it I1 (by omega) (by omega) q1 q2 (by simpa using q))
noncomputable def tFor (wi : TI) (g : TG) (tb : TS) : TS := fun D σ H => wi σ H fun J H1 => ∃ W : Nat → Nat → St → Hp → Prop, (∃ m, W 0 m σ H1) ∧ ∀ i m σ H, W i m σ H →
  (J.stop i H ∧ D.nx σ H) ∨ (J.go i H ∧ ∃ N : St → Hp → Prop, (∀ σ' H', N σ' H' → ∃ m', m' < m ∧ W (i + 1) m' σ' H') ∧ ∀ x H', J.yld i H x H' → g x σ H' fun σ2 H2 => tb { D with nx := N, ct := N, bk := D.nx } σ2 H2)
noncomputable def pinsAt (fp : List Addr) (h : Heap) : List (Addr × Obj) := fp.filterMap fun b => (h.get? b).map fun o => (b, o)
theorem mem_pinsAt {fp : List Addr} {h : Heap} {b : Addr} {o : Obj} (hb : b ∈ fp) (e : h.get? b = some o) : (b, o) ∈ pinsAt fp h := List.mem_filterMap.mpr ⟨b, hb, by rw [e]; rfl⟩
theorem of_pinsAt {fp : List Addr} {h : Heap} {p : Addr × Obj} (hp : p ∈ pinsAt fp h) : p.1 ∈ fp ∧ h.get? p.1 = some p.2 := by
  obtain ⟨b, hb, e⟩ := List.mem_filterMap.mp hp
  cases q : h.get? b with
  | none => rw [q] at e; cases e
  | some o =>
    rw [q] at e
    have e' : (b, o) = p := Option.some.inj e
    subst e'
    exact ⟨hb, q⟩
theorem Inv.pinned {pins : List (Addr × Obj)} {σ : St} {H : Hp} {s : Shared} {fp : List Addr} (I : Inv X pins σ H s) (hf : ∀ b ∈ fp, FpOk X pins H b) (ho : ∀ b ∈ fp, ∃ o, s.heap.get? b = some o ∧ ∀ v, o.data ≠ .cell v) : Inv X (pins ++ pinsAt fp s.heap) σ H s :=
  I.pins_of fun p hp => (List.mem_append.mp hp).elim (fun z => I.pin p (List.mem_append_right _ z)) fun z => by
    obtain ⟨hb, e⟩ := of_pinsAt z
    obtain ⟨f0, f1, f2, _⟩ := hf p.1 hb
    obtain ⟨o, e', d⟩ := ho p.1 hb
    rw [e] at e'; cases e'
    exact ⟨e, f0, f1, f2, d⟩
theorem Inv.unpinned {pins pl : List (Addr × Obj)} {σ : St} {H : Hp} {s : Shared} (I : Inv X (pins ++ pl) σ H s) : Inv X pins σ H s := I.pins_of fun p hp => I.pin p (List.mem_append_right _ (List.mem_append_left _ hp))
theorem ps_for {iter : Expr} {body : List Stmt} {wi : TI} {g : TG} {tb : TS} {pos : Pos} (hp : PassesOwn (model X.prog X.w) X.A X.env X.xe) (hc : X.calm = true) (hi : PI X tg iter wi) (hg : PG X tg g) (hb : PSs X body tb)
    (hs : ∀ x, foldedSetIterable iter X.env x = pure x := by intro _; rfl) : PS X (.For tg iter body [] pos) (tFor wi g tb) := by
  intro pins s σ H D I h
  refine wpAny_For (thn (hi pins s σ H _ I h) fun v s1 h1 => thn h1 fun itv s2 h2 => ?_) hs
  obtain ⟨it, fp, tn, J, H2, e, I2, T, st2, f2, W, ⟨m0, w0⟩, turn⟩ := h2
  subst e
  -- what stays true of the iterator's objects through the loop
  have stat : ∀ {H' : Hp}, (∀ b ∈ fp, H' b = none) → ∀ b ∈ fp, FpOk X pins H' b := fun hn b hb => ⟨hn b hb, (f2 b hb).2⟩
  refine codeAny_forLoop_any (fun n s' => ∃ i σ' H', Inv X pins σ' H' s' ∧ tn i s'.heap ∧ (∀ b ∈ fp, H' b = none) ∧ W i n σ' H') ?_ m0 ⟨0, σ, H2, I2, st2, fun b hb => (f2 b hb).1, w0⟩
  rintro n s3 ⟨i, σ3, H3, I3, st3, fr3, w3⟩
  rcases turn i n σ3 H3 w3 with ⟨stop, qn⟩ | ⟨go, N, hN, step⟩
  · refine wpAny_passesOwn hp (thn (T.done X rfl rfl rfl hc i pins s3 σ3 H3 X.xe I3 (stat fr3) st3 stop) fun r s4 ⟨hr, I4⟩ => ?_)
    subst hr
    exact wpAny_execs_nil ⟨σ3, H3, I4, qn⟩
  · refine wpAny_passesOwn hp (thn (T.item X rfl rfl rfl hc i pins s3 σ3 H3 X.xe I3 (stat fr3) st3 go) fun r s4 ⟨u, hr, h4⟩ => ?_)
    subst hr
    refine wpAny_passesOwn hp (thn h4 fun _ s5 ⟨x, H5, I5, r5, y5, st5, fr5⟩ => ?_)
    have I5' := I5.pinned (stat fr5) (T.obj _ _ st5)
    refine wpAny_passesOwn hp (thn (hg _ s5 σ3 H5 x u _ I5' r5 (step x H5 y5)) fun _ s6 ⟨σ6, H6, I6, q6⟩ => ?_)
    refine wpAny_passesOwn hp (thn (hb _ s6 σ6 H6 _ I6 q6) fun f s7 q7 => ?_)
    have again : ∀ {σ7 : St} {H7 : Hp}, Inv X (pins ++ pinsAt fp s5.heap) σ7 H7 s7 → N σ7 H7 → ∃ m, m < n ∧ ∃ i σ' H', Inv X pins σ' H' s7 ∧ tn i s7.heap ∧ (∀ b ∈ fp, H' b = none) ∧ W i m σ' H' := fun {σ7 H7} I7 n7 => by
      obtain ⟨m', hm, w7⟩ := hN σ7 H7 n7
      refine ⟨m', hm, i + 1, σ7, H7, I7.unpinned, T.keep _ _ _ st5 fun b hb o e => (I7.pin (b, o) (List.mem_append_right _ (List.mem_append_right _ (mem_pinsAt hb e)))).1, fun b hb => ?_, w7⟩
      obtain ⟨o, e, d⟩ := T.obj _ _ st5 b hb
      exact (I7.pin (b, o) (List.mem_append_right _ (List.mem_append_right _ (mem_pinsAt hb e)))).2.1
    cases f with
    | next => obtain ⟨σ7, H7, I7, n7⟩ := q7; exact again I7 n7
    | cont => obtain ⟨σ7, H7, I7, n7⟩ := q7; exact again I7 n7
    | brk => obtain ⟨σ7, H7, I7, q7⟩ := q7; exact ⟨σ7, H7, I7.unpinned, q7⟩
    | ret v => obtain ⟨x7, σ7, H7, I7, r7, q7⟩ := q7; exact ⟨x7, σ7, H7, I7.unpinned, r7, q7⟩
end
end L2
namespace L2
open PySem PySem.Spec PyProof.Rows
abbrev R2 := V → V → Hp → VK → Prop
def OpR (X : Cx) (f : Value → Value → Sem Value) (r : R2) : Prop :=
  ∀ (pins : List (Addr × Obj)) (s : Shared) (σ : St) (H : Hp) (x y : V) (v u : Value) (Q : VK), Inv X pins σ H s → RelV x v → RelV y u → r x y H Q →
    wpAny (model X.prog X.w) X.A (f v u) (EP X pins σ Q) X.xe s
def UnR (X : Cx) (f : Value → Sem Value) (r : V → Hp → VK → Prop) : Prop :=
  ∀ (pins : List (Addr × Obj)) (s : Shared) (σ : St) (H : Hp) (x : V) (v : Value) (Q : VK), Inv X pins σ H s → RelV x v → r x H Q →
    wpAny (model X.prog X.w) X.A (f v) (EP X pins σ Q) X.xe s
def CallR (X : Cx) (f : Value) (r : List V → Hp → VK → Prop) : Prop :=
  ∀ (pins : List (Addr × Obj)) (s : Shared) (σ : St) (H : Hp) (xs : List V) (us : List Value) (Q : VK), Inv X pins σ H s → Vals xs us → r xs H Q →
    wpAny (model X.prog X.w) X.A (call f us) (EP X pins σ Q) X.xe s
def TruR (X : Cx) (r : V → Hp → (Bool → Hp → Prop) → Prop) : Prop :=
  ∀ (pins : List (Addr × Obj)) (s : Shared) (σ : St) (H : Hp) (x : V) (v : Value) (Q : Bool → Hp → Prop), Inv X pins σ H s → RelV x v → r x H Q →
    wpAny (model X.prog X.w) X.A (truthy v) (TP X pins σ Q) X.xe s
noncomputable def tUn (r : V → Hp → VK → Prop) (ta : TE) : TE := fun σ H Q => ta σ H fun x H1 => r x H1 Q
noncomputable def rI (C : Int → Int → Prop) (g : Int → Int → V) : R2 := fun x y H Q => ∃ i j, x = .int i ∧ y = .int j ∧ C i j ∧ Q (g i j) H
noncomputable def rI0 (g : Int → Int → V) : R2 := fun x y H Q => ∃ i j, x = .int i ∧ y = .int j ∧ Q (g i j) H
noncomputable def rU (g : Int → V) : V → Hp → VK → Prop := fun x H Q => ∃ i, x = .int i ∧ Q (g i) H
section
variable {X : Cx} {a b c : Expr} {ta tb tc : TE} {pos : Pos}
theorem binT (ha : PE X a ta) (hb : PE X b tb) {pins : List (Addr × Obj)} {s : Shared} {σ : St} {H : Hp} {R : V → V → Hp → Prop} (I : Inv X pins σ H s)
    (h : ta σ H fun x H1 => tb σ H1 fun y H2 => R x y H2) {Q : Value → Shared → Prop} {f : Value → Value → Sem Value}
    (hf : ∀ v u s2 x y H2, Inv X pins σ H2 s2 → RelV x v → RelV y u → R x y H2 → wpAny (model X.prog X.w) X.A (f v u) Q X.xe s2) :
    wpAny (model X.prog X.w) X.A (eval a X.env) (fun v s₁ => wpAny (model X.prog X.w) X.A (eval b X.env) (fun u s₂ => wpAny (model X.prog X.w) X.A (f v u) Q X.xe s₂) X.xe s₁) X.xe s := by
  refine thn (ha pins s σ H _ I h) fun v s1 ⟨x, H1, I1, r1, q1⟩ => ?_
  refine thn (hb pins s1 σ H1 _ I1 q1) fun u s2 ⟨y, H2, I2, r2, q2⟩ => ?_
  exact hf v u s2 x y H2 I2 r1 r2 q2
theorem pe_un {op : UnaryOp} {r : V → Hp → VK → Prop} (ho : UnR X (unaryOp op) r) (ha : PE X a ta) : PE X (.UnaryOp op a pos) (tUn r ta) := by
  intro pins s σ H Q I h
  exact UnaryOp_ (thn (ha pins s σ H _ I h) fun v s1 ⟨x, H1, I1, r1, q1⟩ => ho pins s1 σ H1 x v Q I1 r1 q1)
theorem opI {f : Value → Value → Sem Value} {C : Int → Int → Prop} {g : Int → Int → Int}
    (rule : ∀ (i j : Int) (t u : Tok) (s : Shared) (Q : Value → Shared → Prop) (E : Value → Shared → Prop), C i j → Q (.int (g i j) s.toks) { s with toks := s.toks + 1 } → wpAny (model X.prog X.w) X.A (f (.int i t) (.int j u)) Q E s) :
    OpR X f (rI C fun i j => .int (g i j)) := by
  intro pins s σ H x y v u Q I rx ry h
  obtain ⟨i, j, rfl, rfl, hc, q⟩ := h
  obtain ⟨t, rfl⟩ := rx
  obtain ⟨t', rfl⟩ := ry
  exact rule i j t t' s _ _ hc ⟨.int (g i j), H, I.tok _, ⟨_, rfl⟩, q⟩
theorem opI0 {f : Value → Value → Sem Value} {g : Int → Int → Int}
    (rule : ∀ (i j : Int) (t u : Tok) (s : Shared) (Q : Value → Shared → Prop) (E : Value → Shared → Prop), Q (.int (g i j) s.toks) { s with toks := s.toks + 1 } → wpAny (model X.prog X.w) X.A (f (.int i t) (.int j u)) Q E s) :
    OpR X f (rI0 fun i j => .int (g i j)) := by
  intro pins s σ H x y v u Q I rx ry h
  obtain ⟨i, j, rfl, rfl, q⟩ := h
  obtain ⟨t, rfl⟩ := rx
  obtain ⟨t', rfl⟩ := ry
  exact rule i j t t' s _ _ ⟨.int (g i j), H, I.tok _, ⟨_, rfl⟩, q⟩
def CDiv (i j : Int) : Prop := 0 < j ∧ j < 1073741824
def CPow (i j : Int) : Prop := 0 ≤ j ∧ j ≤ 1000000 ∧ i.natAbs < 2 ^ 64
theorem two_pow_nn (k : Nat) : (0 : Int) ≤ 2 ^ k := by
  rw [two_pow_cast]
  exact Int.natCast_nonneg _
theorem op_add : OpR X (binaryOp .Add) (rI0 fun i j => .int (i + j)) := opI0 fun _ _ _ _ _ _ _ q => add_int q
theorem op_sub : OpR X (binaryOp .Sub) (rI0 fun i j => .int (i - j)) := opI0 fun _ _ _ _ _ _ _ q => sub_int q
theorem op_mod : OpR X (binaryOp .Mod) (rI (fun _ j => 0 < j) fun i j => .int (i % j)) := opI fun i j _ _ _ _ _ hc q => by
  have h1 : (0 : Int) < j := hc
  exact mod_int' (by omega) (by rw [Int.fmod_eq_emod_of_nonneg i (by omega)]; exact q)
theorem op_shl : OpR X (binaryOp .LShift) (rI CPow fun i j => .int (i * 2 ^ j.toNat)) := opI fun _ _ _ _ _ _ _ hc q => lshift_int_small hc.1 hc.2.1 hc.2.2 q
theorem op_shr : OpR X (binaryOp .RShift) (rI (fun _ j => 0 ≤ j) fun i j => .int (i / 2 ^ j.toNat)) := opI fun i j _ _ _ _ _ hc q =>
  rshift_int hc (by rw [Int.fdiv_eq_ediv_of_nonneg i (two_pow_nn _)]; exact q)
theorem op_and : OpR X (binaryOp .BitAnd) (rI0 fun i j => .int (Builtin.bitAnd i j)) := opI0 fun _ _ _ _ _ _ _ q => and_int q
theorem unI {f : Value → Sem Value} {g : Int → Int}
    (rule : ∀ (i : Int) (t : Tok) (s : Shared) (Q : Value → Shared → Prop) (E : Value → Shared → Prop), Q (.int (g i) s.toks) { s with toks := s.toks + 1 } → wpAny (model X.prog X.w) X.A (f (.int i t)) Q E s) :
    UnR X f (rU fun i => .int (g i)) := by
  intro pins s σ H x v Q I rx h
  obtain ⟨i, rfl, q⟩ := h
  obtain ⟨t, rfl⟩ := rx
  exact rule i t s _ _ ⟨.int (g i), H, I.tok _, ⟨_, rfl⟩, q⟩
theorem un_neg : UnR X (unaryOp .USub) (rU fun i => .int (-i)) := unI fun _ _ _ _ _ q => neg_int q
end
noncomputable def scal : V → V → Bool
  | .non, .non => true | .non, .int _ => true | .int _, .non => true | .non, .bl _ => true | .bl _, .non => true | .non, .str _ => true | .str _, .non => true
  | .int _, .int _ => true | .bl _, .bl _ => true | .str _, .str _ => true | .byt _, .byt _ => true
  | .int _, .str _ => true | .str _, .int _ => true | .bl _, .str _ => true | .str _, .bl _ => true
  | _, _ => false
noncomputable def rEq : R2 := fun x y H Q => scal x y = true ∧ Q (.bl (decide (x = y))) H
noncomputable def rNe : R2 := fun x y H Q => scal x y = true ∧ Q (.bl (!decide (x = y))) H
theorem dec_int {i j : Int} : decide (V.int i = V.int j) = (i == j) := by
  rw [Bool.eq_iff_iff]
  simp
theorem dec_bl {i j : Bool} : decide (V.bl i = V.bl j) = (i == j) := by
  rw [Bool.eq_iff_iff]
  simp
theorem dec_str {i j : Str} : decide (V.str i = V.str j) = (i == j) := by
  rw [Bool.eq_iff_iff]
  simp
theorem dec_byt {i j : Array UInt8} : decide (V.byt i = V.byt j) = (i.toList == j.toList) := by
  rw [Bool.eq_iff_iff]
  cases i
  cases j
  simp
section
variable {X : Cx} {a b c : Expr} {ta tb tc : TE} {pos : Pos}
theorem fin_bl {pins : List (Addr × Obj)} {σ : St} {H : Hp} {s : Shared} {Q : VK} {k k' : Bool} (I : Inv X pins σ H s) (q : Q (.bl k) H) (e : k = k') : EP X pins σ Q (.bool k') s := by
  subst e
  exact ⟨.bl k, H, I, rfl, q⟩
theorem op_eq : OpR X (compareOp .Eq) rEq := by
  intro pins s σ H x y v u Q I rx ry h
  obtain ⟨hs, q⟩ := h
  cases x with
  | non =>
    cases rx
    cases y with
    | non => cases ry; exact PySem.EqNone.eq_none_none (fin_bl I q (by simp))
    | bl j => cases ry; exact PySem.EqNone.eq_none_bool (fin_bl I q (by simp))
    | int j => obtain ⟨t', rfl⟩ := ry; exact PySem.EqNone.eq_none_int (fin_bl I q (by simp))
    | str j => obtain ⟨t', rfl⟩ := ry; exact PySem.EqNone.eq_none_str (fin_bl I q (by simp))
    | _ => exact absurd (show false = true from hs) Bool.false_ne_true
  | bl i =>
    cases rx
    cases y with
    | non => cases ry; exact PySem.EqNone.eq_bool_none (fin_bl I q (by simp))
    | bl j => cases ry; exact eq_bool (fin_bl I q dec_bl)
    | str j => obtain ⟨t', rfl⟩ := ry; exact PySem.EqMixed.eq_bool_str (fin_bl I q (by simp))
    | _ => exact absurd (show false = true from hs) Bool.false_ne_true
  | int i =>
    obtain ⟨t, rfl⟩ := rx
    cases y with
    | non => cases ry; exact PySem.EqNone.eq_int_none (fin_bl I q (by simp))
    | int j => obtain ⟨t', rfl⟩ := ry; exact eq_int (fin_bl I q dec_int)
    | str j => obtain ⟨t', rfl⟩ := ry; exact PySem.EqMixed.eq_int_str (fin_bl I q (by simp))
    | _ => exact absurd (show false = true from hs) Bool.false_ne_true
  | str i =>
    obtain ⟨t, rfl⟩ := rx
    cases y with
    | non => cases ry; exact PySem.EqNone.eq_str_none (fin_bl I q (by simp))
    | bl j => cases ry; exact PySem.EqMixed.eq_str_bool (fin_bl I q (by simp))
    | int j => obtain ⟨t', rfl⟩ := ry; exact PySem.EqMixed.eq_str_int (fin_bl I q (by simp))
    | str j => obtain ⟨t', rfl⟩ := ry; exact eq_str (fin_bl I q dec_str)
    | _ => exact absurd (show false = true from hs) Bool.false_ne_true
  | byt i =>
    obtain ⟨t, rfl⟩ := rx
    cases y with
    | byt j => obtain ⟨t', rfl⟩ := ry; exact PySem.W.eq_bytes (fin_bl I q dec_byt)
    | _ => exact absurd (show false = true from hs) Bool.false_ne_true
  | _ => cases y <;> exact absurd (show false = true from hs) Bool.false_ne_true
theorem op_ne : OpR X (compareOp .NotEq) rNe := by
  intro pins s σ H x y v u Q I rx ry h
  obtain ⟨hs, q⟩ := h
  cases x with
  | non =>
    cases rx
    cases y with
    | non => cases ry; exact PySem.EqNone.ne_none_none (fin_bl I q (by simp))
    | bl j => cases ry; exact PySem.EqNone.ne_none_bool (fin_bl I q (by simp))
    | int j => obtain ⟨t', rfl⟩ := ry; exact PySem.EqNone.ne_none_int (fin_bl I q (by simp))
    | str j => obtain ⟨t', rfl⟩ := ry; exact PySem.EqNone.ne_none_str (fin_bl I q (by simp))
    | _ => exact absurd (show false = true from hs) Bool.false_ne_true
  | bl i =>
    cases rx
    cases y with
    | non => cases ry; exact PySem.EqNone.ne_bool_none (fin_bl I q (by simp))
    | bl j => cases ry; exact ne_bool (fin_bl I q (congrArg not dec_bl))
    | str j => obtain ⟨t', rfl⟩ := ry; exact PySem.EqMixed.ne_bool_str (fin_bl I q (by simp))
    | _ => exact absurd (show false = true from hs) Bool.false_ne_true
  | int i =>
    obtain ⟨t, rfl⟩ := rx
    cases y with
    | non => cases ry; exact PySem.EqNone.ne_int_none (fin_bl I q (by simp))
    | int j => obtain ⟨t', rfl⟩ := ry; exact ne_int (fin_bl I q (congrArg not dec_int))
    | str j => obtain ⟨t', rfl⟩ := ry; exact PySem.EqMixed.ne_int_str (fin_bl I q (by simp))
    | _ => exact absurd (show false = true from hs) Bool.false_ne_true
  | str i =>
    obtain ⟨t, rfl⟩ := rx
    cases y with
    | non => cases ry; exact PySem.EqNone.ne_str_none (fin_bl I q (by simp))
    | bl j => cases ry; exact PySem.EqMixed.ne_str_bool (fin_bl I q (by simp))
    | int j => obtain ⟨t', rfl⟩ := ry; exact PySem.EqMixed.ne_str_int (fin_bl I q (by simp))
    | str j => obtain ⟨t', rfl⟩ := ry; exact ne_str (fin_bl I q (congrArg not dec_str))
    | _ => exact absurd (show false = true from hs) Bool.false_ne_true
  | byt i =>
    obtain ⟨t, rfl⟩ := rx
    cases y with
    | byt j => obtain ⟨t', rfl⟩ := ry; exact PySem.W.ne_bytes (fin_bl I q (congrArg not dec_byt))
    | _ => exact absurd (show false = true from hs) Bool.false_ne_true
  | _ => cases y <;> exact absurd (show false = true from hs) Bool.false_ne_true
def TruV (K : Frag) (x : V) (H : Hp) (k : Bool) : Prop :=
  match x with
  | .non => k = false
  | .bl b => k = b
  | .int i => k = (i != 0)
  | .str y => y.length ≤ sizeLine ∧ k = ((y.length : Int) != 0)
  | .byt y => y.size ≤ sizeLine ∧ k = ((y.size : Int) != 0)
  | .ref p => (∃ xs, SqL K H p xs ∧ k = !xs.isEmpty) ∨ (∃ xs, SqT K H p xs ∧ k = !xs.isEmpty) ∨ ∃ kvs, H p = some (.dK kvs) ∧ k = !kvs.isEmpty
  | _ => False
theorem isEmpty_kv {κ : Type} {kvs : List (κ × V)} {vs : List (κ × Value)} (r : KV kvs vs) : (!vs.isEmpty) = !kvs.isEmpty := by
  cases r <;> rfl
theorem isEmpty_of {xs : List V} {its : List Value} (r : Vals xs its) : (!its.toArray.isEmpty) = !xs.isEmpty := by
  cases r <;> simp
theorem line63 : (sizeLine : Nat) < 2 ^ 63 := by rw [sizeLine_eq]; decide
theorem tru_ok : TruR X (fun x H Q => ∃ k, TruV X.K x H k ∧ Q k H) := by
  intro pins s σ H x v Q I rx h
  obtain ⟨k, e, q⟩ := h
  have hl := line63
  have hs : sizeLine = 16777216 := sizeLine_eq
  cases x with
  | non =>
    cases rx
    have e' : k = false := e
    subst e'
    exact truthy_none ⟨H, I, q⟩
  | bl b =>
    cases rx
    have e' : k = b := e
    subst e'
    exact wpAny_truthy_bool ⟨H, I, q⟩
  | int i =>
    obtain ⟨t, rfl⟩ := rx
    have e' : k = (i != 0) := e
    subst e'
    exact PySem.P.truthy_int ⟨H, I, q⟩
  | str y =>
    obtain ⟨t, rfl⟩ := rx
    obtain ⟨hy, e'⟩ : y.length ≤ sizeLine ∧ k = ((y.length : Int) != 0) := e
    subst e'
    exact PySem.P.truthy_str (by omega) ⟨H, I.tok _, q⟩
  | byt y =>
    obtain ⟨t, rfl⟩ := rx
    obtain ⟨hy, e'⟩ : y.size ≤ sizeLine ∧ k = ((y.size : Int) != 0) := e
    subst e'
    exact PySem.W.truthy_bytes (by omega) ⟨H, I.tok _, q⟩
  | ref p =>
    cases rx
    have e' : (∃ xs, SqL X.K H p xs ∧ k = !xs.isEmpty) ∨ (∃ xs, SqT X.K H p xs ∧ k = !xs.isEmpty) ∨ ∃ kvs, H p = some (.dK kvs) ∧ k = !kvs.isEmpty := e
    rcases e' with ⟨xs, hx, e'⟩ | ⟨xs, hx, e'⟩ | ⟨kvs, hx, e'⟩
    · subst e'
      obtain ⟨its, r, pl, hz⟩ := I.list hx
      have hlen := r.length
      exact wpAny_truthy_list pl.isList (by simp only [List.size_toArray]; omega) ⟨H, I.tok _, by rw [isEmpty_of r]; exact q⟩
    · subst e'
      obtain ⟨its, r, pl, hz⟩ := I.tuple hx
      have hlen := r.length
      exact truthy_tuple pl (by simp only [List.size_toArray]; omega) ⟨H, I.tok _, by rw [isEmpty_of r]; exact q⟩
    · subst e'
      obtain ⟨hz, hS, vs, r, m⟩ : kvs.length ≤ sizeLine ∧ (p == sysModules) = false ∧ ∃ vs, KV kvs vs ∧ s.heap.DictOf (mixKind X.prog X.w) p vs := I.hok p _ hx
      have hlen : kvs.length = vs.length := Paired.length r
      exact wpAny_truthy_dict hS m (by omega) ⟨H, I.tok _, by rw [isEmpty_kv r]; exact q⟩
  | _ => exact (show False from e).elim
theorem op_add_str : OpR X (binaryOp .Add) (fun x y H Q => ∃ i j, x = .str i ∧ y = .str j ∧ i.length + j.length ≤ sizeLine ∧ Q (.str (i ++ j)) H) := by
  intro pins s σ H x y v u Q I rx ry h
  obtain ⟨i, j, rfl, rfl, hz, q⟩ := h
  obtain ⟨t, rfl⟩ := rx
  obtain ⟨t', rfl⟩ := ry
  exact add_str (fun t' tk => ⟨.str (i ++ j), H, I.tok _, ⟨_, rfl⟩, q⟩) hz
theorem vals1 {x : V} {us : List Value} (r : Vals [x] us) : ∃ u, us = [u] ∧ RelV x u := by
  cases r with
  | cons r1 r2 => cases r2; exact ⟨_, rfl, r1⟩
theorem vals2 {x y : V} {us : List Value} (r : Vals [x, y] us) : ∃ u w', us = [u, w'] ∧ RelV x u ∧ RelV y w' := by
  cases r with
  | cons r1 r2 =>
    cases r2 with
    | cons r3 r4 => cases r4; exact ⟨_, _, rfl, r1, r3⟩
theorem call_abs : CallR X (.builtin "abs") (fun xs H Q => ∃ i, xs = [.int i] ∧ Q (.int (if i < 0 then -i else i)) H) := by
  intro pins s σ H xs us Q I r h
  obtain ⟨i, rfl, q⟩ := h
  obtain ⟨u, rfl, t, rfl⟩ := vals1 r
  exact call_abs_int fun u tk => ⟨.int (if i < 0 then -i else i), H, I.tok _, ⟨_, rfl⟩, q⟩
theorem call_max2 (hc : X.calm = true) : CallR X (.builtin "max") (fun xs H Q => ∃ i j, xs = [.int i, .int j] ∧ Q (.int (if j > i then j else i)) H) := by
  intro pins s σ H xs us Q I r h
  obtain ⟨i, j, rfl, q⟩ := h
  obtain ⟨u, w', rfl, ⟨t, rfl⟩, ⟨t', rfl⟩⟩ := vals2 r
  refine max_two_ints (I.ok.hd hc) fun h' tk k => ⟨_, H, I.kept k, ?_, q⟩
  by_cases hj : j > i
  · rw [if_pos hj, if_pos hj]; exact ⟨_, rfl⟩
  · rw [if_neg hj, if_neg hj]; exact ⟨_, rfl⟩
theorem call_min2 (hc : X.calm = true) : CallR X (.builtin "min") (fun xs H Q => ∃ i j, xs = [.int i, .int j] ∧ Q (.int (if j < i then j else i)) H) := by
  intro pins s σ H xs us Q I r h
  obtain ⟨i, j, rfl, q⟩ := h
  obtain ⟨u, w', rfl, ⟨t, rfl⟩, ⟨t', rfl⟩⟩ := vals2 r
  refine min_two_ints (I.ok.hd hc) fun h' tk k => ⟨_, H, I.kept k, ?_, q⟩
  by_cases hj : j < i
  · rw [if_pos hj, if_pos hj]; exact ⟨_, rfl⟩
  · rw [if_neg hj, if_neg hj]; exact ⟨_, rfl⟩
theorem call_int1 : CallR X (.type "int") (fun xs H Q => (∃ i, xs = [.int i] ∧ Q (.int i) H) ∨ ∃ k, xs = [.bl k] ∧ Q (.int (if k then 1 else 0)) H) := by
  intro pins s σ H xs us Q I r h
  rcases h with ⟨i, rfl, q⟩ | ⟨k, rfl, q⟩
  · obtain ⟨u, rfl, t, rfl⟩ := vals1 r
    exact call_int_int ⟨.int i, H, I, ⟨_, rfl⟩, q⟩
  · obtain ⟨u, rfl, r1⟩ := vals1 r
    cases r1
    exact call_int_bool ⟨.int (if k then 1 else 0), H, I.tok _, ⟨_, rfl⟩, q⟩
theorem call_bool1 : CallR X (.type "bool") (fun xs H Q => (∃ i, xs = [.int i] ∧ Q (.bl (i != 0)) H) ∨ ∃ k, xs = [.bl k] ∧ Q (.bl k) H) := by
  intro pins s σ H xs us Q I r h
  rcases h with ⟨i, rfl, q⟩ | ⟨k, rfl, q⟩
  · obtain ⟨u, rfl, t, rfl⟩ := vals1 r
    exact call_bool_int ⟨.bl (i != 0), H, I, rfl, q⟩
  · obtain ⟨u, rfl, r1⟩ := vals1 r
    cases r1
    exact call_bool_bool ⟨.bl k, H, I, rfl, q⟩
theorem call_str_int : CallR X (.type "str") (fun xs H Q => ∃ i, xs = [.int i] ∧ i.natAbs.log2 < 1920 ∧ Q (.str (toString i)) H) := by
  intro pins s σ H xs us Q I r h
  obtain ⟨i, rfl, hz, q⟩ := h
  obtain ⟨u, rfl, t, rfl⟩ := vals1 r
  exact PySem.P.str_of_int hz ⟨.str _, H, I.tok _, ⟨_, rfl⟩, q⟩
theorem call_divmod : CallR X (.builtin "divmod") (fun xs H Q => ∃ i j, xs = [.int i, .int j] ∧ CDiv i j ∧ ∀ p, H p = none → Q (.ref p) (upd H p (.tup [.int (i / j), .int (i % j)]))) := by
  intro pins s σ H xs us Q I r h
  obtain ⟨i, j, rfl, ⟨h1, h2⟩, q⟩ := h
  obtain ⟨u, w', rfl, ⟨t, rfl⟩, ⟨t', rfl⟩⟩ := vals2 r
  refine divmod_int (by omega) ?_ (.inl (PyProof.noPylong_small (by omega)))
  rw [Int.fdiv_eq_ediv_of_nonneg i (by omega), Int.fmod_eq_emod_of_nonneg i (by omega)]
  have hn : H s.heap.objs.size = none := I.hok.fresh (Nat.le_refl _)
  refine ⟨.ref s.heap.objs.size, _, ?_, rfl, q _ hn⟩
  refine I.laid (fun b o e => Heap.get?_push_of_some _ e) (Nat.le_refl _) ⟨by simp only [List.length_cons, List.length_nil]; rw [sizeLine_eq]; decide, [.int (i / j) s.toks, .int (i % j) (s.toks + 1)], .cons ⟨_, rfl⟩ (.cons ⟨_, rfl⟩ .nil), ?_⟩
  exact ⟨_, Heap.get?_push_size s.heap rfl, rfl, 0, rfl⟩
end
end L2
namespace L2
open PySem PySem.Spec PyProof.Rows
structure ObjM (h : Heap) (x dx C : Addr) (mA : Str → Option Value) : Prop where
  obj : h.get? x = some (PySem.W.instObj C dx)
  ns : h.Ns1 dx mA
  ne : dx ≠ x
theorem lookIn_ns {h : Heap} {dx : Addr} {mA : Str → Option Value} (n : h.Ns1 dx mA) : ∃ od, h.get? dx = some od ∧ ∀ name, PySem.W.lookIn name od = some (mA name) := by
  obtain ⟨o, es, ep, ho, hd, hk, _, hm⟩ := n
  refine ⟨o, ho, fun name => ?_⟩
  have e := hm name
  unfold nsFind findBy at e
  rw [← Array.find?_toList] at e
  unfold PySem.W.lookIn
  rw [hd]
  dsimp only
  split
  · rename_i y q
    rw [q] at e
    exact congrArg some e
  · rename_i q
    rw [q] at e
    have a : es.toList.any (·.refKey) = false := by
      rw [List.any_eq_false]
      intro y hy
      obtain ⟨z, t, hkey⟩ := hk y (Array.mem_toList_iff.mp hy)
      simp [DictEntry.refKey, hkey]
    have a' : ¬ es.toList.any (·.refKey) = true := by rw [a]; exact Bool.false_ne_true
    rw [if_neg a']
    exact congrArg some e
theorem ObjM.look {h : Heap} {x dx C : Addr} {mA : Str → Option Value} (I : ObjM h x dx C mA) : ∃ od, PySem.W.InstAt h x (PySem.W.instObj C dx) C (some od) ∧ ∀ name, PySem.W.lookIn name od = some (mA name) :=
  let ⟨od, ho, hl⟩ := lookIn_ns I.ns
  ⟨od, ⟨I.obj, rfl, rfl, ho⟩, hl⟩
section
variable {prog : Program} {w : World} {A : Around} {E : Value → Shared → Prop} {s : Shared} {K : Frag} {x dx C f : Addr} {mA : Str → Option Value} {name : Str} {v : Value}
end
section
variable {P : Program} {w : World} {H H' : Hp} {h h' : Heap} {a C dx : Addr} {fs fs' : List (Str × V)}
theorem ins_get (hok : HOk P w H h) (e : H a = some (.ins C dx fs)) : ∃ mA, ObjM h a dx C mA ∧ (∀ f, RelO (fs.lookup f) (mA f)) ∧ PySem.Within mA (fs.map (·.1)) ∧ fs.length ≤ 1000 ∧ H dx = some (.own a) := by
  obtain ⟨d, z, ne, ob, mA, n, r, q⟩ := (show ObjOk P w H h a (.ins C dx fs) from hok a _ e)
  exact ⟨mA, ⟨ob, n, ne⟩, r, q, z, d⟩
end
structure Cls (K : Frag) (C : Addr) : Prop where
  pg : PySem.W.plainGet K C Str.empty = true
  hd : PySem.W.hasDictIn K C = true
  po : PySem.W.plainOver K C = true
  sa : PySem.W.findIn K (.ref C) "__setattr__" = some (some (.builtin "object.__setattr__"))
theorem Cls.get {K : Frag} {C : Addr} (c : Cls K C) (f : Str) : PySem.W.plainGet K C f = true := c.pg
section
variable {X : Cx} {pins : List (Addr × Obj)} {σ : St} {H : Hp} {s : Shared} {a C dx : Addr} {fs : List (Str × V)} {f : Str} {v : V} {A : Around} {E : Value → Shared → Prop}
end
section
variable {X : Cx} {o e value : Expr} {f : Str} {pos pos' tpos : Pos} {ta tv : TE}
end
section
variable {X : Cx} {pins : List (Addr × Obj)} {σ : St} {H : Hp} {s : Shared} {A : Around} {E : Value → Shared → Prop} {Q : Value → Shared → Prop} {c : Value} {b : Bool}
inductive TyOf (K : Frag) (H : Hp) : V → Value → Prop where
  | non : TyOf K H .non (.type "NoneType")
  | bl (x : Bool) : TyOf K H (.bl x) (.type "bool")
  | int (i : Int) : TyOf K H (.int i) (.type "int")
  | str (x : Str) : TyOf K H (.str x) (.type "str")
  | flt (x : UInt64) : TyOf K H (.flt x) (.type "float")
  | lst {a : Addr} {xs : List V} (e : H a = some (.lst xs)) : TyOf K H (.ref a) (.type "list")
  | frz {a : Addr} {o : Obj} {xs : List V} (e : H a = some (.frz o (.lst xs))) : TyOf K H (.ref a) (.type "list")
  | tup {a : Addr} {xs : List V} (e : H a = some (.tup xs)) : TyOf K H (.ref a) (.type "tuple")
  | dK {a : Addr} {kvs : List (Key × V)} (e : H a = some (.dK kvs)) : TyOf K H (.ref a) (.type "dict")
  | dT {a : Addr} {kvs : List (List Key × V)} (e : H a = some (.dT kvs)) : TyOf K H (.ref a) (.type "dict")
  | ins {a C dx : Addr} {fs : List (Str × V)} (e : H a = some (.ins C dx fs)) (cl : Cls K C) (ha : PySem.W.findIn K (.ref C) "__class__" = some (some (.builtin "object.__class__")))
      (hn : PySem.W.specialIn K (.builtin "object.__class__") "__get__" = some (some (.builtin "getset_descriptor.__get__"))) (htk : PySem.W.takesIn K (.builtin "object.__class__") = some true)
      (hm : PySem.W.mroIn K C (.type "object") = some true) : TyOf K H (.ref a) (.ref C)
theorem isinst_ok {x : V} {u t : Value} (I : Inv X pins σ H s) (rx : RelV x u) (ty : TyOf X.K H x t) (e : PySem.W.kitOne X.K t c = some b) (h : ∀ tk, Q (.bool b) { s with toks := tk }) :
    wpAny (model X.prog X.w) A (call (.builtin "isinstance") [u, c]) Q E s := by
  cases ty with
  | non => cases (show u = Value.none from rx); exact PySem.W.kia_one PySem.W.kitx_none I.kIn True.intro e (fun z => nomatch z) h
  | bl y => cases (show u = Value.bool y from rx); exact PySem.W.kia_one PySem.W.kitx_bool I.kIn True.intro e (fun z => nomatch z) h
  | int i => obtain ⟨t, q⟩ := (show ∃ t, u = Value.int i t from rx); cases q; exact PySem.W.kia_one PySem.W.kitx_int I.kIn True.intro e (fun z => nomatch z) h
  | str y => obtain ⟨t, q⟩ := (show ∃ t, u = Value.str y t from rx); cases q; exact PySem.W.kia_one PySem.W.kitx_str I.kIn True.intro e (fun z => nomatch z) h
  | flt y => obtain ⟨t, q⟩ := (show ∃ t, u = Value.float y t from rx); cases q; exact PySem.W.kia_one PySem.W.kitx_float I.kIn True.intro e (fun z => nomatch z) h
  | @lst a xs ea =>
    cases (show u = Value.ref a from rx)
    obtain ⟨_, _, n, _, h1⟩ := (show ObjOk X.prog X.w H s.heap a (.lst xs) from I.hok a _ ea)
    exact PySem.W.kia_one PySem.W.kitx_list I.kIn ⟨_, h1, rfl⟩ e (fun z => nomatch z) h
  | @frz a ob xs ea =>
    cases (show u = Value.ref a from rx)
    obtain ⟨_, _, _, n, _, h1⟩ := (show ObjOk X.prog X.w H s.heap a (.frz ob (.lst xs)) from I.hok a _ ea)
    exact PySem.W.kia_one PySem.W.kitx_list I.kIn ⟨_, h1, rfl⟩ e (fun z => nomatch z) h
  | @tup a xs ea =>
    cases (show u = Value.ref a from rx)
    obtain ⟨_, _, _, p⟩ := (show ObjOk X.prog X.w H s.heap a (.tup xs) from I.hok a _ ea)
    obtain ⟨o, h1, h2, _⟩ := p
    exact PySem.W.kia_one PySem.W.kitx_tuple I.kIn ⟨o, h1, h2⟩ e (fun z => nomatch z) h
  | @dK a kvs ea =>
    cases (show u = Value.ref a from rx)
    obtain ⟨_, _, vs, _, p⟩ := (show ObjOk X.prog X.w H s.heap a (.dK kvs) from I.hok a _ ea)
    obtain ⟨o, es, ep, h1, h2, _⟩ := p
    exact PySem.W.kia_one PySem.W.kitx_dict I.kIn ⟨o, h1, h2.1⟩ e (fun z => nomatch z) h
  | @dT a kvs ea =>
    cases (show u = Value.ref a from rx)
    obtain ⟨_, _, xs, _, o, es, ep, h1, h2, _⟩ := (show ObjOk X.prog X.w H s.heap a (.dT kvs) from I.hok a _ ea)
    exact PySem.W.kia_one PySem.W.kitx_dict I.kIn ⟨o, h1, h2.1⟩ e (fun z => nomatch z) h
  | @ins a C dx fs ea cl ha hn htk hm =>
    cases (show u = Value.ref a from rx)
    obtain ⟨mA, O, _⟩ := ins_get I.hok ea
    obtain ⟨od, J, _⟩ := O.look
    exact PySem.W.kia_one (PySem.W.kitx_own (cl.get _) cl.hd ha hn htk hm) I.kIn J e (fun z => nomatch z) h
end
end L2
namespace L2
open PySem PySem.Spec PyProof.Rows
structure Room (k : Nat) (A : Around) : Prop where
  hd : A.handled = none
  dp : A.depth + 3 * k + 5 < recursionLimit
  un : A.units + 16 * k + 200 < cLine
theorem Room.deeper {k : Nat} {A : Around} (r : Room (k + 1) A) (env : Env) : Room k (A.deeper env) :=
  ⟨r.hd, by have := r.dp; show A.depth + 1 + 3 * k + 5 < _; omega, by have := r.un; show A.units + 3 + 16 * k + 200 < _; omega⟩
theorem Room.depth {k : Nat} {A : Around} (r : Room k A) : A.depth < recursionLimit := by have := r.dp; omega
noncomputable def tNil : TA := fun _ H Q => Q [] H
noncomputable def tCons (ta : TE) (tr : TA) : TA := fun σ H Q => ta σ H fun x H1 => tr σ H1 fun xs H2 => Q (x :: xs) H2
section
variable {X : Cx} {e : Expr} {es : List Expr} {te : TE} {t : TA} {pos : Pos}
theorem pa_nil : PA X [] tNil := fun _ _ _ _ H Q I h => Calls.spliced_nil ⟨[], H, I, .nil, h⟩
theorem pa_cons (ha : PE X e te) (hr : PA X es t) (hs : starEach (e :: es) X.env = (false, eval e X.env) :: starEach es X.env := by rfl) : PA X (e :: es) (tCons te t) := by
  intro pos pins s σ H Q I h
  rw [hs]
  show wpAny _ _ (spliced ((false, eval e X.env) :: backTo pos (starEach es X.env))) _ _ s
  refine Calls.spliced_cons (thn (ha pins s σ H _ I h) fun u s1 ⟨x, H1, I1, r1, q1⟩ => ?_)
  exact thn (hr pos pins s1 σ H1 _ I1 q1) fun us s2 ⟨xs, H2, I2, r2, q2⟩ => ⟨x :: xs, H2, I2, .cons r1 r2, q2⟩
noncomputable def tTup (t : TA) : TE := fun σ H Q => t σ H fun xs H1 => xs.length ≤ sizeLine ∧ ∀ p, H1 p = none → Q (.ref p) (upd H1 p (.tup xs))
noncomputable def tLst (t : TA) : TE := fun σ H Q => t σ H fun xs H1 => xs.length ≤ sizeLine ∧ ∀ p, H1 p = none → Q (.ref p) (upd H1 p (.lst xs))
theorem pe_tup {x1} (h : PA X es t) : PE X (.Tuple es x1 pos) (tTup t) := by
  intro pins s σ H Q I hq
  refine wpAny_Tuple_spliced (thn (h pos pins s σ H _ I hq) fun us s1 ⟨xs, H1, I1, r, z, q⟩ => ⟨by rw [← r.length]; exact z, ?_⟩)
  have hf : H1 s1.heap.objs.size = none := I1.hok.fresh (Nat.le_refl _)
  refine ⟨.ref s1.heap.objs.size, upd H1 s1.heap.objs.size (.tup xs), I1.laid (t' := s1.toks) (fun b u e => Heap.get?_push_of_some _ e) (Nat.le_refl _) ?_, rfl, q _ hf⟩
  exact ⟨z, us, r, ⟨_, Heap.get?_push_size _ rfl, rfl, _, rfl⟩⟩
theorem pe_lst (h : PA X es t) : PE X (.List es pos) (tLst t) := by
  intro pins s σ H Q I hq
  refine wpAny_List_spliced (thn (h pos pins s σ H _ I hq) fun us s1 ⟨xs, H1, I1, r, z, q⟩ => ⟨by rw [← r.length]; exact z, ?_⟩)
  have hf : H1 s1.heap.objs.size = none := I1.hok.fresh (Nat.le_refl _)
  refine ⟨.ref s1.heap.objs.size, upd H1 s1.heap.objs.size (.lst xs), I1.laid (t' := s1.toks) (fun b u e => Heap.get?_push_of_some _ e) (Nat.le_refl _) ?_, rfl, q _ hf⟩
  exact ⟨z, us, 0, r, Heap.get?_push_size _ rfl⟩
end
abbrev Sp := List V → Hp → VK → XK → Prop
abbrev CXT := List Env → Hp → Shared → XK → Value → Shared → Prop
structure Env0 (P : Program) (w : World) (K : Frag) (mg : Str → Option Value) (base : Heap) (A : Around) (outer : List Env) (s : Shared) (H : Hp) : Prop where
  frames : A.frames = some outer
  mod : Mod K mg base
  bs : ∀ b o, base.get? b = some o → s.heap.get? b = some o ∧ H b = none
  bsz : base.objs.size ≤ s.heap.objs.size
  funs : s.heap.FunFrames base outer
  frf : ∀ b ∈ frs outer, H b = none
  hok : HOk P w H s.heap
  bare : AllBare s.gens
def CE (outer : List Env) (P : Program) (w : World) (H : Hp) (s : Shared) (Q : VK) (u : Value) (s' : Shared) : Prop :=
  ∃ v H', s'.os = s.os ∧ AllBare s'.gens ∧ Un (frs outer) [] H H' s.heap s'.heap ∧ HOk P w H' s'.heap ∧ RelV v u ∧ Q v H'
def CR (CX : CXT) (outer : List Env) (P : Program) (w : World) (H : Hp) (s : Shared) (Q : VK) (E : XK) (r : Result) (s' : Shared) : Prop :=
  match r with
  | .ok (.ret u) => CE outer P w H s Q u s'
  | .ok _ => False
  | .error e => CX outer H s E e s'
structure FnOk (P : Program) (w : World) (K : Frag) (mg : Str → Option Value) (base : Heap) (CX : CXT) (k : Nat) (f : Addr) (fd : FuncData) (ps : List Str) (sp : Sp) : Prop where
  len : ∀ vs H Q E, sp vs H Q E → vs.length = ps.length
  run : ∀ (A : Around) (outer : List Env) (s : Shared) (H : Hp) (args : Args) (us : List Value) (vs : List V) (Q : VK) (E : XK), Room k A → Env0 P w K mg base A outer s H → BindsTo s fd args (ps.zip us) → Vals vs us → sp vs H Q E →
    codeAny (model P w) A (.call (.ref f) args) (CR CX outer P w H s Q E) s
section
variable {X : Cx} {pins : List (Addr × Obj)} {σ : St} {H : Hp} {s s' : Shared}
theorem Inv.env0 (I : Inv X pins σ H s) : Env0 X.prog X.w X.K X.mg X.base X.A X.stack s H :=
  ⟨I.ok.frames, I.ok.mod, I.bs, Nat.le_trans I.ok.bsz I.sz, I.stack, I.stkFree, I.hok, I.bare⟩
theorem Inv.after {Q : VK} {u : Value} (I : Inv X pins σ H s) (h : CE X.stack X.prog X.w H s Q u s') : EP X pins σ Q u s' := by
  obtain ⟨v, H', os, bare, un, hok, r, q⟩ := h
  obtain ⟨hh, g, d, t, os'⟩ := s'
  obtain rfl : os' = s.os := os
  exact ⟨v, H', I.call (h' := hh) (g' := g) (d' := d) (t' := t) (ch := []) un hok bare (fun b z => absurd z (by simp)), r, q⟩
end
noncomputable def tCall (sp : Sp) (dvs : List V) (E : XK) (t : TA) : TE := fun σ H Q => t σ H fun vs H1 => sp (vs ++ dvs) H1 Q E
def Binds (K : Frag) (fd : FuncData) (ps : List Str) (ds : List Value) : Prop :=
  ∀ (s : Shared) (us : List Value), K.In s.heap → (us ++ ds).length = ps.length → BindsTo s fd ⟨us, []⟩ (ps.zip (us ++ ds))
theorem Binds.all {K : Frag} {fd : FuncData} {ps : List Str} (h : ∀ us : List Value, us.length = ps.length → bindArgs fd ⟨us, []⟩ = pure (ps.zip us)) : Binds K fd ps [] := fun s us _ hl => by
  rw [List.append_nil] at hl ⊢
  exact .of_eq (h us hl)
def Passes (CX : CXT) (X : Cx) (E : XK) : Prop := ∀ (pins : List (Addr × Obj)) (σ : St) (H : Hp) (s : Shared) (e : Value) (s' : Shared), Inv X pins σ H s → CX X.stack H s E e s' → X.xe e s'
section
variable {X : Cx} {CX : CXT} {k : Nat} {f C : Addr} {fd : FuncData} {ps : List Str} {sp : Sp} {dvs : List V} {ds : List Value} {E : XK} {x m : Str} {p pos apos : Pos} {e o : Expr} {es : List Expr} {ta : TE} {t : TA}
theorem run_fn {pins : List (Addr × Obj)} {σ : St} {H : Hp} {s : Shared} {Q : VK} {us : List Value} {vs : List V} (F : FnOk X.prog X.w X.K X.mg X.base CX k f fd ps sp) (hr : Room k X.A) (hb : Binds X.K fd ps ds) (hd : Vals dvs ds) (hx : Passes CX X E)
    (I : Inv X pins σ H s) (r : Vals vs us) (h : sp (vs ++ dvs) H Q E) : wpAny (model X.prog X.w) X.A (call (.ref f) us) (EP X pins σ Q) X.xe s := by
  have r2 : Vals (vs ++ dvs) (us ++ ds) := r.append hd
  have hl : (us ++ ds).length = ps.length := by rw [← r2.length]; exact F.len _ _ _ _ h
  refine wpAny_call (codeAny_mono (F.run X.A X.stack s H ⟨us, []⟩ (us ++ ds) (vs ++ dvs) Q E hr I.env0 (hb s us I.kIn hl) r2 h) fun r s' hq => ?_)
  cases r with
  | error e => exact hx pins σ H s e s' I hq
  | ok fl =>
    cases fl with
    | ret u => exact I.after hq
    | next => exact False.elim hq
    | brk => exact False.elim hq
    | cont => exact False.elim hq
theorem pe_call (F : FnOk X.prog X.w X.K X.mg X.base CX k f fd ps sp) (hr : Room k X.A) (hg : Gl X x) (hm : X.mg x = some (.ref f)) (hk : PySem.W.keepIn X.K (.ref f) = true) (hb : Binds X.K fd ps ds) (hd : Vals dvs ds) (hx : Passes CX X E)
    (ha : PA X (e :: es) t) (hdb : (x == ("__debug__" : Str)) = false := by decide) (he : starEach (e :: es) X.env = (false, eval e X.env) :: starEach es X.env := by rfl) (hpl : (backTo pos (starEach es X.env)).any (·.1) = false := by rfl) :
    PE X (.Call (.Name x p) (e :: es) [] pos) (tCall sp dvs E t) := by
  intro pins s σ H Q I h
  refine wpAny_Call_Name_kw (ld_glob I hg hm ?_ hdb)
  refine PySem.W.callWith_K (h₀ := X.base) I.ok.mod.kin hk (thn (ha pos pins s σ H _ I h) fun us s1 ⟨vs, H1, I1, r, q⟩ => ⟨I1.kIn, ?_⟩) he hpl
  exact run_fn F hr hb hd hx I1 r q
theorem pe_call0 (F : FnOk X.prog X.w X.K X.mg X.base CX k f fd ps sp) (hr : Room k X.A) (hg : Gl X x) (hm : X.mg x = some (.ref f)) (hk : PySem.W.keepIn X.K (.ref f) = true) (hb : Binds X.K fd ps ds) (hd : Vals dvs ds) (hx : Passes CX X E)
    (hdb : (x == ("__debug__" : Str)) = false := by decide) : PE X (.Call (.Name x p) [] [] pos) (tCall sp dvs E tNil) := by
  intro pins s σ H Q I h
  refine wpAny_Call_Name_kw (ld_glob I hg hm ?_ hdb)
  exact PySem.W.callWith_K0 I.kIn hk (run_fn (us := []) F hr hb hd hx I .nil h)
end
section
variable {X : Cx} {CX : CXT} {k : Nat} {f C : Addr} {fd : FuncData} {ps ks : List Str} {sp : Sp} {E : XK} {x m : Str} {p pos apos kpos : Pos} {e o : Expr} {es : List Expr} {kws : List Keyword} {te ta : TE} {t tk : TA} {nm : Option Str}
variable {g : List Value → List Value → List Value} {gV : List V → List V → List V}
end
structure FnScope (N P : List Str) (sc : Scope) : Prop where
  kind : sc.kind = .function
  co : sc.isCoroutine = false
  gen : sc.isGenerator = false
  nd : N.Nodup
  pre : N.take P.length = P
  par : ∀ x ∈ P, sc.names.lookup x = some .local ∨ sc.names.lookup x = some .cell
  nofree : ∀ y ∈ sc.names, y.2 ≠ .free
theorem bindL_out {kindOf : Str → Option NameKind} {x : Str} : ∀ {binds : List (Str × Value)} {m : Str → Option Value}, (∀ v, (x, v) ∉ binds) → bindL kindOf binds m x = m x
  | [], _, _ => rfl
  | (n, v) :: r, m, h => by
    unfold bindL
    rw [bindL_out fun w hw => h w (List.mem_cons_of_mem _ hw)]
    split
    · have : x ≠ n := by rintro rfl; exact h v List.mem_cons_self
      simp [this]
    · rfl
theorem bindC_out {kindOf : Str → Option NameKind} {x : Str} : ∀ {binds : List (Str × Value)} {m : Str → Option Value}, (∀ v, (x, v) ∉ binds) → bindC kindOf binds m x = m x
  | [], _, _ => rfl
  | (n, v) :: r, m, h => by
    unfold bindC
    rw [bindC_out fun w hw => h w (List.mem_cons_of_mem _ hw)]
    split
    · rfl
    · have : x ≠ n := by rintro rfl; exact h v List.mem_cons_self
      simp [this]
theorem bindL_get {kindOf : Str → Option NameKind} {x : Str} {v : Value} : ∀ {P : List Str} {vs : List Value} {i : Nat} {m : Str → Option Value}, P.Nodup → P[i]? = some x → vs[i]? = some v → kindOf x = some .local →
    bindL kindOf (P.zip vs) m x = some v
  | [], _, _, _, _, h, _, _ => by simp at h
  | _ :: _, [], _, _, _, _, h, _ => by simp at h
  | p :: P, w :: vs, 0, m, nd, h1, h2, hk => by
    simp at h1 h2; subst h1; subst h2
    show bindL kindOf ((p, w) :: P.zip vs) m p = _
    unfold bindL
    rw [bindL_out fun v hv => (List.nodup_cons.mp nd).1 (List.of_mem_zip hv).1, if_pos hk]
    simp
  | p :: P, w :: vs, i + 1, m, nd, h1, h2, hk => by
    show bindL kindOf ((p, w) :: P.zip vs) m x = _
    unfold bindL
    exact bindL_get (i := i) (List.nodup_cons.mp nd).2 (by simpa using h1) (by simpa using h2) hk
theorem bindC_get {kindOf : Str → Option NameKind} {x : Str} {v : Value} : ∀ {P : List Str} {vs : List Value} {i : Nat} {m : Str → Option Value}, P.Nodup → P[i]? = some x → vs[i]? = some v → kindOf x ≠ some .local →
    bindC kindOf (P.zip vs) m x = some v
  | [], _, _, _, _, h, _, _ => by simp at h
  | _ :: _, [], _, _, _, _, h, _ => by simp at h
  | p :: P, w :: vs, 0, m, nd, h1, h2, hk => by
    simp at h1 h2; subst h1; subst h2
    show bindC kindOf ((p, w) :: P.zip vs) m p = _
    unfold bindC
    rw [bindC_out fun v hv => (List.nodup_cons.mp nd).1 (List.of_mem_zip hv).1, if_neg hk]
    simp
  | p :: P, w :: vs, i + 1, m, nd, h1, h2, hk => by
    show bindC kindOf ((p, w) :: P.zip vs) m x = _
    unfold bindC
    exact bindC_get (i := i) (List.nodup_cons.mp nd).2 (by simpa using h1) (by simpa using h2) hk
noncomputable def start (N : List Str) (vs : List V) : St := vs.map some ++ List.replicate (N.length - vs.length) none
noncomputable def cxOf (CX : CXT) (P : Program) (w : World) (K : Frag) (mg : Str → Option Value) (base : Heap) (N : List Str) (qual : Str) (scope : Scope) (f : Addr) (cd : Value) (A : Around) (outer : List Env) (s : Shared) (H : Hp) (E : XK) : Cx where
  prog := P
  w := w
  K := K
  mg := mg
  base := base
  A := A.deeper (envOfC qual scope s.heap.objs.size f cd)
  N := N
  s₀ := s
  H₀ := H
  env := envOfC qual scope s.heap.objs.size f cd
  outer := outer
  stack := envOfC qual scope s.heap.objs.size f cd :: outer
  ex := []
  calm := true
  fn := fun _ => true
  pn := []
  xe := fun e s' => wpAny (model P w) (A.deeper (envOfC qual scope s.heap.objs.size f cd)) (leaving (envOfC qual scope s.heap.objs.size f cd) e) (fun _ s'' => CX outer H s E e s'') (fun e' s'' => CX outer H s E e' s'') s'
theorem cell_has {sc : Scope} {n : Nat} {x : Str} (h : sc.names.lookup x = some .cell) : ∃ c, (cellsFrom n sc.names []).lookup x = some c := by
  have q := PySem.W.cellsFrom_some sc.names n [] (.inl h)
  exact Option.isSome_iff_exists.mp q
theorem inv_start {CX : CXT} {P : Program} {w : World} {K : Frag} {mg : Str → Option Value} {base : Heap} {N ps : List Str} {qual : Str} {scope : Scope} {f : Addr} {cd : Value} {A : Around} {outer : List Env} {s s1 : Shared} {H : Hp} {E : XK} {us : List Value} {vs : List V}
    (S : FnScope N ps scope) (hd : A.handled = none) (e0 : Env0 P w K mg base A outer s H) (hl : vs.length = ps.length) (r : Vals vs us)
    (x : InCallC s s.heap.objs.size (bindL (envOfC qual scope s.heap.objs.size f cd).kindOf (ps.zip us) fun _ => none) (cellsFrom (s.heap.objs.size + 1) scope.names []) (bindC (envOfC qual scope s.heap.objs.size f cd).kindOf (ps.zip us) fun _ => none) s1) :
    Inv (cxOf CX P w K mg base N qual scope f cd A outer s H E) [] (start N vs) H s1 := by
  have hpl : ps.length ≤ N.length := by have := congrArg List.length S.pre; rw [List.length_take] at this; omega
  obtain ⟨h1, tk, rfl, hk⟩ := x.done
  have noA : ∀ b : Addr, b ∉ (cxOf CX P w K mg base N qual scope f cd A outer s H E).ex := fun b z => absurd (show b ∈ ([] : List Addr) from z) (by simp)
  refine ⟨⟨e0.mod, S.kind, rfl, rfl, Nat.le_refl _, fun y z c h1 h2 => ?_, fun y hy => ?_, fun y c _ h => ?_, fun _ => hd, Around.frames_deeper e0.frames, .inr ⟨rfl, rfl⟩, fun b z => absurd z (noA b), e0.bs, e0.bsz, fun b _ _ => noA b, fun b z => absurd z (noA b), e0.funs, e0.frf⟩,
    rfl, e0.bare, Un.kept hk, ⟨_, x.toInCall.ns, fun i y v h1 h2 h3 => ?_⟩, fun y c h => ⟨_, x.cell y c h⟩, e0.hok.fresh (Nat.le_refl _), fun y c h => ?_, fun p hp => absurd (show p ∈ ([] : List (Addr × Obj)) from hp) (by simp), e0.hok.kept hk, ?_⟩
  · exact name_of_addr x.apart (PySem.mem_of_lookup h1) (PySem.mem_of_lookup h2)
  · have hy : scope.names.lookup y = some .cell ∨ scope.names.lookup y = some .free := hy
    rcases hy with hy | hy
    · exact cell_has hy
    · exact absurd rfl (S.nofree _ (PySem.mem_of_lookup hy))
  · exact Nat.le_of_lt (x.above y c (PySem.mem_of_lookup h))
  · have hi : i < vs.length := by
      unfold start at h2
      by_cases hi : i < vs.length
      · exact hi
      · rw [List.getElem?_append_right (by simpa using hi)] at h2
        rw [List.getElem?_replicate] at h2
        split at h2 <;> cases h2
    have ha : vs[i]? = some v := by
      unfold start at h2
      rw [List.getElem?_append_left (by simpa using hi), List.getElem?_map] at h2
      cases e : vs[i]? with
      | none => rw [e] at h2; cases h2
      | some a => rw [e] at h2; cases h2; rfl
    obtain ⟨u, hu, rv⟩ := r.get ha
    have hp : ps[i]? = some y := by
      rw [← S.pre, List.getElem?_take_of_lt (by omega)]; exact h1
    have ndP : ps.Nodup := by rw [← S.pre]; exact S.nd.sublist (List.take_sublist _ _)
    refine ⟨u, rv, ?_⟩
    rcases S.par y (List.mem_of_getElem? hp) with k | k
    · exact .inl ⟨k, bindL_get ndP hp hu k⟩
    · obtain ⟨c, e⟩ := cell_has (n := s.heap.objs.size + 1) k
      refine .inr ⟨.inl k, c, e, ?_⟩
      have q := x.cell y c e
      rw [bindC_get ndP hp hu (by show scope.names.lookup y ≠ _; rw [k]; decide)] at q
      exact q
  · exact e0.hok.fresh (Nat.le_of_lt (x.above y c (PySem.mem_of_lookup h)))
  · unfold start
    show _ = N.length
    rw [List.length_append, List.length_map, List.length_replicate]
    omega
theorem fn_of {CX : CXT} {P : Program} {w : World} {K : Frag} {mg : Str → Option Value} {base : Heap} {k : Nat} {f : Addr} {name qual : Str} {params : Arguments} {body : List Stmt} {scope : Scope} {dV kV doc pm cdv ct oc : Value} {an od : Option Addr}
    {osl : Array (Option Value)} {N ps : List Str} {sp : Sp} (lk : K.lookup f = some ⟨oc, od, .func (PySem.W.fnOf name qual params body scope dV kV doc pm an cdv ct), osl⟩) (hcd : PySem.W.codeIn K cdv qual = true) (S : FnScope N ps scope)
    (len : ∀ vs H Q E, sp vs H Q E → vs.length = ps.length)
    (hbody : ∀ (A : Around) (outer : List Env) (s : Shared) (H : Hp) (vs : List V) (Q : VK) (E : XK), Room k (A.deeper (envOfC qual scope s.heap.objs.size f cdv)) → sp vs H Q E →
      ∃ t, PSs (cxOf CX P w K mg base N qual scope f cdv A outer s H E) body t ∧ t { nx := fun _ H' => Q .non H', rt := Q } (start N vs) H) :
    FnOk P w K mg base CX (k + 1) f (PySem.W.fnOf name qual params body scope dV kV doc pm an cdv ct) ps sp := by
  refine ⟨len, fun A outer s H args us vs Q E hr e0 hb r hsp => ?_⟩
  have hl := len _ _ _ _ hsp
  have KX : K.In s.heap := e0.mod.kin.keeps fun b o e => (e0.bs b o e).1
  have lim : s.heap.NoLimit := e0.mod.nolimit.keeps fun b o e => (e0.bs b o e).1
  have hkind : ∀ y ∈ ps.zip us, scope.names.lookup y.1 = some .local ∨ (scope.names.lookup y.1 = some .cell ∧ ((cellsFrom (s.heap.objs.size + 1) scope.names []).lookup y.1).isSome = true) := fun ⟨n, v⟩ hy => by
    rcases S.par n (List.of_mem_zip hy).1 with q | q
    · exact .inl q
    · exact .inr ⟨q, PySem.W.cellsFrom_some _ _ _ (.inl q)⟩
  refine codeAny_call_function hr.depth (KX _ _ lk) rfl S.co S.gen rfl (PySem.W.codeRec_of KX hcd) (hb _ _ _ _ ?_)
  refine wpAny_newFunctionEnv_cells S.kind hkind fun env he s1 x => ?_
  subst he
  refine ⟨lim.keeps x.toInCall.keep, codeAny_func ?_⟩
  obtain ⟨t, ht, hq⟩ := hbody A outer s H vs Q E (hr.deeper _) hsp
  have I : Inv (cxOf CX P w K mg base N qual scope f cdv A outer s H E) [] (start N vs) H s1 := inv_start S hr.hd e0 hl r x
  refine wpAny_mono (ht [] s1 (start N vs) H _ I hq) (fun fl s' hs => ?_) fun e s' hs => hs
  have fin : ∀ {σ' : St} {H' : Hp} {v : V} {u : Value}, Inv (cxOf CX P w K mg base N qual scope f cdv A outer s H E) [] σ' H' s' → RelV v u → Q v H' → CE outer P w H s Q u s' :=
    fun {σ' H' v u} J rv q => ⟨v, H', J.os, J.bare, J.base, J.hok, rv, q⟩
  cases fl with
  | ret u =>
    obtain ⟨v, σ', H', J, rv, q⟩ := hs
    exact fin J rv q
  | next =>
    obtain ⟨σ', H', J, q⟩ := hs
    exact fin (v := V.non) (u := Value.none) J rfl q
  | brk =>
    obtain ⟨_, _, _, q⟩ := hs
    exact False.elim q
  | cont =>
    obtain ⟨_, _, _, q⟩ := hs
    exact False.elim q
end L2
namespace L2
open PySem PySem.Spec PyProof.Rows
section
variable {X : Cx} {x : Str} {p pos : Pos} {e : Expr} {es : List Expr} {t : TA} {id T : String} {r : List V → Hp → VK → Prop}
noncomputable def tCB (r : List V → Hp → VK → Prop) (t : TA) : TE := fun σ H Q => t σ H fun vs H1 => r vs H1 Q
theorem pe_callB (hc : CallR X (.builtin id) r) (hg : Gl X x) (hm : X.mg x = none) (hv : bootBuiltins x = some (.builtin id)) (ha : PA X (e :: es) t) (hn : x ≠ "__name__" := by decide) (hdb : (x == ("__debug__" : Str)) = false := by decide)
    (he : starEach (e :: es) X.env = (false, eval e X.env) :: starEach es X.env := by rfl) (hpl : (backTo pos (starEach es X.env)).any (·.1) = false := by rfl) : PE X (.Call (.Name x p) (e :: es) [] pos) (tCB r t) := by
  intro pins s σ H Q I h
  refine wpAny_Call_Name_kw (ld_blt I hg hm hv ?_ hn hdb)
  exact PyProof.Rows.callWith_builtin1 (thn (ha pos pins s σ H _ I h) fun us s1 ⟨vs, H1, I1, r1, q1⟩ => hc pins s1 σ H1 vs us Q I1 r1 q1) he hpl
theorem pe_callTy (hc : CallR X (.type T) r) (hg : Gl X x) (hm : X.mg x = none) (hv : bootBuiltins x = some (.type T)) (ha : PA X (e :: es) t) (hn : x ≠ "__name__" := by decide) (hdb : (x == ("__debug__" : Str)) = false := by decide)
    (he : starEach (e :: es) X.env = (false, eval e X.env) :: starEach es X.env := by rfl) (hpl : (backTo pos (starEach es X.env)).any (·.1) = false := by rfl) : PE X (.Call (.Name x p) (e :: es) [] pos) (tCB r t) := by
  intro pins s σ H Q I h
  refine wpAny_Call_Name_kw (ld_blt I hg hm hv ?_ hn hdb)
  exact PyProof.Rows.callWith_type1 (thn (ha pos pins s σ H _ I h) fun us s1 ⟨vs, H1, I1, r1, q1⟩ => hc pins s1 σ H1 vs us Q I1 r1 q1) he hpl
end
end L2
namespace HT
open PySem PyProof.Rows
section
open PySem.SeqAt
open PySem.AutoSeq1 (wpAny_loadPart')
open PySem.MeetsSeq PySem.MeetsSeq2 PySem.MeetsSeq3
end
section
variable {prog : Program} {w : World} {A : Around} {E : Value → Shared → Prop} {s : Shared}
theorem cat_tup {t b : Addr} {vs ws : List Value} {Q : Value → Shared → Prop} (ht : IsTup s.heap t vs.toArray) (hb : IsTup s.heap b ws.toArray) (hv : vs ≠ [])
    (h1 : ws = [] → Q (.ref t) s) (h2 : ws ≠ [] → Q (.ref s.heap.objs.size) { s with heap := s.heap.push { cls := .type "tuple", data := .seq (vs ++ ws).toArray } })
    (hsz : vs.length + ws.length ≤ sizeLine) : wpAny (model prog w) A (binaryOp .Add (.ref t) (.ref b)) Q E s := by
  obtain ⟨⟨cls, dd, data, sl⟩, ho, hc, n, hd⟩ := id ht
  obtain ⟨⟨cls2, dd2, data2, sl2⟩, ho2, hc2, n2, hd2⟩ := id hb
  simp only at hc hd hc2 hd2
  subst hc hd hc2 hd2
  have e : vs.toArray ++ ws.toArray = (vs ++ ws).toArray := by simp
  by_cases hw : ws = []
  · exact concat_meets ⟨_, ho, rfl⟩ ⟨_, ho2, rfl⟩ noFill_tuple_add seq_tuple_add PySem.F.slot_tuple_add PySem.F.entry_tuple_add (PySem.F.args_tuple_add_2 _ _)
      (tuple_addW1 t b vs.toArray ws.toArray n n2 dd dd2 sl sl2 (by simpa using hv) (by simp [hw])) ⟨ho, ho2, h1 hw⟩
  · refine concat_meets ⟨_, ho, rfl⟩ ⟨_, ho2, rfl⟩ noFill_tuple_add seq_tuple_add PySem.F.slot_tuple_add PySem.F.entry_tuple_add (PySem.F.args_tuple_add_2 _ _)
      (tuple_addW2 t b vs.toArray ws.toArray n n2 dd dd2 sl sl2 (by simpa using hv) (by simpa using hw) (by rw [List.size_toArray, List.size_toArray]; exact hsz)) ⟨ho, ho2, ?_⟩
    rw [e]
    exact h2 hw
noncomputable def sIx (n d : Nat) : Option Int → Nat
  | none => d
  | some v => if v < 0 then (v + (n : Int)).toNat else min v.toNat n
theorem sIx_le (n d : Nat) (hd : d ≤ n) (o : Option Int) : sIx n d o ≤ n := by
  cases o with
  | none => exact hd
  | some v =>
    show (if v < 0 then (v + (n : Int)).toNat else min v.toNat n) ≤ n
    by_cases hv : v < 0
    · rw [if_pos hv]; omega
    · rw [if_neg hv]; exact Nat.min_le_right _ _
theorem clip_eq (v : Int) (n d : Nat) : (if v < 0 then max (v + (n : Int)) 0 else min v (n : Int)) = ((sIx n d (some v) : Nat) : Int) := by
  show (if v < 0 then max (v + (n : Int)) 0 else min v (n : Int)) = (((if v < 0 then (v + (n : Int)).toNat else min v.toNat n) : Nat) : Int)
  by_cases hv : v < 0
  · simp only [if_pos hv]; omega
  · simp only [if_neg hv]; omega
theorem adjust_gen (lo hi : Option Int) (n : Nat) : Builtin.Slice.sliceAdjust lo hi 1 (n : Int) = (((sIx n 0 lo : Nat) : Int), ((sIx n n hi : Nat) : Int)) := by
  have h1 : ¬ ((1 : Int) < 0) := by omega
  unfold Builtin.Slice.sliceAdjust
  simp only [h1, if_false]
  refine Prod.ext ?_ ?_
  · cases lo with
    | none => rfl
    | some v => exact clip_eq v n 0
  · cases hi with
    | none => rfl
    | some v => exact clip_eq v n n
theorem places_gen (i j : Nat) : Builtin.Slice.slicePlaces (i : Int) (j : Int) 1 = j - i := by
  unfold Builtin.Slice.slicePlaces
  have h1 : (1 : Int) > 0 := by omega
  simp only [h1, if_true, Int.ediv_one]
  split <;> omega
theorem slicePart_ {v : Value} {o : Option Int} {Q : Option Int → Shared → Prop} (p : IsPart v o) (h : Q o s) : wpAny (model prog w) A (Builtin.Slice.slicePartIndex v) Q E s := by
  cases p with
  | none => exact slicePart_none h
  | int i t => exact slicePart_int h
theorem sliceApplied_gen {sl : Addr} {vl vu : Value} {lo hi : Option Int} {n : Nat} {Q : Int × Int × Nat → Shared → Prop} (hs : s.heap.IsSliceOf sl vl vu .none) (pl : IsPart vl lo) (pu : IsPart vu hi)
    (h : Q (((sIx n 0 lo : Nat) : Int), 1, sIx n n hi - sIx n 0 lo) s) : wpAny (model prog w) A (Builtin.Slice.sliceApplied (.ref sl) (pure (n : Int))) Q E s := by
  obtain ⟨os, hos, hcs, hds⟩ := id hs
  unfold Builtin.Slice.sliceApplied Builtin.Slice.sliceFields
  refine wpAny_bind (wpAny_bind (wpAny_field hos hds (x := vl) rfl (wpAny_bind (wpAny_field hos hds (x := vu) rfl (wpAny_bind (wpAny_field hos hds (x := .none) rfl (wpAny_pure ?_)))))))
  refine wpAny_bind (slicePart_none ?_)
  show wpAny _ _ (if ((1 : Int) == 0) = true then _ else _) _ _ s
  rw [if_neg (by decide)]
  refine wpAny_bind (slicePart_ pl (wpAny_bind (slicePart_ pu (wpAny_bind (wpAny_pure ?_)))))
  show wpAny _ _ (match Builtin.Slice.sliceAdjust lo hi 1 (n : Int) with | (lo, hi) => pure (lo, (1 : Int), Builtin.Slice.slicePlaces lo hi 1)) _ _ s
  rw [adjust_gen lo hi n]
  show wpAny _ _ (pure (((sIx n 0 lo : Nat) : Int), (1 : Int), Builtin.Slice.slicePlaces ((sIx n 0 lo : Nat) : Int) ((sIx n n hi : Nat) : Int) 1)) _ _ s
  rw [places_gen]
  exact wpAny_pure h
theorem pick_gen (xs : Array Value) (i k : Nat) : ((List.range k).filterMap fun (m : Nat) => xs[((i : Int) + (m : Int) * 1).toNat]?).toArray = ((xs.toList.drop i).take k).toArray := by
  have e : (fun (m : Nat) => xs[((i : Int) + (m : Int) * 1).toNat]?) = fun m => xs[i + m]? := by
    funext m
    have : ((i : Int) + (m : Int) * 1).toNat = i + m := by omega
    rw [this]
  rw [e]
  have := pick_run xs i k
  rw [List.filterMap_map] at this
  have e2 : ((fun x => xs[x]?) ∘ fun x => i + x) = fun m => xs[i + m]? := rfl
  rw [e2] at this
  rw [this]
theorem getItem_tuple_cut {t sl : Addr} {items : Array Value} {vl vu : Value} {lo hi : Option Int} {Q : Value → Shared → Prop} (ht : IsTup s.heap t items) (hs : s.heap.IsSliceOf sl vl vu .none) (pl : IsPart vl lo) (pu : IsPart vu hi)
    (hw : ¬ (sIx items.size 0 lo = 0 ∧ sIx items.size items.size hi = items.size))
    (h : Q (.ref s.heap.objs.size) { s with heap := s.heap.push { cls := .type "tuple", data := .seq ((items.toList.drop (sIx items.size 0 lo)).take (sIx items.size items.size hi - sIx items.size 0 lo)).toArray } })
    (hsz : items.size ≤ sizeLine) : wpAny (model prog w) A (getItem (.ref t) (.ref sl)) Q E s := by
  have htake : sizeOk (.seq ((items.toList.drop (sIx items.size 0 lo)).take (sIx items.size items.size hi - sIx items.size 0 lo)).toArray) := by
    show ((items.toList.drop (sIx items.size 0 lo)).take (sIx items.size items.size hi - sIx items.size 0 lo)).toArray.size ≤ sizeLine
    rw [List.size_toArray, List.length_take, List.length_drop, Array.length_toList]
    omega
  have hj : sIx items.size items.size hi ≤ items.size := sIx_le _ _ (Nat.le_refl _) hi
  obtain ⟨os, hos, hcs, hds⟩ := id hs
  have hTs : s.TypeIs (.ref sl) "slice" := ⟨os, hos, hcs⟩
  unfold getItem
  try with_reducible refine wpAny_holding ?_
  first | refine wpAny_bind (wpAny_pure ?_) | skip
  refine wpAny_bind (wpAny_sequenceKey ht.typeIs (by decide) ?_)
  refine wpAny_bind (wpAny_callSpecial?_slot (name := Str.ofString "__getitem__") ht.typeIs PyProof.Rows.slot_tuple_getitem
    (wpAny_call_entry PyProof.Rows.slot_tuple_getitem ht.typeIs entry_tuple_getitem ?_ (args_tuple_getitem _ _)))
  show wpAny _ _ (Builtin.Tuple.tupleItemsOf (.ref t) >>= _) _ _ s
  refine wpAny_bind (tupleItemsOf_ ht ?_)
  refine wpAny_bind (wpAny_typeOf hTs ?_)
  rw [if_pos (by decide)]
  refine wpAny_bind (sliceApplied_gen hs pl pu ?_)
  have hno : ¬ ((((sIx items.size 0 lo : Nat) : Int) == 0 && (1 : Int) == 1 && (sIx items.size items.size hi - sIx items.size 0 lo) == items.size) = true) := by
    intro q
    rw [Bool.and_eq_true, Bool.and_eq_true] at q
    have q1 : ((sIx items.size 0 lo : Nat) : Int) = 0 := eq_of_beq q.1.1
    have q2 : sIx items.size items.size hi - sIx items.size 0 lo = items.size := eq_of_beq q.2
    exact hw ⟨by omega, by omega⟩
  show wpAny _ _ (if (((sIx items.size 0 lo : Nat) : Int) == 0 && (1 : Int) == 1 && (sIx items.size items.size hi - sIx items.size 0 lo) == items.size) = true then _ else _) _ _ s
  rw [if_neg hno, pick_gen]
  first
    | exact wpAny_bind (m := Builtin.Tuple.tupleExact _) (wpAny_newObj_type (wpAny_pure ⟨_, rfl, wpAny_pure h⟩) htake)
    | exact wpAny_bind (m := Builtin.Tuple.tupleExact _) (wpAny_newObj_type (wpAny_bind (wpAny_pure (wpAny_pure ⟨_, rfl, wpAny_pure h⟩))) htake)
    | exact wpAny_bind (wpAny_bind (m := Builtin.Tuple.tupleExact _) (wpAny_newObj_type (wpAny_pure (wpAny_pure ⟨_, rfl, wpAny_pure h⟩)) htake))
    | exact wpAny_bind (wpAny_bind (m := Builtin.Tuple.tupleExact _) (wpAny_newObj_type (wpAny_pure ⟨_, rfl, wpAny_pure h⟩) htake))
end
end HT
namespace L2
open PySem PySem.Spec PyProof.Rows
abbrev TO := St → Hp → (Option Int → Hp → Prop) → Prop
def PO (X : Cx) (e : Option Expr) (t : TO) : Prop :=
  ∀ (pins : List (Addr × Obj)) (s : Shared) (σ : St) (H : Hp) (Q : Option Int → Hp → Prop), Inv X pins σ H s → t σ H Q →
    wpAny (model X.prog X.w) X.A (evalPart e X.env) (fun u s' => ∃ o H', Inv X pins σ H' s' ∧ IsPart u o ∧ Q o H') X.xe s
noncomputable def tNoPart : TO := fun _ H Q => Q none H
noncomputable def tPart (t : TE) : TO := fun σ H Q => t σ H fun x H1 => ∃ i, x = .int i ∧ Q (some i) H1
theorem intsAre_of {ns : List Int} : ∀ {us : List Value}, Vals (ns.map V.int) us → IntsAre us ns := by
  induction ns with
  | nil => intro us r; rw [List.map_nil] at r; cases r; exact .nil
  | cons n ns ih =>
    intro us r
    rw [List.map_cons] at r
    cases r with
    | cons r1 r2 =>
      obtain ⟨t, e⟩ := r1
      subst e
      exact .cons n t (ih r2)
section
variable {X : Cx} {e : Expr} {te : TE} {lo hi : Option Expr} {tl th : TO} {pos p2 : Pos}
theorem po_none : PO X none tNoPart := by
  intro pins s σ H Q I h
  rw [evalPart_none]
  exact wpAny_pure ⟨none, H, I, .none, h⟩
theorem po_some (h : PE X e te) : PO X (some e) (tPart te) := by
  intro pins s σ H Q I hw
  rw [evalPart_some]
  refine thn (h pins s σ H _ I hw) fun u s1 ⟨x, H1, I1, r1, q1⟩ => ?_
  obtain ⟨i, rfl, q⟩ := q1
  obtain ⟨t, rfl⟩ := r1
  exact ⟨some i, H1, I1, .int i t, q⟩
def SlR (X : Cx) (r : V → Option Int → Option Int → Hp → VK → Prop) : Prop :=
  ∀ (pins : List (Addr × Obj)) (s : Shared) (σ : St) (H : Hp) (x : V) (v vl vu : Value) (lo hi : Option Int) (sl : Addr) (Q : VK), Inv X pins σ H s → RelV x v → s.heap.IsSliceOf sl vl vu .none → IsPart vl lo → IsPart vu hi → r x lo hi H Q →
    ∃ T id, typeLookup (.type T) "__getitem__" = pure (some (.builtin id)) ∧ s.TypeIs v T ∧ wpAny (model X.prog X.w) X.A (getItem v (.ref sl)) (EP X pins σ Q) X.xe s
noncomputable def tSl (r : V → Option Int → Option Int → Hp → VK → Prop) (te : TE) (tl th : TO) : TE := fun σ H Q => te σ H fun x H1 => tl σ H1 fun l H2 => th σ H2 fun u H3 => r x l u H3 Q
theorem pe_slice {r : V → Option Int → Option Int → Hp → VK → Prop} (hr : SlR X r) (he : PE X e te) (hl : PO X lo tl) (hu : PO X hi th) : PE X (.Subscript e (.Slice lo hi none p2) pos) (tSl r te tl th) := by
  intro pins s σ H Q I h
  refine Subscript_ (thn (he pins s σ H _ I h) fun v s1 ⟨x, H1, I1, r1, q1⟩ => ?_)
  refine wpAny_Slice (thn (hl pins s1 σ H1 _ I1 q1) fun vl s2 ⟨l, H2, I2, pl, q2⟩ => thn (hu pins s2 σ H2 _ I2 q2) fun vu s3 ⟨u, H3, I3, pu, q3⟩ => ?_)
  rw [evalPart_none]
  refine wpAny_pure ?_
  have I4 : Inv X pins σ H3 { s3 with heap := s3.heap.push { cls := .type "slice", data := .fields #[vl, vu, .none] } } := I3.kept (t' := s3.toks) fun b ob q => Heap.get?_push_of_some _ q
  obtain ⟨T, id, hT, ht, hg⟩ := hr pins { s3 with heap := s3.heap.push { cls := .type "slice", data := .fields #[vl, vu, .none] } } σ H3 x v vl vu l u s3.heap.objs.size Q I4 r1 (Heap.IsSliceOf.new ..) pl pu q3
  show wpAny (model X.prog X.w) X.A (subscriptTail e (.Slice lo hi none p2) v (.ref s3.heap.objs.size)) (EP X pins σ Q) X.xe { s3 with heap := s3.heap.push { cls := .type "slice", data := .fields #[vl, vu, .none] } }
  exact tail_any (ops := [.ref s3.heap.objs.size, v]) ht hT hg (by with_unfolding_all rfl)
noncomputable def cutV (xs : List V) (lo hi : Option Int) : List V := (xs.drop (HT.sIx xs.length 0 lo)).take (HT.sIx xs.length xs.length hi - HT.sIx xs.length 0 lo)
theorem cutV_length (xs : List V) (lo hi : Option Int) : (cutV xs lo hi).length ≤ xs.length := by
  unfold cutV
  rw [List.length_take, List.length_drop]
  omega
noncomputable def rSlT (K : Frag) : V → Option Int → Option Int → Hp → VK → Prop := fun x lo hi H Q => ∃ a xs, x = .ref a ∧ SqT K H a xs ∧
  ¬ (HT.sIx xs.length 0 lo = 0 ∧ HT.sIx xs.length xs.length hi = xs.length) ∧ ∀ p, H p = none → Q (.ref p) (upd H p (.tup (cutV xs lo hi)))
theorem sl_tup : SlR X (rSlT X.K) := by
  intro pins s σ H x v vl vu lo hi sl Q I rx hs pl pu h
  obtain ⟨a, xs, rfl, hx, hw, q⟩ := h
  cases rx
  obtain ⟨its, r, ht, hz⟩ := I.tuple hx
  have hlen : its.toArray.size = xs.length := by rw [List.size_toArray]; exact r.length.symm
  refine ⟨"tuple", _, PyProof.Rows.slot_tuple_getitem.lookup, ht.typeIs, ?_⟩
  refine HT.getItem_tuple_cut ht hs pl pu (by rw [hlen]; exact hw) ?_ (by rw [hlen]; exact hz)
  rw [hlen]
  refine ⟨.ref s.heap.objs.size, _, I.laid (t' := s.toks) (o := .tup (cutV xs lo hi)) (fun b ob q => Heap.get?_push_of_some _ q) (Nat.le_refl _) ?_, rfl, q _ (I.hok.fresh (Nat.le_refl _))⟩
  exact ⟨Nat.le_trans (cutV_length xs lo hi) hz, _, (r.drop (HT.sIx xs.length 0 lo)).take (HT.sIx xs.length xs.length hi - HT.sIx xs.length 0 lo), IsTup.new _ _⟩
noncomputable def rCatT (K : Frag) : R2 := fun x y H Q => ∃ a b xs ys, x = .ref a ∧ y = .ref b ∧ SqT K H a xs ∧ SqT K H b ys ∧ xs ≠ [] ∧ xs.length + ys.length ≤ sizeLine ∧
  (ys = [] → Q (.ref a) H) ∧ (ys ≠ [] → ∀ p, H p = none → Q (.ref p) (upd H p (.tup (xs ++ ys))))
theorem Vals.nil_iff {xs : List V} {us : List Value} (r : Vals xs us) : us = [] ↔ xs = [] := by
  cases r with
  | nil => simp
  | cons _ _ => simp
theorem op_catT : OpR X (binaryOp .Add) (rCatT X.K) := by
  intro pins s σ H x y v u Q I rx ry h
  obtain ⟨a, b, xs, ys, rfl, rfl, ha, hb, hx, hz, q1, q2⟩ := h
  cases rx
  cases ry
  obtain ⟨its, r1, p1, _⟩ := I.tuple ha
  obtain ⟨its2, r2, p2, _⟩ := I.tuple hb
  refine HT.cat_tup p1 p2 (fun z => hx (r1.nil_iff.mp z)) (fun z => ⟨.ref a, H, I, rfl, q1 (r2.nil_iff.mp z)⟩) (fun z => ?_) (by rw [← r1.length, ← r2.length]; exact hz)
  refine ⟨.ref s.heap.objs.size, _, I.laid (t' := s.toks) (o := .tup (xs ++ ys)) (fun b ob q => Heap.get?_push_of_some _ q) (Nat.le_refl _) ?_, rfl, q2 (fun w => z (r2.nil_iff.mpr w)) _ (I.hok.fresh (Nat.le_refl _))⟩
  exact ⟨by rw [List.length_append]; exact hz, _, r1.append r2, IsTup.new _ _⟩
end
end L2
namespace L2
open PySem PySem.Spec PyProof.Rows
noncomputable def ixN (n : Nat) (i : Int) : Option Nat := if 0 ≤ i then (if i < n then some i.toNat else none) else if -(n : Int) ≤ i then some (i + n).toNat else none
noncomputable def atI {α : Type} (xs : List α) (i : Int) : Option α := (ixN xs.length i).bind fun j => xs[j]?
theorem ixN_seq {n : Nat} {i : Int} {j : Nat} (h : ixN n i = some j) : seqIndex? i n = some j ∧ j < n ∧ -(n : Int) ≤ i ∧ i < n := by
  unfold ixN at h
  by_cases h0 : 0 ≤ i
  · rw [if_pos h0] at h
    by_cases h1 : i < n
    · rw [if_pos h1] at h
      have e : i.toNat = j := Option.some.inj h
      exact ⟨by rw [seqIndex_of h0 h1, e], by omega, by omega, h1⟩
    · rw [if_neg h1] at h; cases h
  · rw [if_neg h0] at h
    by_cases h1 : -(n : Int) ≤ i
    · rw [if_pos h1] at h
      have e : (i + n).toNat = j := Option.some.inj h
      exact ⟨by rw [seqIndex_neg (by omega) h1, e], by omega, h1, by omega⟩
    · rw [if_neg h1] at h; cases h
theorem atI_get {α : Type} {xs : List α} {i : Int} {v : α} (h : atI xs i = some v) : ∃ j, seqIndex? i xs.length = some j ∧ xs[j]? = some v ∧ j < xs.length ∧ -(xs.length : Int) ≤ i ∧ i < xs.length := by
  unfold atI at h
  cases e : ixN xs.length i with
  | none => rw [e] at h; cases h
  | some j =>
    rw [e] at h
    obtain ⟨h1, h2, h3, h4⟩ := ixN_seq e
    exact ⟨j, h1, h, h2, h3, h4⟩
theorem atI_nat {α : Type} {xs : List α} {j : Nat} {v : α} (h : xs[j]? = some v) : atI xs (j : Int) = some v := by
  have hj : j < xs.length := (List.getElem?_eq_some_iff.mp h).1
  have e : ixN xs.length (j : Int) = some j := by
    unfold ixN
    rw [if_pos (by omega), if_pos (by omega)]; simp
  unfold atI; rw [e]; exact h
def PlainIx (b : Expr) : Prop := ∀ o i, subscripted b false o i = operate [o, i] (getItem o i)
def IxR (X : Cx) (r : R2) : Prop :=
  ∀ (value slice : Expr) (pins : List (Addr × Obj)) (s : Shared) (σ : St) (H : Hp) (x y : V) (v u : Value) (Q : VK), Inv X pins σ H s → RelV x v → RelV y u → r x y H Q →
    subscripted slice false v u = operate [v, u] (getItem v u) → wpAny (model X.prog X.w) X.A (subscriptTail value slice v u) (EP X pins σ Q) X.xe s
def MtR (X : Cx) (id : String) (r : V → List V → Hp → VK → Prop) : Prop :=
  ∀ (pins : List (Addr × Obj)) (s : Shared) (σ : St) (H : Hp) (x : V) (xs : List V) (v : Value) (us : List Value) (Q : VK), Inv X pins σ H s → RelV x v → Vals xs us → r x xs H Q →
    wpAny (model X.prog X.w) X.A (call (.builtin id) (v :: us)) (EP X pins σ Q) X.xe s
section
variable {X : Cx} {a b : Expr} {ta tb : TE} {pos : Pos}
noncomputable def rIxL (K : Frag) : R2 := fun x y H Q => ∃ p xs i v, x = .ref p ∧ y = .int i ∧ SqL K H p xs ∧ atI xs i = some v ∧ Q v H
noncomputable def rIxT (K : Frag) : R2 := fun x y H Q => ∃ p xs i v, x = .ref p ∧ y = .int i ∧ SqT K H p xs ∧ atI xs i = some v ∧ Q v H
noncomputable def rIxS : R2 := fun x y H Q => ∃ z i c, x = .str z ∧ y = .int i ∧ z.length ≤ sizeLine ∧ atI z.cps.toList i = some c ∧ Q (.str ⟨#[c]⟩) H
theorem ix_list : IxR X (rIxL X.K) := by
  intro value slice pins s σ H x y v u Q I rx ry h hs
  obtain ⟨p, xs, i, z, rfl, rfl, hq, he, q⟩ := h
  cases rx
  obtain ⟨t, rfl⟩ := ry
  obtain ⟨its, r, pl, hz⟩ := I.list hq
  obtain ⟨j, h1, h2, h3, h4, h5⟩ := atI_get he
  obtain ⟨w, ew, rw'⟩ := r.get h2
  have hl := r.length
  have hn := line63
  have fin : EP X pins σ Q w s := ⟨z, H, I, rw', q⟩
  by_cases h0 : 0 ≤ i
  · have hj : i.toNat = j := by
      rw [seqIndex_of h0 h5] at h1
      exact Option.some.inj h1
    exact item_listR pl.isList h0 (by omega) (by rw [hj]; simpa using ew) fin hs
  · have hj : (i + (its.toArray.size : Int)).toNat = j := by
      rw [seqIndex_neg (by omega) h4] at h1
      rw [List.size_toArray, ← hl]
      exact Option.some.inj h1
    exact subscriptTail_builtinR (x := w) pl.isList.typeIs slot_list_getitem.lookup
      (wpAny_getItem_list_neg (Q := fun r s' => r = w ∧ EP X pins σ Q r s') pl.isList (by omega) (by rw [List.size_toArray] <;> omega) (by omega) (by rw [hj]; simpa using ew) ⟨rfl, fin⟩) hs
theorem ix_tup : IxR X (rIxT X.K) := by
  intro value slice pins s σ H x y v u Q I rx ry h hs
  obtain ⟨p, xs, i, z, rfl, rfl, hq, he, q⟩ := h
  cases rx
  obtain ⟨t, rfl⟩ := ry
  obtain ⟨its, r, pl, hz⟩ := I.tuple hq
  obtain ⟨j, h1, h2, h3, h4, h5⟩ := atI_get he
  obtain ⟨w, ew, rw'⟩ := r.get h2
  have hl := r.length
  have hn := line63
  have fin : EP X pins σ Q w s := ⟨z, H, I, rw', q⟩
  exact subscriptTail_builtinR (x := w) pl.typeIs slot_tuple_getitem.lookup
    (getItem_tuple (j := j) (Q := fun r s' => r = w ∧ EP X pins σ Q r s') pl (by omega) (by omega) (by rw [List.size_toArray, ← hl]; exact h1) (by simpa using ew) ⟨rfl, fin⟩) hs
theorem ix_str : IxR X rIxS := by
  intro value slice pins s σ H x y v u Q I rx ry h hs
  obtain ⟨z, i, c, rfl, rfl, hz, he, q⟩ := h
  obtain ⟨t, rfl⟩ := rx
  obtain ⟨t', rfl⟩ := ry
  obtain ⟨j, h1, h2, h3, h4, h5⟩ := atI_get he
  have hl : z.cps.toList.length = z.length := by simp [Str.length]
  rw [hl] at h1 h4 h5
  have hn := line63
  exact tail_any (typeIs_str s z t) slot_str_getitem.lookup (getItem_str (c := c) (by
    have e1 : decide (i < -(2 ^ 63 : Int)) = false := decide_eq_false (by omega)
    have e2 : decide (i ≥ 2 ^ 63) = false := decide_eq_false (by omega)
    rw [e1, e2, Bool.or_false]) (by rw [h1]; simpa using h2) ⟨.str ⟨#[c]⟩, H, I.tok _, ⟨_, rfl⟩, q⟩) hs
theorem mapSeq_set (its : List Value) (n j : Nat) (u : Value) : Obj.mapSeq (·.setIfInBounds j u) { cls := .type "list", data := .seq its.toArray n } = { cls := .type "list", data := .seq (its.set j u).toArray n } := by
  simp [Obj.mapSeq]
theorem Inv.lst {pins : List (Addr × Obj)} {σ : St} {H : Hp} {s : Shared} {p : Addr} {xs : List V} (I : Inv X pins σ H s) (h : H p = some (.lst xs)) :
    ∃ (its : List Value) (n : Nat), Vals xs its ∧ s.heap.get? p = some { cls := .type "list", data := .seq its.toArray n } ∧ xs.length ≤ sizeLine := by
  obtain ⟨z, its, n, r, e⟩ := I.hok p _ h
  exact ⟨its, n, r, e, z⟩
theorem Inv.lstUpd {pins : List (Addr × Obj)} {σ : St} {H : Hp} {s : Shared} {p : Addr} {xs ys : List V} {its its' : List Value} {n n' : Nat} {f : Obj → Obj} (I : Inv X pins σ H s) (h : H p = some (.lst xs))
    (ho : s.heap.get? p = some { cls := .type "list", data := .seq its.toArray n }) (hf : f { cls := .type "list", data := .seq its.toArray n } = { cls := .type "list", data := .seq its'.toArray n' }) (r : Vals ys its') (hz : ys.length ≤ sizeLine) (t : Nat) :
    Inv X pins σ (upd H p (.lst ys)) { s with heap := s.heap.update p f, toks := t } := by
  have e : (s.heap.update p f).get? p = some { cls := .type "list", data := .seq its'.toArray n' } := by
    rw [Heap.get?_update_self f ho (by rw [hf] <;> rfl), hf]
  refine I.write (x := p) (e := p) (by rw [h]; trivial) (.inl rfl) (fun b u hb q => (Heap.get?_update_other _ _ (Ne.symm hb)).trans q) ⟨_, e⟩ ?_
  exact ⟨hz, its', n', r, e⟩
noncomputable def rSetL : V → V → V → Hp → (Hp → Prop) → Prop := fun o i v H Q => ∃ p xs k j, o = .ref p ∧ i = .int k ∧ H p = some (.lst xs) ∧ ixN xs.length k = some j ∧ Q (upd H p (.lst (xs.set j v)))
theorem set_list : PSet X rSetL := by
  intro pins s σ H o i v ov iv u Q I ro ri rv h
  obtain ⟨p, xs, k, j, rfl, rfl, hp, hj, q⟩ := h
  cases ro
  obtain ⟨t, rfl⟩ := ri
  obtain ⟨its, n, r, ho, hz⟩ := I.lst hp
  obtain ⟨h1, h2, h3, h4⟩ := ixN_seq hj
  have hl := r.length
  have hn := line63
  have I' : Inv X pins σ (upd H p (.lst (xs.set j v))) { s with heap := s.heap.update p (Obj.mapSeq (·.setIfInBounds j u)) } :=
    I.lstUpd hp ho (mapSeq_set its n j u) (r.set rv j) (by rw [List.length_set]; exact hz) s.toks
  by_cases h0 : 0 ≤ k
  · have hk : k.toNat = j := by
      rw [seqIndex_of h0 h4] at h1
      exact Option.some.inj h1
    exact PySem.W.ki_setAt ho h0 (by omega) (by rw [List.size_toArray, ← hl]; exact h4) (by rw [hk]; exact ⟨_, I', q⟩)
  · have hk : (k + (its.toArray.size : Int)).toNat = j := by
      rw [seqIndex_neg (by omega) h3] at h1
      rw [List.size_toArray, ← hl]
      exact Option.some.inj h1
    exact PySem.W.ki_setBack ho (by omega) (by rw [List.size_toArray, ← hl]; exact h3) (by omega) (by rw [hk]; exact ⟨_, I', q⟩)
theorem slice_bounds (lo hi : Option Int) (n : Nat) : (sliceBounds lo hi none n).1 = ((HT.sIx n 0 lo : Nat) : Int) ∧ (sliceBounds lo hi none n).2.1 = ((HT.sIx n n hi : Nat) : Int) ∧ (sliceBounds lo hi none n).2.2 = 1 := by
  refine ⟨?_, ?_, rfl⟩
  · cases lo with
    | none => simp [sliceBounds, HT.sIx]
    | some i =>
      simp only [sliceBounds, HT.sIx, Option.getD_none, show (1 : Int) > 0 by decide, if_true]
      by_cases h : i < 0
      · simp only [h, if_true] <;> omega
      · simp only [h, if_false] <;> omega
  · cases hi with
    | none => simp [sliceBounds, HT.sIx]
    | some i =>
      simp only [sliceBounds, HT.sIx, Option.getD_none, show (1 : Int) > 0 by decide, if_true]
      by_cases h : i < 0
      · simp only [h, if_true] <;> omega
      · simp only [h, if_false] <;> omega
theorem slicePick_cut (its : List Value) (lo hi : Option Int) : slicePick its.toArray lo hi none = ((its.drop (HT.sIx its.length 0 lo)).take (HT.sIx its.length its.length hi - HT.sIx its.length 0 lo)).toArray := by
  obtain ⟨h1, h2, h3⟩ := slice_bounds lo hi its.toArray.size
  unfold slicePick
  rw [h1, h2, h3]
  simp only [sliceRange_one, pick_run, List.size_toArray] <;> rfl
noncomputable def rSlL (K : Frag) : V → Option Int → Option Int → Hp → VK → Prop := fun x lo hi H Q => ∃ a xs, x = .ref a ∧ SqL K H a xs ∧ ∀ p, H p = none → Q (.ref p) (upd H p (.lst (cutV xs lo hi)))
theorem sl_list : SlR X (rSlL X.K) := by
  intro pins s σ H x v vl vu lo hi sl Q I rx hs pl pu h
  obtain ⟨a, xs, rfl, hx, q⟩ := h
  cases rx
  obtain ⟨its, r, ht, hz⟩ := I.list hx
  have hlen := r.length
  refine ⟨"list", _, slot_list_getitem.lookup, ht.isList.typeIs, ?_⟩
  refine wpAny_getItem_list_slice ht.isList hs pl pu .none (by simp) ?_ (by rw [List.size_toArray] <;> omega)
  rw [slicePick_cut, ← hlen]
  refine ⟨.ref s.heap.objs.size, _, I.laid (t' := s.toks) (o := .lst (cutV xs lo hi)) (fun b ob q => Heap.get?_push_of_some _ q) (Nat.le_refl _) ?_, rfl, q _ (I.hok.fresh (Nat.le_refl _))⟩
  exact ⟨Nat.le_trans (cutV_length xs lo hi) hz, _, 0, (r.drop (HT.sIx xs.length 0 lo)).take (HT.sIx xs.length xs.length hi - HT.sIx xs.length 0 lo), Heap.get?_push_size _ rfl⟩
noncomputable def flatV : V → Bool
  | .non => true
  | .bl _ => true
  | .int _ => true
  | .str _ => true
  | _ => false
noncomputable def eqV : V → V → Bool
  | .non, .non => true
  | .bl a, .bl b => a == b
  | .bl a, .int b => (if a then 1 else 0) == b
  | .int a, .bl b => a == (if b then 1 else 0)
  | .int a, .int b => a == b
  | .str a, .str b => a == b
  | _, _ => false
theorem eqAt_V {A : Around} {s : Shared} {y x : V} {u v : Value} (ry : RelV y u) (rx : RelV x v) (fy : flatV y = true) (fx : flatV x = true) : SeqAt.EqAt A s u v (eqV y x) := by
  cases y with
  | non =>
    cases ry
    cases x with
    | non => cases rx; exact SeqAt.EqAt.same _
    | bl b => cases rx; exact SeqAt.EqAt.none_bool b
    | int b => obtain ⟨t, rfl⟩ := rx; exact SeqAt.EqAt.none_int b t
    | str b => obtain ⟨t, rfl⟩ := rx; exact SeqAt.EqAt.none_str b t
    | _ => exact absurd (show false = true from fx) Bool.false_ne_true
  | bl a =>
    cases ry
    cases x with
    | non => cases rx; exact SeqAt.EqAt.bool_none a
    | bl b => cases rx; exact SeqAt.EqAt.bool_bool a b
    | int b => obtain ⟨t, rfl⟩ := rx; exact SeqAt.EqAt.bool_int a b t
    | str b => obtain ⟨t, rfl⟩ := rx; exact SeqAt.EqAt.bool_str a b t
    | _ => exact absurd (show false = true from fx) Bool.false_ne_true
  | int a =>
    obtain ⟨t', rfl⟩ := ry
    cases x with
    | non => cases rx; exact SeqAt.EqAt.int_none a t'
    | bl b => cases rx; exact SeqAt.EqAt.int_bool a t' b
    | int b => obtain ⟨t, rfl⟩ := rx; exact SeqAt.EqAt.int_int a t' b t
    | str b => obtain ⟨t, rfl⟩ := rx; exact SeqAt.EqAt.int_str a t' b t
    | _ => exact absurd (show false = true from fx) Bool.false_ne_true
  | str a =>
    obtain ⟨t', rfl⟩ := ry
    cases x with
    | non => cases rx; exact SeqAt.EqAt.str_none a t'
    | bl b => cases rx; exact SeqAt.EqAt.str_bool a t' b
    | int b => obtain ⟨t, rfl⟩ := rx; exact SeqAt.EqAt.str_int a t' b t
    | str b => obtain ⟨t, rfl⟩ := rx; exact SeqAt.EqAt.str_str a t' b t
    | _ => exact absurd (show false = true from fx) Bool.false_ne_true
  | _ => exact absurd (show false = true from fy) Bool.false_ne_true
noncomputable def eqU (x : V) (u : Value) : Bool := match u with
  | .none => eqV .non x
  | .bool b => eqV (.bl b) x
  | .int i _ => eqV (.int i) x
  | .str z _ => eqV (.str z) x
  | _ => false
theorem eqU_of {x y : V} {u : Value} (r : RelV y u) (f : flatV y = true) : eqU x u = eqV y x := by
  cases y with
  | non => cases r; rfl
  | bl b => cases r; rfl
  | int i => obtain ⟨t, rfl⟩ := r; rfl
  | str z => obtain ⟨t, rfl⟩ := r; rfl
  | _ => exact absurd (show false = true from f) Bool.false_ne_true
theorem any_eqU {x : V} : ∀ {xs : List V} {us : List Value}, Vals xs us → xs.all flatV = true → us.any (eqU x) = xs.any fun y => eqV y x
  | _, _, .nil, _ => rfl
  | y :: xs, u :: us, .cons r t, f => by
    rw [List.all_cons, Bool.and_eq_true] at f
    rw [List.any_cons, List.any_cons, eqU_of r f.1, any_eqU t f.2]
theorem mem_eqAt {A : Around} {s : Shared} {x : V} {v : Value} (rx : RelV x v) (fx : flatV x = true) : ∀ {xs : List V} {us : List Value}, Vals xs us → xs.all flatV = true → ∀ u ∈ us, SeqAt.EqAt A s u v (eqU x u)
  | _, _, .nil, _ => fun u hu => by cases hu
  | y :: xs, u :: us, .cons r t, f => fun u' hu => by
    rw [List.all_cons, Bool.and_eq_true] at f
    rcases List.mem_cons.mp hu with rfl | hu
    · rw [eqU_of r f.1]; exact eqAt_V r rx f.1 fx
    · exact mem_eqAt rx fx t f.2 u' hu
noncomputable def inV (x : V) (xs : List V) : Bool := xs.any fun y => eqV y x
noncomputable def rIn (K : Frag) (neg : Bool) : R2 := fun x y H Q => ∃ p xs, y = .ref p ∧ (SqL K H p xs ∨ SqT K H p xs) ∧ flatV x = true ∧ xs.all flatV = true ∧ Q (.bl (if neg then !inV x xs else inV x xs)) H
theorem op_in_seq : OpR X (compareOp .In) (rIn X.K false) := by
  intro pins s σ H x y v u Q I rx ry h
  obtain ⟨p, xs, rfl, hq, fx, fs, q⟩ := h
  cases ry
  rcases hq with hq | hq
  · obtain ⟨its, r, pl, hz⟩ := I.list hq
    refine SeqAt.in_listAt (eqU x) pl.isList (fun w hw => mem_eqAt rx fx r fs w (by simpa using hw)) ⟨.bl _, H, I, rfl, ?_⟩
    rw [show its.toArray.any (eqU x) = its.any (eqU x) by simp, any_eqU r fs]
    exact q
  · obtain ⟨its, r, pl, hz⟩ := I.tuple hq
    refine SeqAt.in_tupleAt (eqU x) pl (fun w hw => mem_eqAt rx fx r fs w (by simpa using hw)) ⟨.bl _, H, I, rfl, ?_⟩
    rw [show its.toArray.any (eqU x) = its.any (eqU x) by simp, any_eqU r fs]
    exact q
theorem op_notIn_seq : OpR X (compareOp .NotIn) (rIn X.K true) := by
  intro pins s σ H x y v u Q I rx ry h
  obtain ⟨p, xs, rfl, hq, fx, fs, q⟩ := h
  cases ry
  rcases hq with hq | hq
  · obtain ⟨its, r, pl, hz⟩ := I.list hq
    refine SeqAt.notIn_listAt (eqU x) pl.isList (fun w hw => mem_eqAt rx fx r fs w (by simpa using hw)) ⟨.bl _, H, I, rfl, ?_⟩
    rw [show its.toArray.any (eqU x) = its.any (eqU x) by simp, any_eqU r fs]
    exact q
  · obtain ⟨its, r, pl, hz⟩ := I.tuple hq
    refine SeqAt.notIn_tupleAt (eqU x) pl (fun w hw => mem_eqAt rx fx r fs w (by simpa using hw)) ⟨.bl _, H, I, rfl, ?_⟩
    rw [show its.toArray.any (eqU x) = its.any (eqU x) by simp, any_eqU r fs]
    exact q
theorem call_len_seq : CallR X (.builtin "len") (fun xs H Q => ∃ p ys, xs = [.ref p] ∧ (SqL X.K H p ys ∨ SqT X.K H p ys) ∧ Q (.int ys.length) H) := by
  intro pins s σ H xs us Q I r h
  obtain ⟨p, ys, rfl, hq, q⟩ := h
  obtain ⟨u, rfl, rx⟩ := vals1 r
  cases rx
  have hn := line63
  rcases hq with hq | hq
  · obtain ⟨its, r', pl, hz⟩ := I.list hq
    have hlen := r'.length
    exact Calls.call_len_list pl.isList (by simp only [List.size_toArray] <;> omega) ⟨.int ys.length, H, I.tok _, ⟨s.toks + 1, by rw [List.size_toArray, hlen]⟩, q⟩
  · obtain ⟨its, r', pl, hz⟩ := I.tuple hq
    have hlen := r'.length
    exact len_tuple pl (by simp only [List.size_toArray] <;> omega) ⟨.int ys.length, H, I.tok _, ⟨s.toks + 1, by rw [List.size_toArray, hlen]⟩, q⟩
theorem call_len_str : CallR X (.builtin "len") (fun xs H Q => ∃ z, xs = [.str z] ∧ z.length ≤ sizeLine ∧ Q (.int z.length) H) := by
  intro pins s σ H xs us Q I r h
  obtain ⟨z, rfl, hz, q⟩ := h
  obtain ⟨u, rfl, t, rfl⟩ := vals1 r
  have hn := line63
  exact len_str (by omega) ⟨.int z.length, H, I.tok _, ⟨_, rfl⟩, q⟩
theorem call_list_of : CallR X (.type "list") (fun xs H Q => ∃ p ys, xs = [.ref p] ∧ (SqL X.K H p ys ∨ SqT X.K H p ys) ∧ ∀ l, H l = none → Q (.ref l) (upd H l (.lst ys))) := by
  intro pins s σ H xs us Q I r h
  obtain ⟨p, ys, rfl, hq, q⟩ := h
  obtain ⟨u, rfl, rx⟩ := vals1 r
  cases rx
  have fin : ∀ (its : List Value), Vals ys its → ys.length ≤ sizeLine → ∀ (h' : Heap) (c' : Nat), (∀ b o', s.heap.get? b = some o' → h'.get? b = some o') →
      h'.get? s.heap.objs.size = some { cls := .type "list", dict := none, data := .seq its.toArray c', slots := #[] } → EP X pins σ Q (.ref s.heap.objs.size) { s with heap := h' } := fun its r' hz h' c' kp e =>
    ⟨.ref s.heap.objs.size, _, I.laid (t' := s.toks) kp (Nat.le_refl _) (show ObjOk X.prog X.w _ h' _ (.lst ys) from ⟨hz, its, c', r', e⟩), rfl, q _ (I.hok.fresh (Nat.le_refl _))⟩
  rcases hq with hq | hq
  · obtain ⟨its, r', pl, hz⟩ := I.list hq
    have hlen := r'.length
    obtain ⟨o, ho, hc, n, hd⟩ := pl.isList
    exact call_list_seq p (.inl rfl) ho hc hd (fun h' c' kp e => fin its r' hz h' c' kp e) (by simp only [List.size_toArray] <;> omega)
  · obtain ⟨its, r', pl, hz⟩ := I.tuple hq
    have hlen := r'.length
    obtain ⟨o, ho, hc, n, hd⟩ := pl
    exact call_list_seq p (.inr rfl) ho hc hd (fun h' c' kp e => fin its r' hz h' c' kp e) (by simp only [List.size_toArray] <;> omega)
theorem call_tuple_of : CallR X (.type "tuple") (fun xs H Q => ∃ p ys, xs = [.ref p] ∧ ((SqL X.K H p ys ∧ ∀ l, H l = none → Q (.ref l) (upd H l (.tup ys))) ∨ (SqT X.K H p ys ∧ Q (.ref p) H))) := by
  intro pins s σ H xs us Q I r h
  obtain ⟨p, ys, rfl, h⟩ := h
  obtain ⟨u, rfl, rx⟩ := vals1 r
  cases rx
  rcases h with ⟨hq, q⟩ | ⟨hq, q⟩
  · obtain ⟨its, r', pl, hz⟩ := I.list hq
    have hlen := r'.length
    refine call_tuple_list pl.isList (fun h' kp => ?_) (by simp only [List.size_toArray] <;> omega)
    have I1 : Inv X pins σ H { s with heap := h' } := I.kept (t' := s.toks) kp
    have I2 : Inv X pins σ (upd H h'.objs.size (.tup ys)) { s with heap := h'.push { cls := .type "tuple", data := .seq its.toArray } } :=
      I1.laid (t' := s.toks) (fun b o e => Heap.get?_push_of_some _ e) (Nat.le_refl _) (show ObjOk X.prog X.w _ _ _ (.tup ys) from ⟨hz, its, r', IsTup.new _ _⟩)
    exact ⟨.ref h'.objs.size, _, I2, rfl, q _ (I1.hok.fresh (Nat.le_refl _))⟩
  · obtain ⟨its, r', pl, hz⟩ := I.tuple hq
    exact call_tuple_same pl ⟨.ref p, H, I, rfl, q⟩
def tyV (K : Frag) (T : String) (x : V) (H : Hp) : Prop := match x with
  | .str _ => T = "str"
  | .int _ => T = "int"
  | .ref p => (T = "list" ∧ ∃ xs, SqL K H p xs) ∨ (T = "tuple" ∧ ∃ o, K.lookup p = some o ∧ o.cls = .type "tuple" ∧ o.dict = none) ∨
      (T = "dict" ∧ ((∃ kvs, H p = some (.dK kvs)) ∨ ∃ kvs, H p = some (.dT kvs))) ∨ (T = "set" ∧ ∃ S n, H p = some (.set S n))
  | _ => False
theorem tyV_is {pins : List (Addr × Obj)} {σ : St} {H : Hp} {s : Shared} {T : String} {x : V} {v : Value} (I : Inv X pins σ H s) (r : RelV x v) (ty : tyV X.K T x H) :
    s.TypeIs v T ∧ ∀ a, v = .ref a → ∃ ob, s.heap.get? a = some ob ∧ ob.dict = none := by
  cases x with
  | str z =>
    obtain ⟨t, rfl⟩ := r
    cases (show T = "str" from ty)
    exact ⟨typeIs_str s z t, fun _ e => nomatch e⟩
  | int i =>
    obtain ⟨t, rfl⟩ := r
    cases (show T = "int" from ty)
    exact ⟨typeIs_int s i t, fun _ e => nomatch e⟩
  | ref p =>
    cases r
    rcases ty with ⟨rfl, xs, hq⟩ | ⟨rfl, o, hk, hc, hd⟩ | ⟨rfl, hk⟩ | ⟨rfl, S, n, hk⟩
    · obtain ⟨its, _, pl, _⟩ := I.list hq
      refine ⟨pl.isList.typeIs, fun a e => ?_⟩
      cases e
      obtain ⟨o, n, e, c, hd, _⟩ := pl
      exact ⟨o, e, hd⟩
    · refine ⟨⟨o, I.kIn p o hk, hc⟩, fun a e => ?_⟩
      cases e
      exact ⟨o, I.kIn _ o hk, hd⟩
    · have z : ∃ o, s.heap.get? p = some o ∧ o.ExactDict := by
        rcases hk with ⟨kvs, hk⟩ | ⟨kvs, hk⟩
        · obtain ⟨_, _, _, _, o, _, _, e, ex, _⟩ := I.hok p _ hk
          exact ⟨o, e, ex⟩
        · obtain ⟨_, _, _, _, o, _, _, e, ex, _⟩ := I.hok p _ hk
          exact ⟨o, e, ex⟩
      obtain ⟨o, e, ex⟩ := z
      refine ⟨⟨o, e, ex.1⟩, fun a e2 => ?_⟩
      cases e2
      exact ⟨o, e, ex.2.1⟩
    · obtain ⟨o, _, _, _, e, ex, _⟩ := I.hok p _ hk
      refine ⟨⟨o, e, ex.1⟩, fun a e2 => ?_⟩
      cases e2
      exact ⟨o, e, ex.2.1⟩
  | _ => exact False.elim ty
noncomputable def tBM0 (K : Frag) (T : String) (r : V → List V → Hp → VK → Prop) (to : TE) : TE := fun σ H Q => to σ H fun x H1 => tyV K T x H1 ∧ r x [] H1 Q
noncomputable def tBM (K : Frag) (T : String) (r : V → List V → Hp → VK → Prop) (to : TE) (t : TA) : TE := fun σ H Q => to σ H fun x H1 => tyV K T x H1 ∧ t σ H1 fun xs H2 => r x xs H2 Q
variable {o e : Expr} {es : List Expr} {to : TE} {t : TA} {name : Str} {apos cpos : Pos} {T id : String} {r : V → List V → Hp → VK → Prop}
theorem pe_bm0 (pa : PlainAttrs T) (slot : Slot T name id) (hty : typeOf (.builtin id) = pure (.type "method_descriptor")) (hm : MtR X id r) (ho : PE X o to)
    (hbase : attributeBase o name X.env (eval o X.env) = eval o X.env := by rfl) (hline : (apos.endLine == cpos.line) = true := by rfl) : PE X (.Call (.Attribute o name apos) [] [] cpos) (tBM0 X.K T r to) := by
  intro pins s σ H Q I h
  refine wpAny_Call_method0_late hbase hline (thn (ho pins s σ H _ I h) fun v s1 ⟨x, H1, I1, r1, ty, q1⟩ => ?_)
  obtain ⟨h1, h2⟩ := tyV_is I1 r1 ty
  exact ⟨T, id, pa, slot, hty, h1, h2, Calls.callWith_builtin rfl (PySem.evalArgs_none (hm pins s1 σ H1 x [] v [] Q I1 r1 .nil q1))⟩
theorem pe_bm (pa : PlainAttrs T) (slot : Slot T name id) (hty : typeOf (.builtin id) = pure (.type "method_descriptor")) (hm : MtR X id r) (ho : PE X o to) (ha : PA X (e :: es) t)
    (hbase : attributeBase o name X.env (eval o X.env) = eval o X.env := by rfl)
    (hfew : ((backTo cpos (starEach (e :: es) X.env)).all (fun x => !x.1) && (backToKw cpos (keywordEach [] X.env)).all (fun x => x.1.isSome)
      && decide ((e :: es).length + ([] : List Keyword).length + (if ([] : List Keyword).isEmpty then 0 else 1) < 30)) = true := by rfl)
    (hline : (apos.endLine == cpos.line) = true := by rfl) (hs : starEach (e :: es) X.env = (false, eval e X.env) :: starEach es X.env := by rfl) (hplain : (backTo cpos (starEach es X.env)).any (·.1) = false := by rfl) :
    PE X (.Call (.Attribute o name apos) (e :: es) [] cpos) (tBM X.K T r to t) := by
  intro pins s σ H Q I h
  refine wpAny_Call_method_late hbase hfew hline rfl (thn (ho pins s σ H _ I h) fun v s1 ⟨x, H1, I1, r1, ty, q1⟩ => ?_)
  obtain ⟨h1, h2⟩ := tyV_is I1 r1 ty
  refine ⟨T, id, pa, slot, hty, h1, h2, ?_⟩
  have hA := ha cpos pins s1 σ H1 _ I1 q1
  rw [hs] at hA ⊢
  refine Calls.callWith_builtin (by show (false || (backTo cpos (starEach es X.env)).any (·.1)) = false; rw [hplain] <;> rfl) (Calls.evalArgs_plain ?_)
  exact thn hA fun us s2 ⟨vs, H2, I2, r2, q2⟩ => hm pins s2 σ H2 x vs v us Q I2 r1 r2 q2
/- xs.append(e), list.index on a module's tuple .. are MtR facts of 06m -/
end
end L2
namespace L2
open PySem PySem.Spec PyProof.Rows
def MtM (X : Cx) (id : String) (r : V → List V → Hp → VK → Prop) : Prop :=
  ∀ (pins : List (Addr × Obj)) (s : Shared) (σ : St) (H : Hp) (x : V) (xs : List V) (v : Value) (us : List Value) (Q : VK), Inv X pins σ H s → RelV x v → Vals xs us → r x xs H Q →
    wpAny (model X.prog X.w) X.A (call (.builtin id) (v :: us)) (EP X pins σ Q) X.xe s
theorem Vals.one : ∀ {x : V} {us : List Value}, Vals [x] us → ∃ u, us = [u] ∧ RelV x u
  | _, _, .cons r .nil => ⟨_, rfl, r⟩
theorem Vals.zero : ∀ {us : List Value}, Vals [] us → us = []
  | _, .nil => rfl
theorem Vals.dropLast {xs : List V} {us : List Value} (h : Vals xs us) : Vals xs.dropLast us.dropLast := by
  induction h with
  | nil => exact .nil
  | cons r t ih =>
    cases t with
    | nil => exact .nil
    | cons q t' => exact .cons r ih
theorem Vals.eraseIdx : ∀ {xs : List V} {us : List Value} (i : Nat), Vals xs us → Vals (xs.eraseIdx i) (us.eraseIdx i)
  | _, _, _, .nil => .nil
  | _, _, 0, .cons _ t => t
  | _, _, i + 1, .cons r t => .cons r (Vals.eraseIdx i t)
theorem Vals.rep {xs : List V} {us : List Value} (h : Vals xs us) : ∀ k : Nat, Vals (List.replicate k xs).flatten (List.replicate k us).flatten
  | 0 => .nil
  | k + 1 => by
    rw [List.replicate_succ, List.replicate_succ, List.flatten_cons, List.flatten_cons]
    exact Vals.append h (Vals.rep h k)
theorem erase_last {α : Type} (l : List α) : l.eraseIdx (l.length - 1) = l.dropLast := by
  induction l with
  | nil => rfl
  | cons a r ih =>
    cases r with
    | nil => rfl
    | cons b r =>
      have e : (a :: b :: r).length - 1 = ((b :: r).length - 1) + 1 := by
        have h1 : (a :: b :: r).length = r.length + 2 := rfl
        have h2 : (b :: r).length = r.length + 1 := rfl
        omega
      rw [e, List.eraseIdx_cons_succ, ih]
      all_goals rfl
theorem len_erase {α : Type} : ∀ (l : List α) (i : Nat), (l.eraseIdx i).length ≤ l.length
  | [], _ => Nat.le_refl _
  | _ :: _, 0 => Nat.le_succ _
  | _ :: r, i + 1 => Nat.succ_le_succ (len_erase r i)
section
variable {X : Cx} {pins : List (Addr × Obj)} {σ : St} {H : Hp} {s : Shared} {l b : Addr} {xs ys zs : List V}
theorem Inv.lset {its its' : List Value} {n : Nat} {f : Array Value → Array Value} {t' : Nat} (I : Inv X pins σ H s) (hH : H l = some (.lst xs))
    (e : s.heap.get? l = some { cls := .type "list", data := .seq its.toArray n }) (hf : f its.toArray = its'.toArray) (hv : Vals ys its') (hz : ys.length ≤ sizeLine) :
    Inv X pins σ (upd H l (.lst ys)) { s with heap := s.heap.update l (Obj.mapSeq f), toks := t' } := by
  have q := PySem.IsL.update e f
  rw [hf] at q
  refine I.write (x := l) (e := l) (by rw [hH]; exact trivial) (.inl rfl) (fun b' u hb hu => (Heap.get?_update_other s.heap (Obj.mapSeq f) (Ne.symm hb)).trans hu) ⟨_, q⟩ ?_
  exact ⟨hz, its', _, hv, q⟩
theorem Inv.lnew {its : List Value} {t' : Nat} (I : Inv X pins σ H s) (hv : Vals ys its) (hz : ys.length ≤ sizeLine) :
    Inv X pins σ (upd H s.heap.objs.size (.lst ys)) { s with heap := s.heap.push { cls := .type "list", data := .seq its.toArray }, toks := t' } :=
  I.laid (fun _ _ q => Heap.get?_push_of_some _ q) (Nat.le_refl _) ⟨hz, its, 0, hv, Heap.get?_push_size _ rfl⟩
theorem Inv.fresh (I : Inv X pins σ H s) : H s.heap.objs.size = none := I.hok.fresh (Nat.le_refl _)
theorem Inv.lstM (I : Inv X pins σ H s) (hH : H l = some (.lst xs)) : xs.length ≤ sizeLine ∧ ∃ (its : List Value) (n : Nat), Vals xs its ∧ xs.length = its.length ∧ s.heap.get? l = some { cls := .type "list", data := .seq its.toArray n } := by
  obtain ⟨z, its, n, r, e⟩ := I.hok l _ hH
  exact ⟨z, its, n, r, r.length, e⟩
theorem notLongL {n : Nat} (h : n ≤ sizeLine) : Builtin.List.listTooLong n = false := by
  unfold Builtin.List.listTooLong
  exact decide_eq_false (by omega)
end
section
variable {X : Cx}
noncomputable def rAppend : V → List V → Hp → VK → Prop := fun x vs H Q => ∃ l xs y, x = .ref l ∧ vs = [y] ∧ H l = some (.lst xs) ∧ xs.length < sizeLine ∧ Q .non (upd H l (.lst (xs ++ [y])))
theorem mt_append : MtM X "list.append" rAppend := by
  intro pins s σ H x vs v us Q I rx rv h
  obtain ⟨l, xs, y, rfl, rfl, hH, hz, q⟩ := h
  cases rx
  obtain ⟨u, rfl, ru⟩ := rv.one
  obtain ⟨z, its, n, r, hl, e⟩ := I.lstM hH
  refine call_meets F.slot_list_append ⟨_, e, rfl⟩ F.entry_list_append (F.args_list_append_2 _ _) (PySem.list_append l its.toArray n u (by rw [List.size_toArray]; omega)) ⟨e, ?_⟩
  refine ⟨.non, _, I.lset (its' := its ++ [u]) hH e (by simp) (r.append (.cons ru .nil)) ?_, rfl, q⟩
  rw [List.length_append, List.length_singleton]
  omega
noncomputable def rPop : V → List V → Hp → VK → Prop := fun x vs H Q => ∃ l xs y, x = .ref l ∧ vs = [] ∧ H l = some (.lst xs) ∧ xs[xs.length - 1]? = some y ∧ Q y (upd H l (.lst xs.dropLast))
theorem mt_pop : MtM X "list.pop" rPop := by
  intro pins s σ H x vs v us Q I rx rv h
  obtain ⟨l, xs, y, rfl, rfl, hH, hy, q⟩ := h
  cases rx
  have hus := rv.zero
  subst hus
  obtain ⟨z, its, n, r, hl, e⟩ := I.lstM hH
  obtain ⟨u, hu, ru⟩ := r.get hy
  have hy' : its.toArray[its.toArray.size - 1]? = some u := by
    show its.toArray[its.length - 1]? = some u
    rw [← Array.getElem?_toList, ← hl]
    exact hu
  refine call_meets F.slot_list_pop ⟨_, e, rfl⟩ F.entry_list_pop (F.args_list_pop_1 _) (MeetsSeq.list_pop_last l its.toArray n u hy' (by rw [List.size_toArray]; omega)) ⟨e, ?_⟩
  refine ⟨y, _, I.lset (its' := its.dropLast) hH e ?_ r.dropLast ?_, ru, q⟩
  · show its.toArray.eraseIdxIfInBounds (its.toArray.size - 1) = its.dropLast.toArray
    rw [List.size_toArray, List.eraseIdxIfInBounds_toArray, erase_last]
  · rw [List.length_dropLast]
    omega
noncomputable def rPopAt : V → List V → Hp → VK → Prop := fun x vs H Q => ∃ l xs i k y, x = .ref l ∧ vs = [.int i] ∧ H l = some (.lst xs) ∧ -(2 ^ 63) ≤ i ∧ i < 2 ^ 63 ∧ seqIndex? i xs.length = some k ∧ xs[k]? = some y ∧ Q y (upd H l (.lst (xs.eraseIdx k)))
theorem mt_popAt : MtM X "list.pop" rPopAt := by
  intro pins s σ H x vs v us Q I rx rv h
  obtain ⟨l, xs, i, k, y, rfl, rfl, hH, h1, h2, hk, hy, q⟩ := h
  cases rx
  obtain ⟨u, rfl, ru⟩ := rv.one
  obtain ⟨t, rfl⟩ := ru
  obtain ⟨z, its, n, r, hl, e⟩ := I.lstM hH
  obtain ⟨w, hw, rw'⟩ := r.get hy
  refine call_meets F.slot_list_pop ⟨_, e, rfl⟩ F.entry_list_pop (F.args_list_pop_2 _ _)
    (MeetsSeq.list_pop_at l its.toArray n i t k w (fitsIndex_both h1 h2) (by rw [List.size_toArray, ← hl]; exact hk) (by rw [← Array.getElem?_toList]; exact hw) (by rw [List.size_toArray]; omega)) ⟨e, ?_⟩
  refine ⟨y, _, I.lset (its' := its.eraseIdx k) hH e ?_ (r.eraseIdx k) ?_, rw', q⟩
  · show its.toArray.eraseIdxIfInBounds k = (its.eraseIdx k).toArray
    rw [List.eraseIdxIfInBounds_toArray]
  · have := len_erase xs k
    omega
theorem len_rep {α : Type} (xs : List α) (k : Nat) : (List.replicate k xs).flatten.length = k * xs.length := by
  induction k with
  | zero => simp
  | succ k ih => rw [List.replicate_succ, List.flatten_cons, List.length_append, ih, Nat.succ_mul, Nat.add_comm]
end
section
variable {prog : Program} {w : World} {A : Around} {E : Value → Shared → Prop} {s : Shared}
end
section
variable {X : Cx}
end
end L2
namespace Att
open PySem PySem.W PySem.Calls PyProof.Rows
theorem ints_of_wellAll {P : Params} {h : Heap} : ∀ (ns : List Int) (vs : List Value), WellAll P h vs (ns.map WData.int) → IntsAre vs ns := by
  intro ns
  induction ns with
  | nil =>
    intro vs w
    rw [List.map_nil] at w
    cases w
    exact .nil
  | cons n ns ih =>
    intro vs w
    rw [List.map_cons] at w
    cases w with
    | cons a b =>
      cases a
      exact .cons _ _ (ih _ b)
theorem script_of {l : OpenLaw} {n : Nat} (hn : l.most = some n) {P : Params} {h : Heap} {args : List WData} {vals : List Value}
    (hpre : l.row.toRowW.claim.pre args = true) (hwl : WellAll P h vals args) :
    ∃ a vs ns, vals = [Value.ref a] ∧ args = [WData.list (ns.map WData.int)] ∧ h.get? a = some { cls := .type "list", data := .seq vs.toArray } ∧ IntsAre vs ns ∧ ns.length ≤ n := by
  have hsh : WShape.hasAll [] args [.list .int] = true := (pre_splitW hpre).1
  have hc : l.pre.holds [] { args := args } = true := (pre_splitW hpre).2
  obtain ⟨d, r, rfl, h1, h2⟩ := hasAllW_cons hsh
  obtain rfl := hasAllW_nil h2
  obtain ⟨xs, rfl, h3⟩ := hasW_list h1
  obtain ⟨ns, rfl⟩ := items_int h3
  have hlen : ns.length ≤ n := by
    unfold OpenLaw.pre at hc
    have h4 : (WTm.not (.lt (.lit (.int (n : Int))) (.len (.arg 0)))).holds [] { args := [.list (ns.map .int)] } = true := by
      have h4 := (holds_andW hc).1
      rw [hn] at h4
      exact h4
    have h5 := condW_of h4 (w_not (w_lt w_lit (w_len_list (w_arg rfl))))
    rw [List.length_map] at h5
    refine Nat.le_of_not_lt fun q => ?_
    have q' : (n : Int) < ((ns.length : Nat) : Int) := by omega
    first
      | (rw [decide_eq_true q'] at h5; exact absurd h5 (by decide))
      | (simp at h5; omega)
  cases hwl with
  | cons w1 w2 =>
    cases w2
    cases w1 with
    | list ho hall => exact ⟨_, _, ns, rfl, rfl, ho, ints_of_wellAll ns _ hall, hlen⟩
theorem post_true (l : OpenLaw) (args : List WData) : l.row.toRowW.claim.post args (.bool true) args = true :=
  postW_of (r := l.row.toRowW) (X := (true == true))
    (show WShape.has [] (.bool true) .bool = true by first | rfl | decide | simp [WShape.has, WShape.arms, WShape.armsAll])
    (show (WTm.eq .res (.lit (.bool true))).value [] { args := args, res := some (.bool true), after := args } = some (.bool (true == true)) from w_eq_bool (w_res rfl) w_lit) rfl
theorem attach_call {l : OpenLaw} {n : Nat} {q : Program} {loose : List Str} {XP : (Str → Option Value) → Heap → Prop} {YP : World → Heap → Prop} {d : DefRec}
    (hn : l.most = some n) (hdf : d.params.defaults = [])
    (call : ∀ (w : World) (s₀ s₁ : Shared) (mg mb : Str → Option Value) (fa : Addr) (o : Obj) (pm cd doc : Value) (a : Addr) (vs : List Value) (ns : List Int),
      Ground q loose [] XP w s₀ mg mb s₁.heap → YP w s₁.heap →
      s₁.heap.get? fa = some o → o.data = .func (docDef d.name d.params d.body d.scope pm cd doc) → s₁.heap.CodeRec cd d.name → mg d.name = some (.ref fa) →
      s₁.heap.get? a = some { cls := .type "list", data := .seq vs.toArray } → IntsAre vs ns → ns.length ≤ n → s₁.gens = #[] →
      codeAny (model l.prog w) callerA (.call (.ref fa) ⟨[.ref a], []⟩) (fun r s' => r = .ok (.ret (.bool true)) ∧ OldK s₁.heap s'.heap ∧ s'.os = s₁.os ∧ AllBare s'.gens) s₁) :
    WalkO q loose XP YP l.row.toRowW d [] (fun f vs => PySem.call f vs) := by
  intro w s₀ s₁ mg mb G Y fa o pm cd doc dV kV ho hd hcd hD hmg hg args vals as hpre hlay hrd hwl hlo
  obtain rfl : dV = .none := Dflts.none hD hdf
  obtain rfl : kV = .none := Dflts.noKw hD
  obtain ⟨a, vs, ns, rfl, rfl, hobj, hints, hlen⟩ := script_of hn hpre hwl
  refine enter_call (codeAny_mono (call w s₀ s₁ mg mb fa o pm cd doc a vs ns G Y ho (fd_plain hd) hcd hmg hobj hints hlen hg) fun r s' hq => ?_)
  obtain ⟨rfl, h2, h3, h4⟩ := hq
  exact ⟨.inl ⟨.bool true, .bool true, [], rfl, fun _ => rfl, .bool true, post_true l _, fun _ => ⟨List.Pairwise.nil, fun _ hm => (nomatch hm)⟩⟩, h2, h3, h4⟩
section
variable {prog : Program} {w : World} {A : Around} {E : Value → Shared → Prop} {s : Shared} {K : Frag}
end
end Att
namespace L2
open PySem PySem.Spec PyProof.Rows
theorem vals_ints : ∀ {vs : List Value} {ns : List Int}, IntsAre vs ns → Vals (ns.map V.int) vs
  | _, _, .nil => .nil
  | _, _, .cons n t h => .cons ⟨t, rfl⟩ (vals_ints h)
def Only (H : Hp) : Prop := ∀ b, H b = none ∨ ∃ o xs, H b = some (.frz o (.lst xs))
theorem law_call {P : Program} {w : World} {K : Frag} {mg mb : Str → Option Value} {CX : CXT} {k : Nat} {fa a : Addr} {fd : FuncData} {x : Str} {sp : Sp} {s₁ : Shared} {vs : List Value} {ns : List Int}
    (KX : K.In s₁.heap) (hns : s₁.heap.Ns mainGlobals mg) (hb : s₁.heap.Ns builtinsNs mb) (hbb : ∀ x : Str, x ≠ "__name__" → mb x = bootBuiltins x) (hlim : s₁.heap.NoLimit) (hg : s₁.gens = #[])
    (ha : s₁.heap.get? a = some { cls := .type "list", data := .seq vs.toArray }) (hi : IntsAre vs ns) (hl : ns.length ≤ sizeLine) (hr : Room k callerA)
    (F : ∀ base : Heap, K.In base → base.Ns mainGlobals mg → FnOk P w K mg base CX k fa fd [x] sp) (hbind : ∀ (s : Shared) (u : Value), BindsTo s fd ⟨[u], []⟩ [(x, u)])
    (hsp : ∀ H : Hp, Only H → SqL K H a (ns.map V.int) → sp [.ref a] H (fun v _ => v = .bl true) fun _ _ _ => False)
    (hCX : ∀ H e s', CX [] H s₁ (fun _ _ _ => False) e s' → False) :
    codeAny (model P w) callerA (.call (.ref fa) ⟨[.ref a], []⟩) (fun r s' => r = .ok (.ret (.bool true)) ∧ OldK s₁.heap s'.heap ∧ s'.os = s₁.os ∧ AllBare s'.gens) s₁ := by
  have rv := vals_ints hi
  have lenV := hi.length
  -- from an abstract heap in which nothing but the script may be tracked
  have core : ∀ H : Hp, Only H → SqL K H a (ns.map V.int) → HOk P w H s₁.heap → (∀ b, H b ≠ none → b = a) → (H a ≠ none → K.lookup a = none) →
      codeAny (model P w) callerA (.call (.ref fa) ⟨[.ref a], []⟩) (fun r s' => r = .ok (.ret (.bool true)) ∧ OldK s₁.heap s'.heap ∧ s'.os = s₁.os ∧ AllBare s'.gens) s₁ := by
    intro H hO hS hok hA hK
    have base_of : ∀ {b : Addr} {o : Obj}, s₁.heap.get? b = some o → H b = none → (hidT s₁.heap H).get? b = some o := fun e n => hidT_get e n
    have noA : ∀ {b : Addr} {o : Obj} {es : Array DictEntry} {ep : Nat}, s₁.heap.get? b = some o → o.data = .dict es ep → H b = none := fun {b o es ep} e d => by
      cases q : H b with
      | none => rfl
      | some u =>
        have e' : b = a := hA b (by rw [q]; simp)
        subst e'
        rw [ha] at e; cases e
        have d' : Data.seq vs.toArray _ = Data.dict es ep := d
        cases d'
    have nsK : ∀ {b : Addr} {m : Str → Option Value}, s₁.heap.Ns b m → (hidT s₁.heap H).Ns b m := fun {b m} ⟨o, es, ep, e, d, r⟩ => ⟨o, es, ep, base_of e (noA e d), d, r⟩
    have hKb : K.In (hidT s₁.heap H) := fun b o e => base_of (KX b o e) (by
      cases q : H b with
      | none => rfl
      | some u =>
        have e' : b = a := hA b (by rw [q]; simp)
        subst e'
        rw [hK (by rw [q]; simp)] at e; cases e)
    have hM : Mod K mg (hidT s₁.heap H) := ⟨hKb, nsK hns, ⟨mb, nsK hb, hbb⟩, let ⟨mc, h1, h2⟩ := hlim; ⟨mc, nsK h1, h2⟩⟩
    have e0 : Env0 P w K mg (hidT s₁.heap H) callerA [] s₁ H := ⟨rfl, hM, fun b o e => of_hidT e, Nat.le_of_eq (hidT_size _ _), trivial, fun b hb => absurd (show b ∈ ([] : List Addr) from hb) (by simp), hok, .of_eq hg⟩
    refine codeAny_mono ((F _ hKb (nsK hns)).run callerA [] s₁ H ⟨[.ref a], []⟩ [.ref a] [.ref a] _ _ hr e0 (hbind s₁ (.ref a)) (.cons rfl .nil) (hsp H hO hS)) fun r s' h => ?_
    cases r with
    | error e => exact (hCX H e s' h).elim
    | ok fl =>
      cases fl with
      | next => exact False.elim h
      | brk => exact False.elim h
      | cont => exact False.elim h
      | ret u =>
        obtain ⟨v, H', os, bare, un, hok', r', q⟩ := h
        have q' : v = .bl true := q
        subst q'
        obtain rfl : u = Value.bool true := r'
        refine ⟨rfl, OldK.of_keep fun b o e => ?_, os, bare⟩
        cases q : H b with
        | none => exact un.keep b o e q (by intro z; exact absurd (show b ∈ ([] : List Addr) from z) (by simp)) (by simp)
        | some u =>
          rcases hO b with z | ⟨ob, xs, z⟩
          · rw [q] at z; cases z
          · have z2 := un.frzs b ob _ z
            obtain ⟨e1, _⟩ := hok b _ z
            obtain ⟨e2, _⟩ := hok' b _ z2
            rw [e] at e1; cases e1
            exact e2
  cases hk : K.lookup a with
  | some o =>
    -- the script is one of the module's own objects
    have e := KX a o hk
    rw [ha] at e
    cases e
    refine core (fun _ => none) (fun _ => .inl rfl) (.inr ⟨_, vs.toArray, _, hk, rfl, rfl, rfl, by rw [List.size_toArray, lenV]; exact hl, by simpa using rv⟩) (fun b u z => by have z' : (none : Option HO) = some u := z; cases z') (fun b z => absurd rfl z) fun z => absurd rfl z
  | none =>
    refine core (fun b => if b = a then some (.frz { cls := .type "list", data := .seq vs.toArray } (.lst (ns.map V.int))) else none) (fun b => ?_) (.inl (.inr ⟨{ cls := .type "list", data := .seq vs.toArray }, if_pos rfl⟩)) (fun b u z => ?_) (fun b z => ?_) fun _ => hk
    · by_cases hb : b = a
      · exact .inr ⟨_, _, if_pos hb⟩
      · exact .inl (if_neg hb)
    · by_cases hb : b = a
      · have z' := (if_pos hb).symm.trans z
        cases z'
        subst hb
        exact ⟨ha, by rw [List.length_map]; exact hl, vs, _, rv, ha⟩
      · have z' := (if_neg hb).symm.trans z
        cases z'
    · by_cases hb : b = a
      · exact hb
      · exact absurd (if_neg hb) z
end L2
namespace L2
open PySem PySem.Spec PyProof.Rows
noncomputable abbrev KOf {K : Frag} {h : Heap} (_ : K.In h) : Frag := K
theorem walk_of {l : PySem.W.OpenLaw} {n k : Nat} {q : Program} {loose : List Str} {XP : (Str → Option Value) → Heap → Prop} {YP : World → Heap → Prop} {d : DefRec} {K : Params → Frag} {CX : World → CXT} {sp : World → Sp} {x : Str}
    (hn : l.most = some n) (hn2 : n ≤ sizeLine) (hdf : d.params.defaults = []) (hr : Room k callerA)
    (hY : ∀ (w : World) (h : Heap), YP w h → (K w.params).In h)
    (F : ∀ (w : World) (mg : Str → Option Value) (fa : Addr) (h : Heap), (K w.params).In h → h.Ns mainGlobals mg → mg d.name = some (.ref fa) →
      ∃ fd : FuncData, (∀ (s : Shared) (u : Value), BindsTo s fd ⟨[u], []⟩ [(x, u)]) ∧
        ∀ base : Heap, (K w.params).In base → base.Ns mainGlobals mg → FnOk l.prog w (K w.params) mg base (CX w) k fa fd [x] (sp w))
    (hsp : ∀ (w : World) (H : Hp) (a : Addr) (ns : List Int), ns.length ≤ n → Only H → SqL (K w.params) H a (ns.map V.int) → sp w [.ref a] H (fun v _ => v = .bl true) fun _ _ _ => False)
    (hCX : ∀ (w : World) (H : Hp) (s : Shared) (e : Value) (s' : Shared), CX w [] H s (fun _ _ _ => False) e s' → False) :
    PySem.W.WalkO q loose XP YP l.row.toRowW d [] (fun f vs => PySem.call f vs) := by
  refine Att.attach_call hn hdf fun w s₀ s₁ mg mb fa o pm cd doc a vs ns G Y ho hd hcd hmg hobj hints hlen hg => ?_
  have KX := hY w _ Y
  obtain ⟨fd, hb, hF⟩ := F w mg fa _ KX G.T.g hmg
  exact law_call KX G.T.g G.T.b G.T.builtins G.T.nolimit hg hobj hints (Nat.le_trans hlen hn2) hr hF hb (fun H hO hS => hsp w H a ns hlen hO hS) fun H e s' => hCX w H s₁ e s'
theorem walk_ofK {l : PySem.W.OpenLaw} {n k : Nat} {q : Program} {loose : List Str} {XP : (Str → Option Value) → Heap → Prop} {YP : World → Heap → Prop} {d : DefRec} {K : Params → Frag} {CX : CXT} {sp : Frag → Sp} {x : Str}
    (hn : l.most = some n) (hn2 : n ≤ sizeLine) (hdf : d.params.defaults = []) (hr : Room k callerA)
    (hY : ∀ (w : World) (h : Heap), YP w h → (K w.params).In h)
    (F : ∀ (w : World) (mg : Str → Option Value) (fa : Addr) (h : Heap), (K w.params).In h → h.Ns mainGlobals mg → mg d.name = some (.ref fa) →
      ∃ fd : FuncData, (∀ (s : Shared) (u : Value), BindsTo s fd ⟨[u], []⟩ [(x, u)]) ∧
        ∀ base : Heap, (K w.params).In base → base.Ns mainGlobals mg → FnOk l.prog w (K w.params) mg base CX k fa fd [x] (sp (K w.params)))
    (hsp : ∀ (K : Frag) (H : Hp) (a : Addr) (ns : List Int), ns.length ≤ n → Only H → SqL K H a (ns.map V.int) → sp K [.ref a] H (fun v _ => v = .bl true) fun _ _ _ => False)
    (hCX : ∀ (H : Hp) (s : Shared) (e : Value) (s' : Shared), CX [] H s (fun _ _ _ => False) e s' → False) :
    PySem.W.WalkO q loose XP YP l.row.toRowW d [] (fun f vs => PySem.call f vs) :=
  walk_of (K := K) (CX := fun _ => CX) (sp := fun w => sp (K w.params)) hn hn2 hdf hr hY F (fun w H a ns h1 h2 h3 => hsp (K w.params) H a ns h1 h2 h3) fun _ H s e s' => hCX H s e s'
end L2
/- THE LAST THEOREM (shape; LID, My.* are yours):
   My.Adr: a structure of the addresses that your layer names (classes, functions); My.Txt K t: a structure (Prop) of the equations over K;
   My.txt_mk : {K} {implicit addresses ..} (e1 : nsIn K mainGlobals "law" = some (some (.ref f))) (e2 : K.lookup f = some ⟨oc, od, .func (fnOf "law" "law" params body scope dV kV doc pm an cdv ct), sl⟩) (e3 : codeIn K cdv "law" = true) .. : ∃ t, My.Txt K t
set_option maxRecDepth 100000 in
set_option maxHeartbeats 0 in
theorem PySem.Challenge.cw_LID_holds : PySem.Challenge.rw_LID.Holds := by
  w_on; o_law; k_head; (case hw => w_witness2)
  k_fill
  refine L2.walk_of (l := PySem.Challenge.rw_LID) (n := 63) (k := 40) (x := "script") (CX := fun w => ..) (sp := fun _ => My.sp_law) rfl (by decide) rfl ⟨rfl, by decide, by decide⟩ (fun w h Y => PySem.W.kIn_of Y) ?F ?S ?C
  case F =>
    intro w mg fa h KX G hmg
    have T : ∃ t, My.Txt (L2.KOf KX) t := by
      dsimp only [L2.KOf]                          -- K must stand as «<heap const> w.params» for k_is
      refine' My.txt_mk ?e1 ?e2 ?e3 ..
      (case e1 => PySem.W.k_is)                    -- in the order: a name -> its address -> its object -> its parts
      (case e2 => PySem.W.k_is)
      ..
    obtain ⟨t, T⟩ := T
    have e0 := hmg.symm.trans (PySem.W.mg_of KX G T.law)
    cases e0                                       -- fa is the law's own address
    exact ⟨_, fun s u => .of_eq rfl, fun base kb nb => My.law_fn T kb nb⟩     -- if «.of_eq rfl» comes too early: refine' ⟨_, ?b, fun base kb nb => My.law_fn T kb nb⟩; exact fun s u => .of_eq rfl
  case S => exact fun w H a ns hl hO hS => ..
  case C => exact ..
(the tactic k_is has no namespace: write k_is) -/
namespace L2
open PySem PySem.Spec PyProof.Rows
noncomputable def defArgs (s : Stmt) : Arguments := match s with
  | .FunctionDef _ a _ _ _ _ _ _ _ _ => a
  | _ => { posonlyargs := [], args := [], vararg := none, kwonlyargs := [], kw_defaults := [], kwarg := none, defaults := [] }
noncomputable def defBody (s : Stmt) : List Stmt := match s with
  | .FunctionDef _ _ b _ _ _ _ _ _ _ => b
  | _ => []
noncomputable def defScope (s : Stmt) : Scope := match s with
  | .FunctionDef _ _ _ _ _ _ sc _ _ _ => sc
  | _ => { kind := .function, names := [], isGenerator := false, isCoroutine := false }
noncomputable abbrev CX0 : CXT := fun _ _ _ _ _ _ => False
noncomputable abbrev E0 : XK := fun _ _ _ => False
theorem pass0 {X : Cx} : Passes CX0 X E0 := fun _ _ _ _ _ _ _ h => h.elim
structure Fun (K : Frag) (x qual : Str) (st : Stmt) (f : Addr) (fd : FuncData) : Prop where
  ex : ∃ (oc : Value) (od : Option Addr) (kV doc pm : Value) (an : Option Addr) (cdv ct : Value) (osl : Array (Option Value)),
    fd = PySem.W.fnOf x qual (defArgs st) (defBody st) (defScope st) .none kV doc pm an cdv ct ∧ K.lookup f = some ⟨oc, od, .func fd, osl⟩ ∧ PySem.W.codeIn K cdv qual = true
  kp : PySem.W.keepIn K (.ref f) = true
section
variable {P : Program} {w : World} {K : Frag} {mg : Str → Option Value} {base : Heap}
theorem Fun.ok {x qual : Str} {st : Stmt} {f : Addr} {fd : FuncData} {N ps : List Str} {k : Nat} {sp : Sp} (F : Fun K x qual st f fd) (S : FnScope N ps (defScope st)) (len : ∀ vs H Q E, sp vs H Q E → vs.length = ps.length)
    (hbody : ∀ (cdv : Value) (A : Around) (outer : List Env) (s : Shared) (H : Hp) (vs : List V) (Q : VK) (E : XK), Room k (A.deeper (envOfC qual (defScope st) s.heap.objs.size f cdv)) → sp vs H Q E →
      ∃ t, PSs (cxOf CX0 P w K mg base N qual (defScope st) f cdv A outer s H E).nox (defBody st) t ∧ t { nx := fun _ H' => Q .non H', rt := Q } (start N vs) H) : FnOk P w K mg base CX0 (k + 1) f fd ps sp := by
  obtain ⟨oc, od, kV, doc, pm, an, cdv, ct, osl, rfl, lk, hcd⟩ := F.ex
  refine fn_of lk hcd S len fun A outer s H vs Q E hr hsp => ?_
  obtain ⟨t, h, q⟩ := hbody cdv A outer s H vs Q E hr hsp
  exact ⟨t, h.nox, q⟩
theorem Fun.binds {x qual : Str} {st : Stmt} {f : Addr} {fd : FuncData} {ps : List Str} (F : Fun K x qual st f fd)
    (h : ∀ (kV doc pm : Value) (an : Option Addr) (cdv ct : Value) (us : List Value), us.length = ps.length → bindArgs (PySem.W.fnOf x qual (defArgs st) (defBody st) (defScope st) .none kV doc pm an cdv ct) ⟨us, []⟩ = pure (ps.zip us)) : Binds K fd ps [] := by
  obtain ⟨oc, od, kV, doc, pm, an, cdv, ct, osl, rfl, lk, hcd⟩ := F.ex
  exact .all (h kV doc pm an cdv ct)
theorem fun_mk {x qual : Str} {st : Stmt} {f : Addr} {oc : Value} {od an : Option Addr} {osl : Array (Option Value)} {kV doc pm cdv ct : Value} (l : K.lookup f = some ⟨oc, od, .func (PySem.W.fnOf x qual (defArgs st) (defBody st) (defScope st) .none kV doc pm an cdv ct), osl⟩)
    (c : PySem.W.codeIn K cdv qual = true) (k : PySem.W.keepIn K (.ref f) = true) : Fun K x qual st f (PySem.W.fnOf x qual (defArgs st) (defBody st) (defScope st) .none kV doc pm an cdv ct) := ⟨⟨oc, od, kV, doc, pm, an, cdv, ct, osl, rfl, l, c⟩, k⟩
end
section
variable {X : Cx}
end
end L2
namespace L2
open PySem PySem.Spec PyProof.Rows
section
variable {κ : Type} [DecidableEq κ]
noncomputable def valV (kvs : List (κ × V)) (k : κ) : Option V := (kvs.find? fun kv => decide (kv.1 = k)).map (·.2)
noncomputable def putK (kvs : List (κ × V)) (k : κ) (v : V) : List (κ × V) :=
  if (kvs.any fun kv => decide (kv.1 = k)) = true then kvs.map (fun kv => if kv.1 = k then (kv.1, v) else kv) else kvs ++ [(k, v)]
theorem valV_pos {p : κ × V} {r : List (κ × V)} {k : κ} (e : p.1 = k) : valV (p :: r) k = some p.2 := by simp [valV, List.find?_cons, e]
theorem valV_neg {p : κ × V} {r : List (κ × V)} {k : κ} (e : ¬ p.1 = k) : valV (p :: r) k = valV r k := by simp [valV, List.find?_cons, e]
theorem valV_any (k : κ) : ∀ kvs : List (κ × V), (kvs.any fun kv => decide (kv.1 = k)) = (valV kvs k).isSome
  | [] => rfl
  | p :: r => by
    rw [List.any_cons]
    by_cases e : p.1 = k
    · simp only [valV_pos e, decide_eq_true e, Bool.true_or, Option.isSome_some]
    · rw [valV_neg e, decide_eq_false e, Bool.false_or]; exact valV_any k r
theorem length_putK (kvs : List (κ × V)) (k : κ) (v : V) : (putK kvs k v).length ≤ kvs.length + 1 := by
  unfold putK
  split
  · rw [List.length_map]; omega
  · rw [List.length_append, List.length_cons, List.length_nil]; omega
theorem RelO.isSome_eq {o : Option V} {u : Option Value} (r : RelO o u) : o.isSome = u.isSome := by
  cases o with
  | none => cases u with
    | none => rfl
    | some _ => exact (show False from r).elim
  | some _ => cases u with
    | none => exact (show False from r).elim
    | some _ => rfl
theorem RelO.getD {o : Option V} {u : Option Value} {d : V} {d' : Value} (r : RelO o u) (rd : RelV d d') : RelV (o.getD d) (u.getD d') := by
  cases o with
  | none => cases u with
    | none => exact rd
    | some _ => exact (show False from r).elim
  | some _ => cases u with
    | none => exact (show False from r).elim
    | some _ => exact r
theorem KV.val {kvs : List (κ × V)} {vs : List (κ × Value)} (r : KV kvs vs) (k : κ) : RelO (valV kvs k) (valueAt vs k) := by
  unfold KV at r
  induction r with
  | nil => exact True.intro
  | @cons p q ps qs h t ih =>
    obtain ⟨h1, h2⟩ := h
    by_cases e : p.1 = k
    · have e' : q.1 = k := h1.symm.trans e
      have b : valueAt (q :: qs) k = some q.2 := by simp [valueAt, List.find?_cons, e']
      rw [valV_pos e, b]; exact h2
    · have e' : ¬ q.1 = k := fun z => e (h1.trans z)
      have b : valueAt (q :: qs) k = valueAt qs k := by simp [valueAt, List.find?_cons, e']
      rw [valV_neg e, b]; exact ih
theorem KV.any {kvs : List (κ × V)} {vs : List (κ × Value)} (r : KV kvs vs) (k : κ) : (kvs.any fun kv => decide (kv.1 = k)) = vs.any fun kv => decide (kv.1 = k) := by
  unfold KV at r
  induction r with
  | nil => rfl
  | cons h t ih => rw [List.any_cons, List.any_cons, ih, h.1]
theorem KV.repl {kvs : List (κ × V)} {vs : List (κ × Value)} (r : KV kvs vs) (k : κ) {y : V} {u : Value} (ry : RelV y u) :
    KV (kvs.map fun kv => if kv.1 = k then (kv.1, y) else kv) (vs.map fun kv => if kv.1 = k then (kv.1, u) else kv) := by
  unfold KV at r ⊢
  induction r with
  | nil => exact .nil
  | @cons p q ps qs h t ih =>
    rw [List.map_cons, List.map_cons]
    refine .cons ?_ ih
    obtain ⟨h1, h2⟩ := h
    by_cases e : p.1 = k
    · rw [if_pos e, if_pos (h1.symm.trans e)]; exact ⟨h1, ry⟩
    · rw [if_neg e, if_neg (fun z => e (h1.trans z))]; exact ⟨h1, h2⟩
theorem KV.put {kvs : List (κ × V)} {vs : List (κ × Value)} (r : KV kvs vs) (k : κ) {y : V} {u : Value} (ry : RelV y u) : KV (putK kvs k y) (stored vs k u) := by
  unfold putK stored
  rw [r.any k]
  by_cases e : (vs.any fun kv => decide (kv.1 = k)) = true
  · rw [if_pos e, if_pos e]; exact r.repl k ry
  · rw [if_neg e, if_neg e]; exact Paired.snoc r ⟨rfl, ry⟩
theorem KV.length {kvs : List (κ × V)} {vs : List (κ × Value)} (r : KV kvs vs) : kvs.length = vs.length := Paired.length r
end
theorem kV_is {P : Program} {w : World} {k : Key} {u : Value} (r : RelV (kV k) u) : (mixKind P w).is k u = true := by
  cases k with
  | inl i => obtain ⟨t, e⟩ := (show ∃ t, u = Value.int i t from r); subst e; exact mixKind_int P w i t
  | inr x => obtain ⟨t, e⟩ := (show ∃ t, u = Value.str x t from r); subst e; exact mixKind_str P w x t
theorem items_are {P : Program} {w : World} : ∀ {ks : List Key} {us : List Value}, Vals (ks.map kV) us → ItemsAre (mixKind P w) ks us
  | [], _, r => by rw [List.map_nil] at r; cases r; exact .nil
  | k :: ks, _, r => by
    rw [List.map_cons] at r
    cases r with
    | cons h t => exact .cons (kV_is h) (items_are t)
abbrev KT (H : Hp) : List (List Key × V) → List (List Key × Addr × Value) → Prop := Paired fun p q => p.1 = q.1 ∧ H q.2.1 = some (.tup (p.1.map kV)) ∧ RelV p.2 q.2.2
theorem KT.val {H : Hp} {kvs : List (List Key × V)} {xs : List (List Key × Addr × Value)} (r : KT H kvs xs) (k : List Key) : RelO (valV kvs k) ((atKey xs k).map (·.2)) := by
  induction r with
  | nil => exact True.intro
  | @cons p q ps qs h t ih =>
    obtain ⟨h1, _, h2⟩ := h
    by_cases e : p.1 = k
    · have e' : q.1 = k := h1.symm.trans e
      have b : atKey (q :: qs) k = some q.2 := by simp [atKey, List.find?_cons, e']
      rw [valV_pos e, b]; exact h2
    · have e' : ¬ q.1 = k := fun z => e (h1.trans z)
      have b : atKey (q :: qs) k = atKey qs k := by simp [atKey, List.find?_cons, e']
      rw [valV_neg e, b]; exact ih
theorem KT.repl {H : Hp} {kvs : List (List Key × V)} {xs : List (List Key × Addr × Value)} (r : KT H kvs xs) (k : List Key) {y : V} {u : Value} (ry : RelV y u) :
    KT H (kvs.map fun kv => if kv.1 = k then (kv.1, y) else kv) (xs.map (putAt k u)) := by
  induction r with
  | nil => exact .nil
  | @cons p q ps qs h t ih =>
    rw [List.map_cons, List.map_cons]
    refine .cons ?_ ih
    obtain ⟨h1, h2, h3⟩ := h
    unfold putAt
    by_cases e : p.1 = k
    · rw [if_pos e, if_pos (h1.symm.trans e)]; exact ⟨h1, h2, ry⟩
    · rw [if_neg e, if_neg (fun z => e (h1.trans z))]; exact ⟨h1, h2, h3⟩
theorem KT.put {H : Hp} {kvs : List (List Key × V)} {xs : List (List Key × Addr × Value)} (r : KT H kvs xs) (k : List Key) {b : Addr} {y : V} {u : Value} (hb : H b = some (.tup (k.map kV))) (ry : RelV y u) :
    KT H (putK kvs k y) (storedH xs k b u) := by
  have e : (kvs.any fun kv => decide (kv.1 = k)) = (atKey xs k).isSome := by
    rw [valV_any, (r.val k).isSome_eq, Option.isSome_map]
  unfold putK storedH
  rw [e]
  by_cases q : (atKey xs k).isSome = true
  · rw [if_pos q, if_pos q]; exact r.repl k ry
  · rw [if_neg q, if_neg q]; exact Paired.snoc r ⟨rfl, hb, ry⟩
theorem KT.keeps {H H' : Hp} {kvs : List (List Key × V)} {xs : List (List Key × Addr × Value)} (r : KT H kvs xs) (ht : ∀ b ys, H b = some (.tup ys) → H' b = some (.tup ys)) : KT H' kvs xs :=
  Paired.mapP r fun _ _ z => ⟨z.1, ht _ _ z.2.1, z.2.2⟩
section
variable {P : Program} {w : World} {H : Hp} {h : Heap} {a : Addr}
theorem rd_of {u : HO} (ok : HOk P w H h) (e : Rd H a u) : ObjOk P w H h a u := e.ok ok
theorem dk_rd {kvs : List (Key × V)} (ok : HOk P w H h) (e : Rd H a (.dK kvs)) : kvs.length ≤ sizeLine ∧ (a == sysModules) = false ∧ ∃ vs, KV kvs vs ∧ h.DictOf (mixKind P w) a vs :=
  show ObjOk P w H h a (.dK kvs) from rd_of ok e
theorem dk_of {kvs : List (Key × V)} (ok : HOk P w H h) (e : H a = some (.dK kvs)) : kvs.length ≤ sizeLine ∧ (a == sysModules) = false ∧ ∃ vs, KV kvs vs ∧ h.DictOf (mixKind P w) a vs := dk_rd ok (.inl e)
theorem key_of {ks : List Key} (ok : HOk P w H h) (e : H a = some (.tup (ks.map kV))) : (tupleKind (mixKind P w)).is h ks a := by
  obtain ⟨_, its, r, o, h1, h2, n, h3⟩ := (show ObjOk P w H h a (.tup (ks.map kV)) from ok a _ e)
  exact ⟨o, its.toArray, n, h1, h2, h3, by simpa using items_are r⟩
theorem dt_rd {kvs : List (List Key × V)} (ok : HOk P w H h) (e : Rd H a (.dT kvs)) : kvs.length ≤ sizeLine ∧ (a == sysModules) = false ∧
    ∃ xs, KT H kvs xs ∧ h.DictOfH (tupleKind (mixKind P w)) a xs := by
  obtain ⟨z, y, xs, r, o, es, ep, h1, h2, h3, h4, h5⟩ := (show ObjOk P w H h a (.dT kvs) from rd_of ok e)
  refine ⟨z, y, xs, r, o, es, ep, h1, h2, h3, h4, fun x hx => ?_, h5⟩
  have all : ∀ {l : List (List Key × V)} {m : List (List Key × Addr × Value)}, KT H l m → ∀ x ∈ m, (tupleKind (mixKind P w)).is h x.1 x.2.1 := by
    intro l m q
    induction q with
    | nil => intro x hx; exact nomatch hx
    | @cons p q ps qs hq t ih =>
      intro x hx
      rcases List.mem_cons.mp hx with e | hx
      · subst e
        exact key_of ok (by rw [← hq.1]; exact hq.2.1)
      · exact ih x hx
  exact all r x hx
theorem dt_of {kvs : List (List Key × V)} (ok : HOk P w H h) (e : H a = some (.dT kvs)) : kvs.length ≤ sizeLine ∧ (a == sysModules) = false ∧
    ∃ xs, KT H kvs xs ∧ h.DictOfH (tupleKind (mixKind P w)) a xs := dt_rd ok (.inl e)
end
def DGet (H : Hp) (a : Addr) (y : V) (r : Option V) : Prop :=
  (∃ kvs k, Rd H a (.dK kvs) ∧ y = kV k ∧ r = valV kvs k) ∨ ∃ kvs k b, Rd H a (.dT kvs) ∧ y = .ref b ∧ H b = some (.tup (k.map kV)) ∧ r = valV kvs k
def DPut (H : Hp) (a : Addr) (y v : V) (H' : Hp) : Prop :=
  (∃ kvs k, H a = some (.dK kvs) ∧ y = kV k ∧ kvs.length < sizeLine ∧ H' = upd H a (.dK (putK kvs k v))) ∨
  ∃ kvs k b, H a = some (.dT kvs) ∧ y = .ref b ∧ H b = some (.tup (k.map kV)) ∧ kvs.length < sizeLine ∧ H' = upd H a (.dT (putK kvs k v))
theorem DGet.t {H : Hp} {a b : Addr} {kvs : List (List Key × V)} {k : List Key} (e : H a = some (.dT kvs)) (eb : H b = some (.tup (k.map kV))) : DGet H a (.ref b) (valV kvs k) := .inr ⟨kvs, k, b, .inl e, rfl, eb, rfl⟩
theorem DPut.k {H : Hp} {a : Addr} {kvs : List (Key × V)} {k : Key} {v : V} (e : H a = some (.dK kvs)) (hl : kvs.length < sizeLine) : DPut H a (kV k) v (upd H a (.dK (putK kvs k v))) := .inl ⟨kvs, k, e, rfl, hl, rfl⟩
section
variable {X : Cx} {pins : List (Addr × Obj)} {σ : St} {H : Hp} {s : Shared} {a : Addr} {y v : V} {u r : Value} {o : Option V} {A : Around} {E : Value → Shared → Prop}
theorem Inv.big (I : Inv X pins σ H s) : sysModules < s.heap.objs.size := by
  have h : mainGlobals < s.heap.objs.size := (I.mod.glob.keeps I.bk).lt
  exact Nat.lt_trans (by decide) h
theorem d_write {h' : Heap} {t' : Nat} {ob : HO} (I : Inv X pins σ H s) (mu : Mut (H a)) (hs : Heap.SameBut a s.heap h') (he : ∃ q, h'.get? a = some q) (new : ObjOk X.prog X.w (upd H a ob) h' a ob) :
    Inv X pins σ (upd H a ob) { s with heap := h', toks := t' } :=
  I.write (x := a) (e := a) mu (.inl rfl) (fun b q hb z => (hs.2 b hb).trans z) he new
theorem dk_new {P : Program} {w : World} {H' : Hp} {h' : Heap} {kvs : List (Key × V)} {vs : List (Key × Value)} (z : kvs.length ≤ sizeLine) (hd : (a == sysModules) = false) (rel : KV kvs vs) (dd : h'.DictOf (mixKind P w) a vs) :
    ObjOk P w H' h' a (.dK kvs) := ⟨z, hd, vs, rel, dd⟩
theorem d_setItem {H' : Hp} {Q : Unit → Shared → Prop} (hu : A.units + 1 < cLine) (I : Inv X pins σ H s) (g : DPut H a y v H') (ry : RelV y u) (rv : RelV v r) (h : ∀ s', Inv X pins σ H' s' → Q () s') :
    wpAny (model X.prog X.w) A (setItem (.ref a) u r) Q E s := by
  rcases g with ⟨kvs, k, e, ey, l, eH⟩ | ⟨kvs, k, b, e, ey, eb, l, eH⟩
  · subst ey eH
    obtain ⟨z, hd, vs, rel, dd⟩ := dk_of I.hok e
    have hz : vs.length ≤ sizeLine := by rw [← rel.length]; exact z
    have hl : (putK kvs k v).length ≤ sizeLine := by have := length_putK kvs k v; omega
    refine wpAny_setItem_pairs (hsz := hz) (kV_is ry) dd fun h' dd' hs => h _ ?_
    have he : ∃ q, h'.get? a = some q := let ⟨q, _, _, hq, _⟩ := dd'; ⟨q, hq⟩
    exact d_write I (by rw [e]; exact True.intro) hs he (dk_new hl hd (rel.put k rv) dd')
  · subst ey eH
    cases (show u = Value.ref b from ry)
    obtain ⟨z, hd, xs, rel, dd⟩ := dt_of I.hok e
    have hz : xs.length ≤ sizeLine := by rw [← Paired.length rel]; exact z
    have hl : (putK kvs k v).length ≤ sizeLine := by have := length_putK kvs k v; omega
    refine wpAny_setItem_heap (hsz := hz) (tupleKind_room_in1 hu) (key_of I.hok eb) dd fun h' dd' hs => h _ ?_
    obtain ⟨q, es, ep, hq, h2, h3, h4, _, h5⟩ := dd'
    refine d_write I (by rw [e]; exact True.intro) hs ⟨q, hq⟩ ⟨hl, hd, _, (rel.put k eb rv).keeps fun c ys ec => ?_, q, es, ep, hq, h2, h3, h4, h5⟩
    rw [upd_ne (ne_of ec e (fun z => nomatch z))]
    exact ec
end
section
variable {X : Cx} {pins : List (Addr × Obj)} {σ : St} {H : Hp} {s : Shared} {a : Addr} {kvs : List (Key × V)} {k : Key} {u : Value} {A : Around} {E : Value → Shared → Prop}
end
section
variable {X : Cx} {o i e value : Expr} {pos pos' tpos : Pos} {td ty tv : TE}
end
theorem dt_empty {P : Program} {w : World} {H : Hp} (h : Heap) (hb : sysModules < h.objs.size) : ObjOk P w H (h.push { cls := .type "dict", data := .dict #[] }) h.objs.size (.dT []) :=
  ⟨Nat.zero_le _, beq_eq_false_iff_ne.mpr (Ne.symm (Nat.ne_of_lt hb)), [], .nil, _, #[], 0, Heap.get?_push_size _ rfl, ⟨rfl, rfl, rfl⟩, rfl, rfl, List.nodup_nil⟩
section
variable {X : Cx} {pos : Pos}
end
structure M2 (X : Cx) (o : Expr) (m : Str) (apos : Pos) (e f : Expr) (cpos : Pos) : Prop where
  base : attributeBase o m X.env (eval o X.env) = eval o X.env
  few : ((backTo cpos (starEach [e, f] X.env)).all (fun x => !x.1) && (backToKw cpos (keywordEach [] X.env)).all (fun x => x.1.isSome)
    && decide (([e, f] : List Expr).length + ([] : List Keyword).length + (if ([] : List Keyword).isEmpty then 0 else 1) < 30)) = true
  line : (apos.endLine == cpos.line) = true
  trees : backTo cpos (starEach [e, f] X.env) = [(false, eval e X.env), (false, eval f X.env)]
def IsD (H : Hp) (a : Addr) : Prop := (∃ kvs, Rd H a (.dK kvs)) ∨ ∃ kvs, Rd H a (.dT kvs)
theorem isD_at {X : Cx} {pins : List (Addr × Obj)} {σ : St} {H : Hp} {s : Shared} {a : Addr} (I : Inv X pins σ H s) (d : IsD H a) :
    s.TypeIs (.ref a) "dict" ∧ (∀ b, Value.ref a = .ref b → ∃ ob, s.heap.get? b = some ob ∧ ob.dict = none) ∧ (a == sysModules) = false := by
  rcases d with ⟨kvs, e⟩ | ⟨kvs, e⟩
  · obtain ⟨_, hd, vs, _, dd⟩ := dk_rd I.hok e
    refine ⟨dd.typeIs, fun b q => ?_, hd⟩
    cases q
    obtain ⟨ob, _, _, h1, h2, _⟩ := dd
    exact ⟨ob, h1, h2.2.1⟩
  · obtain ⟨_, hd, xs, _, dd⟩ := dt_rd I.hok e
    refine ⟨dd.typeIs, fun b q => ?_, hd⟩
    cases q
    obtain ⟨ob, _, _, h1, h2, _⟩ := dd
    exact ⟨ob, h1, h2.2.1⟩
section
variable {X : Cx} {pins : List (Addr × Obj)} {σ : St} {H : Hp} {s : Shared} {a : Addr} {y d : V} {u r : Value} {o : Option V} {A : Around} {E : Value → Shared → Prop}
theorem d_get2 {Q : Value → Shared → Prop} (hu : A.units + 1 < cLine) (I : Inv X pins σ H s) (g : DGet H a y o) (ry : RelV y u) (rd : RelV d r) (h : ∀ w' s', Inv X pins σ H s' → RelV (o.getD d) w' → Q w' s') :
    wpAny (model X.prog X.w) A (call (.builtin "dict.get") [.ref a, u, r]) Q E s := by
  rcases g with ⟨kvs, k, e, ey, l⟩ | ⟨kvs, k, b, e, ey, eb, l⟩
  · subst ey
    obtain ⟨z, hd, vs, rel, dd⟩ := dk_rd I.hok e
    refine call_meetsIn PySem.F.slot_dict_get dd.typeIs PySem.F.entry_dict_get (PySem.F.args_dict_get_3 _ _ _) (meets_dict_get_default (mixKind X.prog X.w) a (kV_is ry) hd r) ⟨_, dd.mapOf, h _ _ (I.tok _) ?_⟩
    rw [l]
    exact (rel.val k).getD rd
  · subst ey
    cases (show u = Value.ref b from ry)
    obtain ⟨z, hd, xs, rel, dd⟩ := dt_rd I.hok e
    refine call_meetsIn PySem.F.slot_dict_get dd.typeIs PySem.F.entry_dict_get (PySem.F.args_dict_get_3 _ _ _) (meetsH_dict_get_default (tupleKind (mixKind X.prog X.w)) a b hd r) ⟨tupleKind_room_in1 hu, k, xs, key_of I.hok eb, dd, h _ _ (I.tok _) ?_⟩
    rw [l]
    exact (rel.val k).getD rd
end
noncomputable def tDGet2 (td ty tx : TE) : TE := fun σ H Q => td σ H fun x H1 => ∃ a, x = .ref a ∧ IsD H1 a ∧ ty σ H1 fun y H2 => tx σ H2 fun z H3 => ∃ o, DGet H3 a y o ∧ Q (o.getD z) H3
section
variable {X : Cx} {o e f : Expr} {apos cpos : Pos} {td ty tx : TE}
theorem pe_dget2 (hu : X.A.units + 1 < cLine) (ho : PE X o td) (he : PE X e ty) (hf : PE X f tx) (m : M2 X o "get" apos e f cpos) : PE X (.Call (.Attribute o "get" apos) [e, f] [] cpos) (tDGet2 td ty tx) := by
  intro pins s σ H Q I h
  refine wpAny_Call_method m.base m.few m.line PySem.F.plainAttrs_dict PySem.F.slot_dict_get PySem.F.type_dict_get (thn (ho pins s σ H _ I h) fun u s1 ⟨x, H1, I1, rx, a, ex, d, q1⟩ => ?_)
  subst ex
  obtain rfl : u = Value.ref a := rx
  obtain ⟨t1, t2, _⟩ := isD_at I1 d
  refine ⟨t1, t2, ?_⟩
  rw [m.trees]
  refine Calls.callWith_builtin rfl (Calls.evalArgs_plain (Calls.spliced_cons (thn (he pins s1 σ H1 _ I1 q1) fun iv s2 ⟨y, H2, I2, ry, q2⟩ =>
    Calls.spliced_cons (thn (hf pins s2 σ H2 _ I2 q2) fun fv s3 ⟨z, H3, I3, rz, ov, g, q3⟩ => Calls.spliced_nil ?_))))
  exact d_get2 hu I3 g ry rz fun w' s4 I4 rw' => ⟨_, H3, I4, rw', q3⟩
end
section
variable {X : Cx} {pins : List (Addr × Obj)} {σ : St} {H : Hp} {s : Shared} {a : Addr} {kvs : List (Key × V)} {A : Around} {E : Value → Shared → Prop}
end
section
variable {X : Cx} {pins : List (Addr × Obj)} {σ : St} {H : Hp} {s : Shared} {a : Addr} {y : V} {u : Value} {A : Around} {E : Value → Shared → Prop}
end
end L2
set_option maxHeartbeats 40000000
set_option autoImplicit false
namespace PF
open PySem PySem.Spec PyProof.Rows L2
theorem keys_no_list : typeLookup (.type "list") "keys" = pure none := by rw [typeLookup_type, builtinLookup_eq_fast]; kernel_rfl
set_option maxRecDepth 8000 in
theorem gaq_list {prog : Program} {w : World} {A : Around} {E : Value → Shared → Prop} {s : Shared} {a : Addr} {o : Obj} {xs : Array Value} {k : Nat} {name : Str} {Q : Option Value → Shared → Prop}
    (hx : s.heap.get? a = some o) (hc : o.cls = .type "list") (hdat : o.data = .seq xs k) (hd : o.dict = none) (hmiss : typeLookup (.type "list") name = pure none) (hname : (["__module__", "__name__", "__qualname__", "__doc__", "__annotations__"] : List Str).contains name = false) (hA : A.handled = none)
    (h : ∀ h' tk e, Heap.NewExcOf s.heap h' e "AttributeError" → Q none { s with heap := h', toks := tk }) (hsz : name.length + 100 ≤ sizeLine := by size_fits) :
    wpAny (model prog w) A (getAttr? (.ref a) name) Q E s := by
  obtain ⟨c, dct, dat, sl⟩ := o
  simp only at hc hdat hd
  subst hc hdat hd
  obtain ⟨hp, g, d, tk, os⟩ := s
  have hT : ∀ tk', (⟨hp, g, d, tk', os⟩ : Shared).TypeIs (.ref a) "list" := fun _ => ⟨_, hx, rfl⟩
  have f1 := sub_AttributeError
  have f3 := F.slot_list_getattribute.lookup
  have f4 := F.slot_list_getattribute.bind (.ref a)
  have f5 := am_list_getattr_none
  unfold getAttr? getAttrBy? getAttrBy
  repeat (any_goals (first | assumption | exact hT _ | ((with_reducible show wpAny _ _ (call (Value.builtin "list.__getattribute__") _ _) _ _ _); refine call_meets F.slot_list_getattribute (hT _) am_entry_list_getattribute (F.args_list_getattribute_2 _ _) (meets_getattribute_miss_list a xs k sl name _ hmiss hname hsz) ⟨hx, hA, fun h' tk' e hx' => ?_⟩) | wp_step))
  obtain ⟨t', u', he⟩ := hx'.there
  show wpAny _ _ (getattributeRaised _ _ _ _ _ _ _) _ _ _
  unfold getattributeRaised
  repeat (any_goals (first | assumption | wp_step))
  exact h _ _ _ hx'.of
theorem plain_update_loop : plainId "dict.update.loop" = true := by decide +kernel
theorem entry_update_loop : entryFor table "dict.update.loop" = some Builtin.«dict.update.loop» := entryFor_of_fast (by kernel_rfl)
section
variable {X : Cx} {pins : List (Addr × Obj)} {σ : L2.St} {H : Hp} {s : Shared} {A : Around} {E : Value → Shared → Prop}
theorem sqL_upd {Hn : Hp} {K : Frag} {a d : Addr} {o : HO} {xs : List V} (hn : Hn d = none) (h : SqL K Hn a xs) : SqL K (upd Hn d o) a xs := by
  rcases h with h | h
  · rcases h with h | ⟨q, h⟩
    · exact .inl (.inl (by rw [upd_ne (ne_of_none h hn)]; exact h))
    · exact .inl (.inr ⟨q, by rw [upd_ne (ne_of_none h hn)]; exact h⟩)
  · exact .inr h
theorem sqT_upd {Hn : Hp} {K : Frag} {a d : Addr} {o : HO} {xs : List V} (hn : Hn d = none) (h : SqT K Hn a xs) : SqT K (upd Hn d o) a xs := by
  rcases h with h | h
  · rcases h with h | ⟨q, h⟩
    · exact .inl (.inl (by rw [upd_ne (ne_of_none h hn)]; exact h))
    · exact .inl (.inr ⟨q, by rw [upd_ne (ne_of_none h hn)]; exact h⟩)
  · exact .inr h
end
end PF
namespace PF
open PySem PySem.Spec PyProof.Rows L2
section
variable {X : Cx} {pins : List (Addr × Obj)} {σ : L2.St} {H : Hp} {s : Shared} {A : Around} {E : Value → Shared → Prop}
theorem raw_dict_len {prog : Program} {w : World} (d : Addr) (hd : (d == sysModules) = false) :
    MeetsIn prog w (Builtin.«dict.__len__» ⟨[.ref d], []⟩) (fun _ R s => ∃ (o : Obj) (es : Array DictEntry) (ep : Nat), s.heap.get? d = some o ∧ o.data = .dict es ep ∧ R (.ok (.ret (.int es.size s.toks))) { s with toks := s.toks + 1 }) :=
  .of_wp fun A R s ⟨o, es, ep, ho, hdat, h⟩ => by
    show wpAny _ _ (dictSize d >>= _) _ _ s
    unfold dictSize
    refine wpAny_bind (wpAny_bind (wpAny_dictEntries ho hdat (wpAny_pure ?_)))
    show wpAny _ _ (Builtin.Dict.pendingCount d >>= _) _ _ s
    refine wpAny_bind (wpAny_pendingCount_other hd ?_)
    refine wpAny_ret_mkInt ?_
    rw [Nat.add_zero]; exact h
theorem raw_len_dict {prog : Program} {w : World} {d : Addr} {o : Obj} {es : Array DictEntry} {ep : Nat} {Q : Value → Shared → Prop} (hd : (d == sysModules) = false) (ho : s.heap.get? d = some o) (hc : o.cls = .type "dict") (hdat : o.data = .dict es ep) (hfit : (es.size : Int) < 2 ^ 63)
    (h : Q (.int es.size (s.toks + 1)) { s with toks := s.toks + 1 + 1 }) : wpAny (model prog w) A (call (.builtin "len") [.ref d]) Q E s := by
  refine Calls.call_function_entry kind_len plain_len entry_len (args_len1 _) ?_
  have hT : s.TypeIs (.ref d) "dict" := ⟨o, ho, hc⟩
  unfold Builtin.«len»
  refine wpAny_bind (m := oneArg "len" _) (wpAny_pure ?_)
  refine wpAny_bind (m := callSpecial? (.ref d) (Str.ofString "__len__")) (wpAny_callSpecial?_slot (name := Str.ofString "__len__") hT PySem.F.slot_dict_len
    (call_meetsIn PySem.F.slot_dict_len hT PySem.F.entry_dict_len (PySem.F.args_dict_len_1 _) (raw_dict_len d hd) ⟨o, es, ep, ho, hdat, ?_⟩))
  show wpAny _ _ _ _ _ { s with toks := s.toks + 1 }
  refine wpAny_bind (wpAny_holding (wpAny_pure ?_))
  refine wpAny_bind (wpAny_letGo ?_)
  show wpAny _ _ (if ((es.size : Nat) : Int) < 0 then _ else _) _ _ _
  rw [if_neg (by omega)]
  show wpAny _ _ (if ((es.size : Nat) : Int) ≥ 2 ^ 63 then _ else _) _ _ _
  rw [if_neg (by omega)]
  exact wpAny_bind (wpAny_mkInt (wpAny_pure ⟨_, rfl, h⟩))
theorem len_dt {d : Addr} {us : List (List Key × V)} {Q : Value → Shared → Prop} (I : Inv X pins σ H s) (e : H d = some (.dT us)) (h : ∀ t s', Inv X pins σ H s' → Q (.int us.length t) s') : wpAny (model X.prog X.w) A (call (.builtin "len") [.ref d]) Q E s := by
  obtain ⟨z, hd, xs, rel, o, es, ep, ho, hx, hdat, hes, _⟩ := (show ObjOk X.prog X.w H s.heap d (.dT us) from I.hok d _ e)
  have hl : es.size = us.length := by
    have := congrArg List.length hes
    rw [Array.length_toList, List.length_map, ← Paired.length rel] at this
    exact this
  rw [sizeLine_eq] at z
  refine raw_len_dict hd ho hx.1 hdat (by omega) ?_
  rw [hl]
  exact h _ _ (I.tok _)
theorem sorted_ok {a : Addr} {is js : List Int} {Q : VK} (I : Inv X pins σ H s) (hq : SqL X.K H a (is.map V.int)) (hz : is.length < 64) (q : ∀ p, H p = none → Q (.ref p) (upd H p (.lst (js.map V.int)))) (hp : js.Perm is) (hs : js.Pairwise (· ≤ ·)) :
    wpAny (model X.prog X.w) X.A (call (.builtin "sorted") [.ref a]) (EP X pins σ Q) X.xe s := by
  obtain ⟨its, rv, pl, _⟩ := I.list hq
  have hlen := rv.length
  rw [List.length_map] at hlen
  refine sorted_ints pl.isList (intsAre_of rv) (by omega) (fun out ns' a1 a2 a3 => ?_)
  have e : ns' = js := PySem.W.ksm_same (a2.trans hp.symm) a3 hs
  subst e
  obtain ⟨ep, he⟩ := sortedAll_at s.heap its out
  have hp1 := I.hok.fresh (Nat.le_succ s.heap.objs.size)
  refine ⟨.ref _, _, I.laid (a := s.heap.objs.size + 1) (o := .lst (ns'.map V.int)) (t' := s.toks) (fun b o e => sortedAll_old e) (Nat.le_succ _) ?_, rfl, q _ hp1⟩
  refine ⟨?_, out.toList, ep, vals_ints a1, by simpa [seqObj] using he⟩
  have := a2.length_eq
  rw [List.length_map, sizeLine_eq]; omega
theorem index_ok {a : Addr} {is : List Int} {i : Int} {t : Tok} {j : Nat} {Q : Value → Shared → Prop} (I : Inv X pins σ H s) (hq : SqL X.K H a (is.map V.int)) (h1 : is[j]? = some i) (h2 : ∀ m x, m < j → is[m]? = some x → x ≠ i)
    (h : ∀ t' s', Inv X pins σ H s' → Q (.int (j : Int) t') s') : wpAny (model X.prog X.w) A (call (.builtin "list.index") [.ref a, .int i t]) Q E s := by
  obtain ⟨its, rv, ⟨⟨c1, d1, t1, s1⟩, n1, e1, a1, d0, b1⟩, hz⟩ := I.list hq
  cases a1; cases b1; cases d0
  have hj : j < is.length := (List.getElem?_eq_some_iff.mp h1).1
  have hlen := rv.length
  rw [List.length_map] at hlen hz
  rw [sizeLine_eq] at hz
  have ia := intsAre_of rv
  have at' : ∀ (m : Nat) (hm : m < its.toArray.size), ∃ x u, is[m]? = some x ∧ its.toArray[m] = Value.int x u := fun m hm => by
    have hm2 : m < is.length := by rw [List.size_toArray] at hm; omega
    obtain ⟨u, hu, ru⟩ := rv.get (i := m) (x := V.int is[m]) (by rw [List.getElem?_map, List.getElem?_eq_getElem hm2]; rfl)
    obtain ⟨t2, e2⟩ := (show ∃ t, u = Value.int is[m] t from ru)
    refine ⟨is[m], t2, List.getElem?_eq_getElem hm2, ?_⟩
    rw [← e2]
    have : its.toArray[m]? = some u := by simpa using hu
    rw [Array.getElem?_eq_getElem hm] at this
    exact Option.some.inj this
  refine call_meets PySem.F.slot_list_index ⟨_, e1, rfl⟩ PySem.F.entry_list_index (PySem.F.args_list_index_2 _ _)
    (SeqAt.list_indexAt a its.toArray n1 none s1 (.int i t) (fun y => match y with | .int x _ => x == i | _ => false) j (by rw [List.size_toArray]; omega) (by omega) ?_ ?_) ⟨e1, fun y hy => ?_, h _ _ (I.tok _)⟩
  · obtain ⟨x, u, hx, e⟩ := at' j (by rw [List.size_toArray]; omega)
    rw [e]
    rw [h1] at hx
    cases hx
    simp
  · intro m hm hmj
    obtain ⟨x, u, hx, e⟩ := at' m hm
    rw [e]
    have := h2 m x hmj hx
    simpa using this
  · obtain ⟨m, hm, e⟩ := Array.mem_iff_getElem.mp hy
    obtain ⟨x, u, hx, e2⟩ := at' m hm
    rw [← e, e2]
    exact SeqAt.EqAt.int_int x u i t
end
end PF
namespace TS
open PySem PyProof.Rows
noncomputable def gallop' : Bool → Keyed → Array Keyed → Nat → Nat → Nat → StateT SortSt Sem (Option Nat) := sortPriv% PySem.Builtin.gallop
structure Cmp (prog : Program) (w : World) (A : Around) (E : Value → Shared → Prop) (s : Shared) (κ : SortKind) (dom : Keyed → Prop) (r : Keyed → Nat) : Prop where
  lt : ∀ {x y : Keyed} {Q : Option Bool → SortSt → Prop} {st : SortSt}, dom x → dom y → kindOf st = κ → Q (some (decide (r x < r y))) st → wpS (model prog w) A E s (lt' x y) Q st
variable {prog : Program} {w : World} {A : Around} {E : Value → Shared → Prop} {s : Shared} {κ : SortKind} {dom : Keyed → Prop} {r : Keyed → Nat}
noncomputable def rk (r : Keyed → Nat) (a : Array Keyed) (i : Nat) : Nat := match a[i]? with
  | some x => r x
  | none => 0
theorem rk_at {a : Array Keyed} {i : Nat} {x : Keyed} (h : a[i]? = some x) : rk r a i = r x := by unfold rk; rw [h]
theorem elem_ok {arr : Array Keyed} {i : Nat} {Q : Keyed → SortSt → Prop} {st : SortSt} {x : Keyed} (h : arr[i]? = some x) (k : Q x st) : wpS (model prog w) A E s (elem' arr i) Q st := by
  rw [elem'_eq, h]
  exact wpS_pure k
noncomputable def bey (left : Bool) (k x : Nat) : Bool := if left then decide (x < k) else !decide (k < x)
theorem bey_ok (C : Cmp prog w A E s κ dom r) {left : Bool} {key : Keyed} {arr : Array Keyed} {i : Nat} {Q : Option Bool → SortSt → Prop} {st : SortSt} (hi : i < arr.size) (hd : ∀ x ∈ arr, dom x) (hk : dom key) (hs : kindOf st = κ)
    (k : Q (some (bey left (r key) (rk r arr i))) st) : wpS (model prog w) A E s (do
      let x ← elem' arr i
      if left = true then lt' x key else do
        let b ← lt' key x
        pure (Option.map (fun x => !x) b)) Q st := by
  have e : arr[i]? = some arr[i] := Array.getElem?_eq_getElem hi
  have hx : dom arr[i] := hd _ (Array.getElem_mem hi)
  rw [rk_at e] at k
  refine wpS_bind (elem_ok e ?_)
  cases left with
  | true => exact C.lt hx hk hs k
  | false => exact wpS_bind (C.lt hk hx hs (wpS_pure k))
noncomputable abbrev St3 := Option (Option Nat) × Nat × Nat
section
variable {st : SortSt} {p : Nat → Bool} {n : Nat}
theorem bs_loop {f : Nat → St3 → StateT SortSt Sem (ForInStep St3)} (hm : ∀ i j, i ≤ j → j < n → p j = true → p i = true)
    (h1 : ∀ x lo hi (Q : ForInStep St3 → SortSt → Prop), hi ≤ lo → Q (.done (none, lo, hi)) st → wpS (model prog w) A E s (f x (none, lo, hi)) Q st)
    (h2 : ∀ x lo hi (Q : ForInStep St3 → SortSt → Prop), lo < hi → hi ≤ n → (p (lo + (hi - lo) / 2) = true → Q (.yield (none, lo + (hi - lo) / 2 + 1, hi)) st) → (p (lo + (hi - lo) / 2) = false → Q (.yield (none, lo, lo + (hi - lo) / 2)) st) → wpS (model prog w) A E s (f x (none, lo, hi)) Q st)
    {lo hi : Nat} (a1 : lo ≤ hi) (a2 : hi ≤ n) (a3 : ∀ i, i < lo → p i = true) (a4 : ∀ i, hi ≤ i → i < n → p i = false) :
    wpS (model prog w) A E s (forIn [0:n] (none, lo, hi) f) (fun c st' => st' = st ∧ c.1 = none ∧ c.2.2 ≤ n ∧ (∀ i, i < c.2.2 → p i = true) ∧ ∀ i, c.2.2 ≤ i → i < n → p i = false) st := by
  refine wpS_forRange (I := fun x c st' => st' = st ∧ ∃ lo hi, c = (none, lo, hi) ∧ lo ≤ hi ∧ hi ≤ n ∧ hi - lo + x ≤ n ∧ (∀ i, i < lo → p i = true) ∧ ∀ i, hi ≤ i → i < n → p i = false) ?_ ?_ ⟨rfl, lo, hi, rfl, a1, a2, by omega, a3, a4⟩
  · rintro x c st' _ hx ⟨rfl, lo, hi, rfl, b1, b2, b3, b4, b5⟩
    by_cases h : hi ≤ lo
    · refine h1 x lo hi _ h ⟨rfl, rfl, b2, fun i (hi2 : i < hi) => b4 i (by omega), b5⟩
    · refine h2 x lo hi _ (by omega) b2 (fun hp => ?_) (fun hp => ?_)
      · exact ⟨rfl, _, _, rfl, by omega, b2, by omega, fun i hi2 => hm i _ (by omega) (by omega) hp, b5⟩
      · refine ⟨rfl, _, _, rfl, by omega, by omega, by omega, b4, fun i c1 c2 => ?_⟩
        cases q : p i with
        | false => rfl
        | true => rw [hm _ i c1 c2 q] at hp; cases hp
  · rintro c st' ⟨rfl, lo, hi, rfl, b1, b2, b3, b4, b5⟩
    exact ⟨rfl, rfl, b2, fun i (hi2 : i < hi) => b4 i (by omega), b5⟩
theorem ex_loop {f : Nat → St3 → StateT SortSt Sem (ForInStep St3)} {M : Nat} {q : Nat → Bool} (hM : M ≤ n)
    (h1 : ∀ x la of (Q : ForInStep St3 → SortSt → Prop), M ≤ of → Q (.done (none, la, of)) st → wpS (model prog w) A E s (f x (none, la, of)) Q st)
    (h2 : ∀ x la of (Q : ForInStep St3 → SortSt → Prop), of < M → (q of = true → Q (.yield (none, of, 2 * of + 1)) st) → (q of = false → Q (.done (none, la, of)) st) → wpS (model prog w) A E s (f x (none, la, of)) Q st)
    (h0 : q 0 = true) : wpS (model prog w) A E s (forIn [0:n] (none, 0, 1) f) (fun c st' => st' = st ∧ ∃ la of, c = (none, la, of) ∧ la < of ∧ (la < M ∨ la = 0) ∧ q la = true ∧ (M ≤ of ∨ of < M ∧ q of = false)) st := by
  refine wpS_forRange (I := fun x c st' => st' = st ∧ ∃ la of, c = (none, la, of) ∧ la < of ∧ (la < M ∨ la = 0) ∧ q la = true ∧ x < of) ?_ ?_ ⟨rfl, 0, 1, rfl, by omega, .inr rfl, h0, by omega⟩
  · rintro x c st' _ hx ⟨rfl, la, of, rfl, b1, b2, b3, b4⟩
    by_cases h : M ≤ of
    · exact h1 x la of _ h ⟨rfl, la, of, rfl, b1, b2, b3, .inl h⟩
    · refine h2 x la of _ (by omega) (fun hp => ?_) (fun hp => ?_)
      · exact ⟨rfl, _, _, rfl, by omega, .inl (by omega), hp, by omega⟩
      · exact ⟨rfl, _, _, rfl, b1, b2, b3, .inr ⟨by omega, hp⟩⟩
  · rintro c st' ⟨rfl, la, of, rfl, b1, b2, b3, b4⟩
    exact ⟨rfl, la, of, rfl, b1, b2, b3, .inl (by omega)⟩
end
theorem gallop_ok (C : Cmp prog w A E s κ dom r) {left : Bool} {key : Keyed} {arr : Array Keyed} {base n hint : Nat} {Q : Option Nat → SortSt → Prop} {st : SortSt} (hb : base + n ≤ arr.size) (hh : hint < n) (hd : ∀ x ∈ arr, dom x) (hk : dom key) (hs : kindOf st = κ)
    (hm : ∀ i j, i ≤ j → j < n → bey left (r key) (rk r arr (base + j)) = true → bey left (r key) (rk r arr (base + i)) = true)
    (k : ∀ m, m ≤ n → (∀ i, i < m → bey left (r key) (rk r arr (base + i)) = true) → (∀ i, m ≤ i → i < n → bey left (r key) (rk r arr (base + i)) = false) → Q (some m) st) :
    wpS (model prog w) A E s (gallop' left key arr base n hint) Q st := by
  have B : ∀ {i : Nat} {Q : Option Bool → SortSt → Prop}, i < n → Q (some (bey left (r key) (rk r arr (base + i)))) st → wpS (model prog w) A E s (do
      let x ← elem' arr (base + i)
      if left = true then lt' x key else do
        let b ← lt' key x
        pure (Option.map (fun x => !x) b)) Q st := fun hi k => bey_ok C (by omega) hd hk hs k
  obtain ⟨p, hp⟩ : ∃ p : Nat → Bool, ∀ i, bey left (r key) (rk r arr (base + i)) = p i := ⟨_, fun _ => rfl⟩
  simp only [hp] at hm k B
  have fin : ∀ {c : St3} {st' : SortSt}, (st' = st ∧ c.1 = none ∧ c.2.2 ≤ n ∧ (∀ i, i < c.2.2 → p i = true) ∧ ∀ i, c.2.2 ≤ i → i < n → p i = false) → Q (some c.2.2) st' := fun h => by
    obtain ⟨rfl, h1, h2, h3, h4⟩ := h
    exact k _ h2 h3 h4
  have no : ∀ i j, i ≤ j → j < n → p i = false → p j = false := fun i j c1 c2 q => by
    cases q2 : p j with
    | false => rfl
    | true => rw [hm i j c1 c2 q2] at q; cases q
  unfold gallop'
  k_delta "gallop"
  dsimp only
  refine wpS_bind (B hh ?_)
  cases hq : p hint with
  | true =>
    dsimp only
    rw [if_pos rfl]
    refine wpS_bind (wpS_mono (ex_loop (M := n - hint) (q := fun o => p (hint + o)) (by omega) ?_ ?_ hq) ?_)
    · intro x la of Q h kq
      dsimp only
      rw [if_pos h]
      exact wpS_pure kq
    · intro x la of Q h k1 k2
      dsimp only at k1 k2 ⊢
      rw [if_neg (by omega)]
      refine wpS_bind (B (by omega) ?_)
      dsimp only
      cases q : p (hint + of) with
      | true =>
        rw [if_neg (by decide)]
        exact wpS_pure (k1 q)
      | false =>
        rw [if_pos (by decide)]
        exact wpS_pure (k2 q)
    · rintro c st' ⟨rfl, la, of, rfl, b1, b2, b3, b4⟩
      dsimp only at b3 b4 ⊢
      refine wpS_bind (wpS_mono (bs_loop (p := p) hm ?_ ?_ (by omega) (by omega) (fun i hi => hm i _ (by omega) (by omega) b3) ?_) ?_)
      · intro x lo hi Q h kq
        dsimp only
        rw [if_pos h]
        exact wpS_pure kq
      · intro x lo hi Q h h2 k1 k2
        dsimp only
        rw [if_neg (by omega)]
        refine wpS_bind (B (by omega) ?_)
        dsimp only
        cases q : p (lo + (hi - lo) / 2) with
        | true =>
          rw [if_pos rfl]
          exact wpS_pure (k1 q)
        | false =>
          rw [if_neg (by decide)]
          exact wpS_pure (k2 q)
      · intro i c1 c2
        rcases b4 with b4 | ⟨b4, b5⟩
        · omega
        · exact no _ i (by omega) c2 b5
      · rintro ⟨c1, c2, c3⟩ st2 h
        have e : c1 = none := h.2.1
        subst e
        exact wpS_pure (fin h)
  | false =>
    dsimp only
    rw [if_neg (by decide)]
    refine wpS_bind (wpS_mono (ex_loop (M := hint + 1) (q := fun o => !p (hint - o)) (by omega) ?_ ?_ (by show (!p hint) = true; rw [hq]; rfl)) ?_)
    · intro x la of Q h kq
      dsimp only
      rw [if_pos h]
      exact wpS_pure kq
    · intro x la of Q h k1 k2
      dsimp only at k1 k2 ⊢
      rw [if_neg (by omega)]
      refine wpS_bind (B (by omega) ?_)
      dsimp only
      cases q : p (hint - of) with
      | true =>
        rw [if_pos rfl]
        exact wpS_pure (k2 (by rw [q]; rfl))
      | false =>
        rw [if_neg (by decide)]
        exact wpS_pure (k1 (by rw [q]; rfl))
    · rintro c st' ⟨rfl, la, of, rfl, b1, b2, b3, b4⟩
      dsimp only at b3 b4 ⊢
      have b3' : p (hint - la) = false := by cases q : p (hint - la) with
        | false => rfl
        | true => rw [q] at b3; cases b3
      refine wpS_bind (wpS_mono (bs_loop (p := p) hm ?_ ?_ (by omega) (by omega) ?_ (fun i c1 c2 => no _ i c1 c2 b3')) ?_)
      · intro x lo hi Q h kq
        dsimp only
        rw [if_pos h]
        exact wpS_pure kq
      · intro x lo hi Q h h2 k1 k2
        dsimp only
        rw [if_neg (by omega)]
        refine wpS_bind (B (by omega) ?_)
        dsimp only
        cases q : p (lo + (hi - lo) / 2) with
        | true =>
          rw [if_pos rfl]
          exact wpS_pure (k1 q)
        | false =>
          rw [if_neg (by decide)]
          exact wpS_pure (k2 q)
      · intro i hi
        rcases b4 with b4 | ⟨b4, b5⟩
        · omega
        · have b5' : p (hint - of) = true := by cases q : p (hint - of) with
            | true => rfl
            | false => rw [q] at b5; cases b5
          exact hm i _ (by omega) (by omega) b5'
      · rintro ⟨c1, c2, c3⟩ st2 h
        have e : c1 = none := h.2.1
        subst e
        exact wpS_pure (fin h)
end TS
namespace TS
open PySem PyProof.Rows
variable {r : Keyed → Nat}
def Le (r : Keyed → Nat) (x y : Keyed) : Prop := r x ≤ r y
def Srt (r : Keyed → Nat) (l : List Keyed) : Prop := l.Pairwise (Le r)
structure Mg (r : Keyed → Nat) (a b : List Keyed) (out : List Keyed) (ia ib : Nat) : Prop where
  perm : out.Perm (a.take ia ++ b.take ib)
  srt : Srt r out
  la : ∀ x ∈ out, ∀ y ∈ a.drop ia, Le r x y
  lb : ∀ x ∈ out, ∀ y ∈ b.drop ib, Le r x y
theorem take_add_eq {α : Type} (l : List α) (i k : Nat) : l.take (i + k) = l.take i ++ (l.drop i).take k := List.take_add ..
theorem Mg.addA {a b out : List Keyed} {ia ib k : Nat} (h : Mg r a b out ia ib) (ha : Srt r a) (hk : ∀ x ∈ (a.drop ia).take k, ∀ y ∈ b.drop ib, Le r x y) : Mg r a b (out ++ (a.drop ia).take k) (ia + k) ib := by
  have hs : Srt r (a.drop ia) := List.Pairwise.sublist (List.drop_sublist _ _) ha
  refine ⟨?_, ?_, ?_, ?_⟩
  · rw [take_add_eq]
    refine (List.Perm.append_right _ h.perm).trans ?_
    rw [List.append_assoc, List.append_assoc]
    exact List.Perm.append_left _ List.perm_append_comm
  · refine List.pairwise_append.mpr ⟨h.srt, List.Pairwise.sublist (List.take_sublist _ _) hs, fun x hx y hy => h.la x hx y (List.mem_of_mem_take hy)⟩
  · intro x hx y hy
    have hy' : y ∈ (a.drop ia).drop k := by rw [List.drop_drop]; exact hy
    rcases List.mem_append.mp hx with hx | hx
    · exact h.la x hx y (List.mem_of_mem_drop hy')
    · have := List.take_append_drop k (a.drop ia)
      unfold Srt at hs
      rw [← this, List.pairwise_append] at hs
      exact hs.2.2 x hx y hy'
  · intro x hx y hy
    rcases List.mem_append.mp hx with hx | hx
    · exact h.lb x hx y hy
    · exact hk x hx y hy
theorem Mg.addB {a b out : List Keyed} {ia ib k : Nat} (h : Mg r a b out ia ib) (hb : Srt r b) (hk : ∀ x ∈ (b.drop ib).take k, ∀ y ∈ a.drop ia, Le r x y) : Mg r a b (out ++ (b.drop ib).take k) ia (ib + k) := by
  have hs : Srt r (b.drop ib) := List.Pairwise.sublist (List.drop_sublist _ _) hb
  refine ⟨?_, ?_, ?_, ?_⟩
  · rw [take_add_eq, ← List.append_assoc]
    exact List.Perm.append_right _ h.perm
  · refine List.pairwise_append.mpr ⟨h.srt, List.Pairwise.sublist (List.take_sublist _ _) hs, fun x hx y hy => h.lb x hx y (List.mem_of_mem_take hy)⟩
  · intro x hx y hy
    rcases List.mem_append.mp hx with hx | hx
    · exact h.la x hx y hy
    · exact hk x hx y hy
  · intro x hx y hy
    have hy' : y ∈ (b.drop ib).drop k := by rw [List.drop_drop]; exact hy
    rcases List.mem_append.mp hx with hx | hx
    · exact h.lb x hx y (List.mem_of_mem_drop hy')
    · have := List.take_append_drop k (b.drop ib)
      unfold Srt at hs
      rw [← this, List.pairwise_append] at hs
      exact hs.2.2 x hx y hy'
theorem Mg.endAB {a b out : List Keyed} {ia ib : Nat} (h : Mg r a b out ia ib) (ha : Srt r a) (hb : Srt r b) (hx : ∀ x ∈ a.drop ia, ∀ y ∈ b.drop ib, Le r x y) : Srt r (out ++ a.drop ia ++ b.drop ib) ∧ (out ++ a.drop ia ++ b.drop ib).Perm (a ++ b) := by
  have h1 := h.addA (k := a.length - ia) ha (fun x q => hx x (List.mem_of_mem_take q))
  rw [List.take_of_length_le (by rw [List.length_drop]; exact Nat.le_refl _)] at h1
  have h2 := h1.addB (k := b.length - ib) hb (fun x _ y hy => by rw [List.drop_eq_nil_of_le (by omega)] at hy; cases hy)
  rw [List.take_of_length_le (by rw [List.length_drop]; exact Nat.le_refl _)] at h2
  refine ⟨h2.srt, ?_⟩
  have h3 := h2.perm
  rwa [List.take_of_length_le (by omega), List.take_of_length_le (by omega)] at h3
theorem Mg.endBA {a b out : List Keyed} {ia ib : Nat} (h : Mg r a b out ia ib) (ha : Srt r a) (hb : Srt r b) (hx : ∀ x ∈ b.drop ib, ∀ y ∈ a.drop ia, Le r x y) : Srt r (out ++ b.drop ib ++ a.drop ia) ∧ (out ++ b.drop ib ++ a.drop ia).Perm (a ++ b) := by
  have h1 := h.addB (k := b.length - ib) hb (fun x q => hx x (List.mem_of_mem_take q))
  rw [List.take_of_length_le (by rw [List.length_drop]; exact Nat.le_refl _)] at h1
  have h2 := h1.addA (k := a.length - ia) ha (fun x _ y hy => by rw [List.drop_eq_nil_of_le (by omega)] at hy; cases hy)
  rw [List.take_of_length_le (by rw [List.length_drop]; exact Nat.le_refl _)] at h2
  refine ⟨h2.srt, ?_⟩
  have h3 := h2.perm
  rwa [List.take_of_length_le (by omega), List.take_of_length_le (by omega)] at h3
end TS
namespace TS
open PySem PyProof.Rows
variable {r : Keyed → Nat} {a b out : Array Keyed} {ia ib k : Nat}
def Good (r : Keyed → Nat) (a b R : Array Keyed) : Prop := Srt r R.toList ∧ R.toList.Perm (a.toList ++ b.toList)
theorem drop_cons {l : Array Keyed} {i : Nat} (h : i < l.size) : l.toList.drop i = l[i] :: l.toList.drop (i + 1) := by
  have h' : i < l.toList.length := by simpa using h
  rw [List.drop_eq_getElem_cons h']; simp
theorem head_le {l : Array Keyed} {i : Nat} (hs : Srt r l.toList) (h : i < l.size) : ∀ y ∈ l.toList.drop i, Le r l[i] y := by
  intro y hy
  have h2 : Srt r (l.toList.drop i) := List.Pairwise.sublist (List.drop_sublist _ _) hs
  rw [drop_cons h] at hy h2
  rcases List.mem_cons.mp hy with rfl | hy
  · exact Nat.le_refl _
  · exact (List.pairwise_cons.mp h2).1 y hy
theorem mem_cut {l : Array Keyed} {i k : Nat} {x : Keyed} (h : x ∈ (l.toList.drop i).take k) : ∃ j, j < k ∧ i + j < l.size ∧ l[i + j]? = some x := by
  obtain ⟨j, hj⟩ := List.getElem?_of_mem h
  rw [List.getElem?_take] at hj
  split at hj
  · rename_i hjk
    rw [List.getElem?_drop] at hj
    have hl := (List.getElem?_eq_some_iff.mp hj).1
    refine ⟨j, hjk, by simpa using hl, ?_⟩
    rw [← Array.getElem?_toList]; exact hj
  · cases hj
theorem ext_list {l : Array Keyed} {i k : Nat} : (l.extract i (i + k)).toList = (l.toList.drop i).take k := by
  rw [Array.toList_extract, List.extract_eq_take_drop, Nat.add_sub_cancel_left]
theorem ext_rest {l : Array Keyed} {i : Nat} : (l.extract i).toList = l.toList.drop i := by
  rw [Array.toList_extract, List.extract_eq_take_drop]
  refine List.take_of_length_le ?_
  rw [List.length_drop]; simp
theorem Mg.Ak (h : Mg r a.toList b.toList out.toList ia ib) (ha : Srt r a.toList) (hb : Srt r b.toList) (hib : ib < b.size) (hk : ∀ i, i < k → rk r a (ia + i) ≤ r b[ib]) : Mg r a.toList b.toList (out ++ a.extract ia (ia + k)).toList (ia + k) ib := by
  rw [Array.toList_append, ext_list]
  refine h.addA ha (fun x hx y hy => ?_)
  obtain ⟨j, h1, h2, h3⟩ := mem_cut hx
  have h4 := hk j h1
  rw [rk_at h3] at h4
  exact Nat.le_trans h4 (head_le hb hib y hy)
theorem Mg.Bk (h : Mg r a.toList b.toList out.toList ia ib) (ha : Srt r a.toList) (hb : Srt r b.toList) (hia : ia < a.size) (hk : ∀ i, i < k → rk r b (ib + i) ≤ r a[ia]) : Mg r a.toList b.toList (out ++ b.extract ib (ib + k)).toList ia (ib + k) := by
  rw [Array.toList_append, ext_list]
  refine h.addB hb (fun x hx y hy => ?_)
  obtain ⟨j, h1, h2, h3⟩ := mem_cut hx
  have h4 := hk j h1
  rw [rk_at h3] at h4
  exact Nat.le_trans h4 (head_le ha hia y hy)
theorem rk_get {l : Array Keyed} {i : Nat} (h : i < l.size) : rk r l i = r l[i] := rk_at (Array.getElem?_eq_getElem h)
theorem ext_one {l : Array Keyed} {i : Nat} (h : i < l.size) : (out.push l[i]).toList = (out ++ l.extract i (i + 1)).toList := by
  rw [Array.toList_append, ext_list, Array.toList_push, drop_cons h]; rfl
theorem Mg.A1 (h : Mg r a.toList b.toList out.toList ia ib) (ha : Srt r a.toList) (hb : Srt r b.toList) (hia : ia < a.size) (hib : ib < b.size) (hle : r a[ia] ≤ r b[ib]) : Mg r a.toList b.toList (out.push a[ia]).toList (ia + 1) ib := by
  rw [ext_one hia]
  refine h.Ak ha hb hib (fun i hi => ?_)
  have : i = 0 := by lia
  subst this
  rw [Nat.add_zero, rk_get hia]; exact hle
theorem Mg.B1 (h : Mg r a.toList b.toList out.toList ia ib) (ha : Srt r a.toList) (hb : Srt r b.toList) (hia : ia < a.size) (hib : ib < b.size) (hle : r b[ib] ≤ r a[ia]) : Mg r a.toList b.toList (out.push b[ib]).toList ia (ib + 1) := by
  rw [ext_one hib]
  refine h.Bk ha hb hia (fun i hi => ?_)
  have : i = 0 := by lia
  subst this
  rw [Nat.add_zero, rk_get hib]; exact hle
theorem Mg.done (h : Mg r a.toList b.toList out.toList ia ib) (ha : Srt r a.toList) (hb : Srt r b.toList) (ho : a.size ≤ ia ∨ b.size ≤ ib) : Good r a b (out ++ a.extract ia ++ b.extract ib) := by
  unfold Good
  rw [Array.toList_append, Array.toList_append, ext_rest, ext_rest]
  refine h.endAB ha hb (fun x hx y hy => ?_)
  rcases ho with ho | ho
  · rw [List.drop_eq_nil_of_le (by simpa using ho)] at hx; cases hx
  · rw [List.drop_eq_nil_of_le (by simpa using ho)] at hy; cases hy
theorem Mg.last (h : Mg r a.toList b.toList out.toList ia ib) (ha : Srt r a.toList) (hb : Srt r b.toList) (hi : ia + 1 = a.size) (hl : ∀ y ∈ b.toList, r y ≤ rk r a ia) : Good r a b (out ++ b.extract ib ++ a.extract ia) := by
  unfold Good
  rw [Array.toList_append, Array.toList_append, ext_rest, ext_rest]
  refine h.endBA ha hb (fun x hx y hy => ?_)
  rw [drop_cons (by lia), List.drop_eq_nil_of_le (by simp; lia)] at hy
  have : y = a[ia] := by simpa using hy
  subst this
  have := hl x (List.mem_of_mem_drop hx)
  rwa [rk_get (by lia)] at this
end TS
namespace TS
open PySem PyProof.Rows
variable {prog : Program} {w : World} {A : Around} {E : Value → Shared → Prop} {s : Shared} {κ : SortKind} {dom : Keyed → Prop} {r : Keyed → Nat}
noncomputable def mergeLo' : Array Keyed → Array Keyed → StateT SortSt Sem (Array Keyed) := sortPriv% PySem.Builtin.mergeLo
noncomputable def setMin' : Nat → StateT SortSt Sem Unit := sortPriv% PySem.Builtin.setMinGallop
structure Same (st st' : SortSt) : Prop where
  kind : kindOf st' = kindOf st
  arr : arrOf st' = arrOf st
  pend : pendingOf st' = pendingOf st
  fail : failedOf st' = failedOf st
theorem Same.refl {st : SortSt} : Same st st := ⟨rfl, rfl, rfl, rfl⟩
theorem Same.trans {a b c : SortSt} (h : Same a b) (g : Same b c) : Same a c := ⟨g.kind.trans h.kind, g.arr.trans h.arr, g.pend.trans h.pend, g.fail.trans h.fail⟩
section
variable {α : Type} {t e : StateT SortSt Sem α} {Q : α → SortSt → Prop} {st : SortSt}
theorem ifB {x y : Nat} (h1 : x = y → wpS (model prog w) A E s t Q st) (h2 : x ≠ y → wpS (model prog w) A E s e Q st) : wpS (model prog w) A E s (if (x == y) = true then t else e) Q st := by
  by_cases h : x = y
  · rw [if_pos (by rw [h]; exact beq_self_eq_true _)]; exact h1 h
  · rw [if_neg (by rw [beq_iff_eq]; exact h)]; exact h2 h
theorem ifP {p : Prop} [Decidable p] (h1 : p → wpS (model prog w) A E s t Q st) (h2 : ¬ p → wpS (model prog w) A E s e Q st) : wpS (model prog w) A E s (if p then t else e) Q st := by
  by_cases h : p
  · rw [if_pos h]; exact h1 h
  · rw [if_neg h]; exact h2 h
theorem setMin_ok {g : Nat} {Q : Unit → SortSt → Prop} (h : ∀ st', Same st st' → Q () st') : wpS (model prog w) A E s (setMin' g) Q st := by
  unfold setMin'
  k_delta "setMinGallop"
  exact wpS_modify (h _ ⟨rfl, rfl, rfl, rfl⟩)
end
theorem srt_rk {l : Array Keyed} (hs : Srt r l.toList) {i j : Nat} (hij : i ≤ j) (hj : j < l.size) : rk r l i ≤ rk r l j := by
  rw [rk_get (by lia), rk_get hj]
  rcases Nat.lt_or_ge i j with h | h
  · have := List.pairwise_iff_getElem.mp hs i j (by simpa using (by lia : i < l.size)) (by simpa using hj) h
    simpa [Le] using this
  · have : i = j := by lia
    subst this; exact Nat.le_refl _
theorem bey_mono {l : Array Keyed} (hs : Srt r l.toList) {left : Bool} {k base n : Nat} (hb : base + n ≤ l.size) : ∀ i j, i ≤ j → j < n → bey left k (rk r l (base + j)) = true → bey left k (rk r l (base + i)) = true := by
  intro i j hij hj h
  have := srt_rk hs (show base + i ≤ base + j by lia) (by lia)
  unfold bey at h ⊢
  cases left with
  | true =>
    rw [if_pos rfl] at h ⊢
    have h := of_decide_eq_true h
    exact decide_eq_true (by lia)
  | false =>
    rw [if_neg (by decide)] at h ⊢
    simp only [Bool.not_eq_true', decide_eq_false_iff_not] at h ⊢
    lia
theorem bey_ff {k x : Nat} : bey false k x = true ↔ x ≤ k := by
  unfold bey
  rw [if_neg (by decide)]; simp
theorem bey_ff' {k x : Nat} : bey false k x = false ↔ k < x := by
  unfold bey
  rw [if_neg (by decide)]; simp
theorem bey_tt {k x : Nat} : bey true k x = true ↔ x < k := by
  unfold bey
  rw [if_pos rfl]; simp
theorem bey_tt' {k x : Nat} : bey true k x = false ↔ k ≤ x := by
  unfold bey
  rw [if_pos rfl]; simp
theorem mergeLo_ok (C : Cmp prog w A E s κ dom r) {a b : Array Keyed} {Q : Array Keyed → SortSt → Prop} {st : SortSt} (hκ : kindOf st = κ) (ha : Srt r a.toList) (hb : Srt r b.toList) (da : ∀ x ∈ a, dom x) (db : ∀ x ∈ b, dom x) (h1 : 0 < a.size) (h2 : 0 < b.size)
    (h0 : rk r b 0 ≤ rk r a 0) (hl : ∀ y ∈ b.toList, r y ≤ rk r a (a.size - 1)) (kq : ∀ R st', Same st st' → Good r a b R → Q R st') : wpS (model prog w) A E s (mergeLo' a b) Q st := by
  have hl' : ∀ i, i + 1 = a.size → ∀ y ∈ b.toList, r y ≤ rk r a i := fun i hi y hy => by
    have := hl y hy
    rwa [show a.size - 1 = i by lia] at this
  unfold mergeLo'
  k_delta "mergeLo"
  dsimp only
  refine wpS_bind (wpS_lift (wpAny_rule ⟨rfl, ?_⟩))
  refine wpS_bind (elem_ok (Array.getElem?_eq_getElem h2) ?_)
  have m0 : Mg r a.toList b.toList (#[] : Array Keyed).toList 0 0 := ⟨by simp, List.Pairwise.nil, by simp, by simp⟩
  have m1 : Mg r a.toList b.toList (#[b[0]]).toList 0 1 := m0.B1 ha hb h1 h2 (by rw [rk_get h2, rk_get h1] at h0; exact h0)
  refine ifB (fun e => wpS_pure (kq _ _ .refl (m1.done ha hb (.inr (by lia))))) (fun n1 => ?_)
  refine ifB (fun e => wpS_pure (kq _ _ .refl (m1.last ha hb (by lia) (hl' 0 (by lia))))) (fun n2 => ?_)
  refine wpS_bind (wpS_get ?_)
  refine wpS_bind (wpS_mono (wpS_forRange
    (I := fun x c st1 => Same st st1 ∧ ∃ out ia ib mg, c = (none, out, ia, ib, mg) ∧ Mg r a.toList b.toList out.toList ia ib ∧ ia + 1 < a.size ∧ ib < b.size ∧ x + 1 ≤ ia + ib)
    (Q := fun c st1 => Same st st1 ∧ ∃ R, c.1 = some R ∧ Good r a b R) ?step ?fin ⟨.refl, _, _, _, _, rfl, m1, by lia, by lia, by lia⟩) ?post)
  case fin =>
    rintro c st1 ⟨_, out, ia, ib, mg, rfl, _, i1, i2, i3⟩
    lia
  case post =>
    rintro ⟨c1, c2⟩ st1 ⟨S1, R, e, g⟩
    have e : c1 = some R := e
    subst e
    exact wpS_pure (kq _ _ S1 g)
  case step =>
    rintro x c st1 _ hx ⟨S1, out, ia, ib, mg, rfl, M, i1, i2, i3⟩
    dsimp only
    refine wpS_bind (wpS_mono (wpS_forRange
      (I := fun y c st2 => Same st st2 ∧ ∃ out ja jb ac bc, c = (none, out, ja, jb, ac, bc) ∧ Mg r a.toList b.toList out.toList ja jb ∧ ja + 1 < a.size ∧ jb < b.size ∧ ia + ib + y ≤ ja + jb)
      (Q := fun c st2 => Same st st2 ∧ ((∃ R, c.1 = some R ∧ Good r a b R) ∨ ∃ out ja jb ac bc, c = (none, out, ja, jb, ac, bc) ∧ Mg r a.toList b.toList out.toList ja jb ∧ ja + 1 < a.size ∧ jb < b.size ∧ ia + ib + 1 ≤ ja + jb))
      ?s1 ?f1 ⟨S1, _, _, _, _, _, rfl, M, i1, i2, Nat.le_refl _⟩) ?p1)
    case f1 =>
      rintro c st2 ⟨S2, out2, ja, jb, ac, bc, rfl, M2, j1, j2, j3⟩
      exact ⟨S2, .inr ⟨_, _, _, _, _, rfl, M2, j1, j2, by lia⟩⟩
    case s1 =>
      rintro y c st2 _ hy ⟨S2, out2, ja, jb, ac, bc, rfl, M2, j1, j2, j3⟩
      have ja' : ja < a.size := by lia
      dsimp only
      refine wpS_bind (elem_ok (Array.getElem?_eq_getElem j2) ?_)
      refine wpS_bind (elem_ok (Array.getElem?_eq_getElem ja') ?_)
      refine wpS_bind (C.lt (db _ (Array.getElem_mem j2)) (da _ (Array.getElem_mem ja')) (S2.kind.trans hκ) ?_)
      dsimp only
      by_cases hw : r b[jb] < r a[ja]
      · rw [if_pos (decide_eq_true hw)]
        refine wpS_bind (elem_ok (Array.getElem?_eq_getElem j2) ?_)
        have M3 := M2.B1 ha hb ja' j2 (by lia)
        refine ifB (fun e => wpS_pure ⟨S2, .inl ⟨_, rfl, M3.done ha hb (.inr (by lia))⟩⟩) (fun n => ?_)
        exact ifP (fun e => wpS_pure ⟨S2, .inr ⟨_, _, _, _, _, rfl, M3, j1, by lia, by lia⟩⟩) (fun n => wpS_pure ⟨S2, _, _, _, _, _, rfl, M3, j1, by lia, by lia⟩)
      · rw [if_neg (by rw [decide_eq_true_eq]; exact hw)]
        refine wpS_bind (elem_ok (Array.getElem?_eq_getElem ja') ?_)
        have M3 := M2.A1 ha hb ja' j2 (by lia)
        refine ifB (fun e => wpS_pure ⟨S2, .inl ⟨_, rfl, M3.last ha hb (by lia) (hl' _ (by lia))⟩⟩) (fun n => ?_)
        exact ifP (fun e => wpS_pure ⟨S2, .inr ⟨_, _, _, _, _, rfl, M3, by lia, j2, by lia⟩⟩) (fun n => wpS_pure ⟨S2, _, _, _, _, _, rfl, M3, by lia, j2, by lia⟩)
    case p1 =>
      rintro c st2 ⟨S2, ⟨R, e, g⟩ | ⟨out2, ja, jb, ac, bc, rfl, M2, j1, j2, j3⟩⟩
      · obtain ⟨c1, c2⟩ := c
        have e : c1 = some R := e
        subst e
        exact wpS_pure ⟨S2, R, rfl, g⟩
      · dsimp only
        refine wpS_bind (wpS_lift (wpAny_rule ⟨rfl, ?_⟩))
        refine wpS_bind (wpS_mono (wpS_forRange
          (I := fun y c st3 => Same st st3 ∧ ∃ out qa qb mg ac bc, c = (none, out, qa, qb, mg, ac, bc) ∧ Mg r a.toList b.toList out.toList qa qb ∧ qa + 1 < a.size ∧ qb < b.size ∧ ja + jb ≤ qa + qb)
          (Q := fun c st3 => Same st st3 ∧ ((∃ R, c.1 = some R ∧ Good r a b R) ∨ ∃ out qa qb mg ac bc, c = (none, out, qa, qb, mg, ac, bc) ∧ Mg r a.toList b.toList out.toList qa qb ∧ qa + 1 < a.size ∧ qb < b.size ∧ ja + jb ≤ qa + qb))
          ?s2 ?f2 ⟨S2, _, _, _, _, _, _, rfl, M2, j1, j2, Nat.le_refl _⟩) ?p2)
        case f2 =>
          rintro c st3 ⟨S3, h⟩
          exact ⟨S3, .inr h⟩
        case p2 =>
          rintro c st3 ⟨S3, ⟨R, e, g⟩ | ⟨out3, qa, qb, mg3, ac3, bc3, rfl, M3, q1, q2, q3⟩⟩
          · obtain ⟨c1, c2⟩ := c
            have e : c1 = some R := e
            subst e
            exact wpS_pure ⟨S3, R, rfl, g⟩
          · dsimp only
            refine wpS_bind (setMin_ok fun st4 S4 => ?_)
            exact wpS_pure ⟨S3.trans S4, _, _, _, _, rfl, M3, q1, q2, by lia⟩
        case s2 =>
          rintro y c st3 _ hy ⟨S3, out3, qa, qb, mg3, ac3, bc3, rfl, M3, q1, q2, q3⟩
          have qa' : qa < a.size := by lia
          dsimp only
          refine ifP (fun hmg => ?_) (fun hmg => ?_)
          all_goals
            refine wpS_bind (setMin_ok fun st4 S34 => ?_)
            have S4 := S3.trans S34
            refine wpS_bind (elem_ok (Array.getElem?_eq_getElem q2) ?_)
            refine wpS_bind (gallop_ok C (by lia) (by lia) da (db _ (Array.getElem_mem q2)) (S4.kind.trans hκ) (bey_mono ha (by lia)) (fun k y1 y2 y3 => ?_))
            dsimp only
            have y2' : ∀ i, i < k → rk r a (qa + i) ≤ r b[qb] := fun i hi => bey_ff.mp (y2 i hi)
            have y3' : qa + k < a.size → r b[qb] ≤ rk r a (qa + k) := fun h => Nat.le_of_lt (bey_ff'.mp (y3 k (Nat.le_refl _) (by lia)))
            refine ifP (fun hk0 => ?_) (fun hk0 => ?_)
            · have M4 := M3.Ak ha hb q2 y2'
              refine ifB (fun e => wpS_pure ⟨S4, .inl ⟨_, rfl, M4.last ha hb (by lia) (hl' _ (by lia))⟩⟩) (fun n3 => ?_)
              refine ifB (fun e => wpS_pure ⟨S4, .inl ⟨_, rfl, M4.done ha hb (.inl (by lia))⟩⟩) (fun n4 => ?_)
              have ka2 : qa + k < a.size := by lia
              refine wpS_bind (elem_ok (Array.getElem?_eq_getElem q2) ?_)
              have M5 := (M4).B1 ha hb ka2 q2 (by rw [← rk_get (r := r) ka2]; exact y3' ka2)
              refine ifB (fun e => wpS_pure ⟨S4, .inl ⟨_, rfl, M5.done ha hb (.inr (by lia))⟩⟩) (fun n5 => ?_)
              refine wpS_bind (elem_ok (Array.getElem?_eq_getElem ka2) ?_)
              refine wpS_bind (gallop_ok C (by lia) (by lia) db (da _ (Array.getElem_mem ka2)) (S4.kind.trans hκ) (bey_mono hb (by lia)) (fun k2 z1 z2 z3 => ?_))
              dsimp only
              have z2' : ∀ i, i < k2 → rk r b (qb + 1 + i) ≤ r a[(qa + k)] := fun i hi => Nat.le_of_lt (bey_tt.mp (z2 i hi))
              have z3' : qb + 1 + k2 < b.size → r a[(qa + k)] ≤ rk r b (qb + 1 + k2) := fun h => bey_tt'.mp (z3 k2 (Nat.le_refl _) (by lia))
              refine ifP (fun hk2 => ?_) (fun hk2 => ?_)
              · have M6 := M5.Bk ha hb ka2 z2'
                refine ifB (fun e => wpS_pure ⟨S4, .inl ⟨_, rfl, M6.done ha hb (.inr (by lia))⟩⟩) (fun n6 => ?_)
                refine wpS_bind (elem_ok (Array.getElem?_eq_getElem ka2) ?_)
                have qb2 : qb + 1 + k2 < b.size := by lia
                have M7 := M6.A1 ha hb ka2 qb2 (by rw [← rk_get (r := r) qb2]; exact z3' qb2)
                refine ifB (fun e => wpS_pure ⟨S4, .inl ⟨_, rfl, M7.last ha hb (by lia) (hl' _ (by lia))⟩⟩) (fun n7 => ?_)
                exact ifP (fun _ => wpS_pure ⟨S4, .inr ⟨_, _, _, _, _, _, rfl, M7, by lia, by lia, by lia⟩⟩) (fun _ => wpS_pure ⟨S4, _, _, _, _, _, _, rfl, M7, by lia, by lia, by lia⟩)
              · have e0 : k2 = 0 := by lia
                subst e0
                refine wpS_bind (elem_ok (Array.getElem?_eq_getElem ka2) ?_)
                have qb2 : qb + 1 < b.size := by lia
                have M7 := M5.A1 ha hb ka2 qb2 (by rw [← rk_get (r := r) qb2]; exact z3' qb2)
                refine ifB (fun e => wpS_pure ⟨S4, .inl ⟨_, rfl, M7.last ha hb (by lia) (hl' _ (by lia))⟩⟩) (fun n7 => ?_)
                exact ifP (fun _ => wpS_pure ⟨S4, .inr ⟨_, _, _, _, _, _, rfl, M7, by lia, by lia, by lia⟩⟩) (fun _ => wpS_pure ⟨S4, _, _, _, _, _, _, rfl, M7, by lia, by lia, by lia⟩)
            · have e0 : k = 0 := by lia
              subst e0
              refine wpS_bind (elem_ok (Array.getElem?_eq_getElem q2) ?_)
              have M5 := (M3).B1 ha hb qa' q2 (by rw [← rk_get (r := r) qa']; exact y3' qa')
              refine ifB (fun e => wpS_pure ⟨S4, .inl ⟨_, rfl, M5.done ha hb (.inr (by lia))⟩⟩) (fun n5 => ?_)
              refine wpS_bind (elem_ok (Array.getElem?_eq_getElem qa') ?_)
              refine wpS_bind (gallop_ok C (by lia) (by lia) db (da _ (Array.getElem_mem qa')) (S4.kind.trans hκ) (bey_mono hb (by lia)) (fun k2 z1 z2 z3 => ?_))
              dsimp only
              have z2' : ∀ i, i < k2 → rk r b (qb + 1 + i) ≤ r a[qa] := fun i hi => Nat.le_of_lt (bey_tt.mp (z2 i hi))
              have z3' : qb + 1 + k2 < b.size → r a[qa] ≤ rk r b (qb + 1 + k2) := fun h => bey_tt'.mp (z3 k2 (Nat.le_refl _) (by lia))
              refine ifP (fun hk2 => ?_) (fun hk2 => ?_)
              · have M6 := M5.Bk ha hb qa' z2'
                refine ifB (fun e => wpS_pure ⟨S4, .inl ⟨_, rfl, M6.done ha hb (.inr (by lia))⟩⟩) (fun n6 => ?_)
                refine wpS_bind (elem_ok (Array.getElem?_eq_getElem qa') ?_)
                have qb2 : qb + 1 + k2 < b.size := by lia
                have M7 := M6.A1 ha hb qa' qb2 (by rw [← rk_get (r := r) qb2]; exact z3' qb2)
                refine ifB (fun e => wpS_pure ⟨S4, .inl ⟨_, rfl, M7.last ha hb (by lia) (hl' _ (by lia))⟩⟩) (fun n7 => ?_)
                exact ifP (fun _ => wpS_pure ⟨S4, .inr ⟨_, _, _, _, _, _, rfl, M7, by lia, by lia, by lia⟩⟩) (fun _ => wpS_pure ⟨S4, _, _, _, _, _, _, rfl, M7, by lia, by lia, by lia⟩)
              · have e0 : k2 = 0 := by lia
                subst e0
                refine wpS_bind (elem_ok (Array.getElem?_eq_getElem qa') ?_)
                have qb2 : qb + 1 < b.size := by lia
                have M7 := M5.A1 ha hb qa' qb2 (by rw [← rk_get (r := r) qb2]; exact z3' qb2)
                refine ifB (fun e => wpS_pure ⟨S4, .inl ⟨_, rfl, M7.last ha hb (by lia) (hl' _ (by lia))⟩⟩) (fun n7 => ?_)
                exact ifP (fun _ => wpS_pure ⟨S4, .inr ⟨_, _, _, _, _, _, rfl, M7, by lia, by lia, by lia⟩⟩) (fun _ => wpS_pure ⟨S4, _, _, _, _, _, _, rfl, M7, by lia, by lia, by lia⟩)
end TS
namespace TS
open PySem PyProof.Rows
section
variable {r : Keyed → Nat}
structure Mh (r : Keyed → Nat) (a b : List Keyed) (out : List Keyed) (na nb : Nat) : Prop where
  perm : out.Perm (a.drop na ++ b.drop nb)
  srt : Srt r out.reverse
  la : ∀ x ∈ a.take na, ∀ y ∈ out, Le r x y
  lb : ∀ x ∈ b.take nb, ∀ y ∈ out, Le r x y
theorem cut_two (l : List Keyed) {m n : Nat} (h : m ≤ n) : l.take n = l.take m ++ (l.drop m).take (n - m) := by
  rw [← List.take_add, show m + (n - m) = n by lia]
theorem cut_drop (l : List Keyed) {m n : Nat} (h : m ≤ n) : l.drop m = (l.drop m).take (n - m) ++ l.drop n := by
  have := List.take_append_drop (n - m) (l.drop m)
  rw [List.drop_drop, show m + (n - m) = n by lia] at this
  exact this.symm
theorem Mh.addA {a b out : List Keyed} {na nb m : Nat} (h : Mh r a b out na nb) (hm : m ≤ na) (ha : Srt r a) (hk : ∀ x ∈ b.take nb, ∀ y ∈ (a.drop m).take (na - m), Le r x y) : Mh r a b (out ++ ((a.drop m).take (na - m)).reverse) m nb := by
  have hs : Srt r (a.take na) := List.Pairwise.sublist (List.take_sublist _ _) ha
  have hc := cut_two a hm
  refine ⟨?_, ?_, ?_, ?_⟩
  · conv => arg 2; rw [cut_drop a hm]
    refine List.perm_append_comm.trans ?_
    rw [List.append_assoc]
    exact (List.reverse_perm _).append h.perm
  · rw [List.reverse_append, List.reverse_reverse]
    refine List.pairwise_append.mpr ⟨List.Pairwise.sublist ((List.take_sublist _ _).trans (List.drop_sublist _ _)) ha, h.srt, fun x hx y hy => h.la x ?_ y (List.mem_reverse.mp hy)⟩
    rw [hc]
    exact List.mem_append_right _ hx
  · intro x hx y hy
    rcases List.mem_append.mp hy with hy | hy
    · refine h.la x ?_ y hy
      rw [hc]; exact List.mem_append_left _ hx
    · unfold Srt at hs
      rw [hc, List.pairwise_append] at hs
      exact hs.2.2 x hx y (List.mem_reverse.mp hy)
  · intro x hx y hy
    rcases List.mem_append.mp hy with hy | hy
    · exact h.lb x hx y hy
    · exact hk x hx y (List.mem_reverse.mp hy)
theorem Mh.addB {a b out : List Keyed} {na nb m : Nat} (h : Mh r a b out na nb) (hm : m ≤ nb) (hb : Srt r b) (hk : ∀ x ∈ a.take na, ∀ y ∈ (b.drop m).take (nb - m), Le r x y) : Mh r a b (out ++ ((b.drop m).take (nb - m)).reverse) na m := by
  have hs : Srt r (b.take nb) := List.Pairwise.sublist (List.take_sublist _ _) hb
  have hc := cut_two b hm
  refine ⟨?_, ?_, ?_, ?_⟩
  · conv => arg 2; rw [cut_drop b hm]
    refine (List.Perm.append_right _ h.perm).trans ?_
    rw [List.append_assoc]
    refine List.Perm.append_left _ ?_
    exact List.perm_append_comm.trans (List.Perm.append_right _ (List.reverse_perm _))
  · rw [List.reverse_append, List.reverse_reverse]
    refine List.pairwise_append.mpr ⟨List.Pairwise.sublist ((List.take_sublist _ _).trans (List.drop_sublist _ _)) hb, h.srt, fun x hx y hy => h.lb x ?_ y (List.mem_reverse.mp hy)⟩
    rw [hc]
    exact List.mem_append_right _ hx
  · intro x hx y hy
    rcases List.mem_append.mp hy with hy | hy
    · exact h.la x hx y hy
    · exact hk x hx y (List.mem_reverse.mp hy)
  · intro x hx y hy
    rcases List.mem_append.mp hy with hy | hy
    · refine h.lb x ?_ y hy
      rw [hc]; exact List.mem_append_left _ hx
    · unfold Srt at hs
      rw [hc, List.pairwise_append] at hs
      exact hs.2.2 x hx y (List.mem_reverse.mp hy)
theorem Mh.endAB {a b out : List Keyed} {na nb : Nat} (h : Mh r a b out na nb) (ha : Srt r a) (hb : Srt r b) (hx : ∀ x ∈ a.take na, ∀ y ∈ b.take nb, Le r x y) : Srt r (a.take na ++ b.take nb ++ out.reverse) ∧ (a.take na ++ b.take nb ++ out.reverse).Perm (a ++ b) := by
  have h1 := h.addB (m := 0) (Nat.zero_le _) hb (fun x q y z => hx x q y (by simpa using z))
  have h2 := h1.addA (m := 0) (Nat.zero_le _) ha (fun x q => by simp at q)
  simp only [List.drop_zero, Nat.sub_zero] at h2
  have h3 := h2.srt
  have h4 := h2.perm
  rw [List.reverse_append, List.reverse_append, List.reverse_reverse, List.reverse_reverse] at h3
  rw [List.append_assoc]
  refine ⟨h3, List.Perm.trans ?_ h4⟩
  refine List.Perm.trans ?_ (List.reverse_perm _)
  rw [List.reverse_append, List.reverse_append, List.reverse_reverse, List.reverse_reverse]
theorem Mh.endBA {a b out : List Keyed} {na nb : Nat} (h : Mh r a b out na nb) (ha : Srt r a) (hb : Srt r b) (hx : ∀ x ∈ b.take nb, ∀ y ∈ a.take na, Le r x y) : Srt r (b.take nb ++ a.take na ++ out.reverse) ∧ (b.take nb ++ a.take na ++ out.reverse).Perm (a ++ b) := by
  have h1 := h.addA (m := 0) (Nat.zero_le _) ha (fun x q y z => hx x q y (by simpa using z))
  have h2 := h1.addB (m := 0) (Nat.zero_le _) hb (fun x q => by simp at q)
  simp only [List.drop_zero, Nat.sub_zero] at h2
  have h3 := h2.srt
  have h4 := h2.perm
  rw [List.reverse_append, List.reverse_append, List.reverse_reverse, List.reverse_reverse] at h3
  rw [List.append_assoc]
  refine ⟨h3, List.Perm.trans ?_ h4⟩
  refine List.Perm.trans ?_ (List.reverse_perm _)
  rw [List.reverse_append, List.reverse_append, List.reverse_reverse, List.reverse_reverse]
variable {a b out : Array Keyed} {na nb m : Nat}
theorem ext_cut {l : Array Keyed} {i k : Nat} : (l.extract i k).toList = (l.toList.drop i).take (k - i) := by
  rw [Array.toList_extract, List.extract_eq_take_drop]
theorem ext_first {l : Array Keyed} {k : Nat} : (l.extract 0 k).toList = l.toList.take k := by
  rw [Array.toList_extract, List.extract_eq_take_drop]; rfl
theorem le_last {l : Array Keyed} (hs : Srt r l.toList) {n i : Nat} (hi : i < l.size) (hn : n ≤ i + 1) : ∀ x ∈ l.toList.take n, r x ≤ r l[i] := by
  intro x hx
  obtain ⟨j, hj⟩ := List.getElem?_of_mem hx
  rw [List.getElem?_take] at hj
  split at hj
  · rename_i hjn
    rw [Array.getElem?_toList] at hj
    have h1 := srt_rk hs (show j ≤ i by lia) hi
    rwa [rk_at hj, rk_get hi] at h1
  · cases hj
theorem Mh.Ak (h : Mh r a.toList b.toList out.toList na nb) (ha : Srt r a.toList) (hb : Srt r b.toList) (hm : m ≤ na) (h0 : 0 < nb) (hnb : nb - 1 < b.size) (hk : ∀ i, m ≤ i → i < na → r b[nb - 1] ≤ rk r a i) : Mh r a.toList b.toList (out ++ (a.extract m na).reverse).toList m nb := by
  rw [Array.toList_append, Array.toList_reverse, ext_cut]
  refine h.addA hm ha (fun x hx y hy => ?_)
  obtain ⟨j, h1, h2, h3⟩ := mem_cut hy
  have h4 := hk (m + j) (by lia) (by lia)
  rw [rk_at h3] at h4
  exact Nat.le_trans (le_last hb hnb (by lia) x hx) h4
theorem Mh.Bk (h : Mh r a.toList b.toList out.toList na nb) (ha : Srt r a.toList) (hb : Srt r b.toList) (hm : m ≤ nb) (h0 : 0 < na) (hna : na - 1 < a.size) (hk : ∀ i, m ≤ i → i < nb → r a[na - 1] ≤ rk r b i) : Mh r a.toList b.toList (out ++ (b.extract m nb).reverse).toList na m := by
  rw [Array.toList_append, Array.toList_reverse, ext_cut]
  refine h.addB hm hb (fun x hx y hy => ?_)
  obtain ⟨j, h1, h2, h3⟩ := mem_cut hy
  have h4 := hk (m + j) (by lia) (by lia)
  rw [rk_at h3] at h4
  exact Nat.le_trans (le_last ha hna (by lia) x hx) h4
theorem ext_one' {l : Array Keyed} {i n : Nat} (h : i < l.size) (hn : n = i + 1) : (out.push l[i]).toList = (out ++ (l.extract i n).reverse).toList := by
  subst hn
  rw [Array.toList_append, Array.toList_reverse, ext_list, Array.toList_push, drop_cons h]; rfl
theorem Mh.A1 (h : Mh r a.toList b.toList out.toList na nb) (ha : Srt r a.toList) (hb : Srt r b.toList) (h1 : 0 < na) (hna : na - 1 < a.size) (h0 : 0 < nb) (hnb : nb - 1 < b.size) (hle : r b[nb - 1] ≤ r a[na - 1]) : Mh r a.toList b.toList (out.push a[na - 1]).toList (na - 1) nb := by
  rw [ext_one' (n := na) hna (by lia)]
  refine h.Ak ha hb (by lia) h0 hnb (fun i h2 h3 => ?_)
  have : i = na - 1 := by lia
  subst this
  rw [rk_get hna]; exact hle
theorem Mh.B1 (h : Mh r a.toList b.toList out.toList na nb) (ha : Srt r a.toList) (hb : Srt r b.toList) (h1 : 0 < na) (hna : na - 1 < a.size) (h0 : 0 < nb) (hnb : nb - 1 < b.size) (hle : r a[na - 1] ≤ r b[nb - 1]) : Mh r a.toList b.toList (out.push b[nb - 1]).toList na (nb - 1) := by
  rw [ext_one' (n := nb) hnb (by lia)]
  refine h.Bk ha hb (by lia) h1 hna (fun i h2 h3 => ?_)
  have : i = nb - 1 := by lia
  subst this
  rw [rk_get hnb]; exact hle
theorem Mh.done (h : Mh r a.toList b.toList out.toList na nb) (ha : Srt r a.toList) (hb : Srt r b.toList) (ho : na = 0 ∨ nb = 0) : Good r a b (a.extract 0 na ++ b.extract 0 nb ++ out.reverse) := by
  unfold Good
  rw [Array.toList_append, Array.toList_append, Array.toList_reverse, ext_first, ext_first]
  refine h.endAB ha hb (fun x hx y hy => ?_)
  rcases ho with rfl | rfl
  · simp at hx
  · simp at hy
theorem Mh.first (h : Mh r a.toList b.toList out.toList na nb) (ha : Srt r a.toList) (hb : Srt r b.toList) (hi : nb = 1) (h0 : 0 < b.size) (hl : ∀ y ∈ a.toList, rk r b 0 ≤ r y) : Good r a b (b.extract 0 nb ++ a.extract 0 na ++ out.reverse) := by
  unfold Good
  rw [Array.toList_append, Array.toList_append, Array.toList_reverse, ext_first, ext_first]
  refine h.endBA ha hb (fun x hx y hy => ?_)
  subst hi
  have e := drop_cons h0
  rw [List.drop_zero] at e
  rw [e] at hx
  have : x = b[0] := by simpa using hx
  subst this
  have := hl y (List.mem_of_mem_take hy)
  rwa [rk_get h0] at this
end
end TS
namespace TS
open PySem PyProof.Rows
variable {prog : Program} {w : World} {A : Around} {E : Value → Shared → Prop} {s : Shared} {κ : SortKind} {dom : Keyed → Prop} {r : Keyed → Nat}
noncomputable def mergeHi' : Array Keyed → Array Keyed → StateT SortSt Sem (Array Keyed) := sortPriv% PySem.Builtin.mergeHi
theorem mergeHi_ok (C : Cmp prog w A E s κ dom r) {a b : Array Keyed} {Q : Array Keyed → SortSt → Prop} {st : SortSt} (hκ : kindOf st = κ) (ha : Srt r a.toList) (hb : Srt r b.toList) (da : ∀ x ∈ a, dom x) (db : ∀ x ∈ b, dom x) (h1 : 0 < a.size) (h2 : 0 < b.size)
    (h0 : rk r b (b.size - 1) ≤ rk r a (a.size - 1)) (hl : ∀ y ∈ a.toList, rk r b 0 ≤ r y) (kq : ∀ R st', Same st st' → Good r a b R → Q R st') : wpS (model prog w) A E s (mergeHi' a b) Q st := by
  unfold mergeHi'
  k_delta "mergeHi"
  dsimp only
  have a1 : a.size - 1 < a.size := by lia
  have b1 : b.size - 1 < b.size := by lia
  refine wpS_bind (wpS_lift (wpAny_rule ⟨rfl, ?_⟩))
  refine wpS_bind (elem_ok (Array.getElem?_eq_getElem a1) ?_)
  have m0 : Mh r a.toList b.toList (#[] : Array Keyed).toList a.size b.size := ⟨by simp, List.Pairwise.nil, by simp, by simp⟩
  have m1 : Mh r a.toList b.toList (#[a[a.size - 1]]).toList (a.size - 1) b.size := m0.A1 ha hb h1 a1 h2 b1 (by rw [rk_get b1, rk_get a1] at h0; exact h0)
  refine ifB (fun e => wpS_pure (kq _ _ .refl (m1.done ha hb (.inl (by lia))))) (fun n1 => ?_)
  refine ifB (fun e => wpS_pure (kq _ _ .refl (m1.first ha hb (by lia) h2 hl))) (fun n2 => ?_)
  refine wpS_bind (wpS_get ?_)
  refine wpS_bind (wpS_mono (wpS_forRange
    (I := fun x c st1 => Same st st1 ∧ ∃ na nb out mg, c = (none, na, nb, out, mg) ∧ Mh r a.toList b.toList out.toList na nb ∧ (0 < na ∧ na ≤ a.size) ∧ (1 < nb ∧ nb ≤ b.size) ∧ na + nb + x + 1 ≤ a.size + b.size)
    (Q := fun c st1 => Same st st1 ∧ ∃ R, c.1 = some R ∧ Good r a b R) ?step ?fin ⟨.refl, _, _, _, _, rfl, m1, by lia, by lia, by lia⟩) ?post)
  case fin =>
    rintro c st1 ⟨_, na, nb, out, mg, rfl, _, i1, i2, i3⟩
    lia
  case post =>
    rintro ⟨c1, c2⟩ st1 ⟨S1, R, e, g⟩
    have e : c1 = some R := e
    subst e
    exact wpS_pure (kq _ _ S1 g)
  case step =>
    rintro x c st1 _ hx ⟨S1, na, nb, out, mg, rfl, M, i1, i2, i3⟩
    dsimp only
    refine wpS_bind (wpS_mono (wpS_forRange
      (I := fun y c st2 => Same st st2 ∧ ∃ ja jb out ac bc, c = (none, ja, jb, out, ac, bc) ∧ Mh r a.toList b.toList out.toList ja jb ∧ (0 < ja ∧ ja ≤ a.size) ∧ (1 < jb ∧ jb ≤ b.size) ∧ ja + jb + y ≤ na + nb)
      (Q := fun c st2 => Same st st2 ∧ ((∃ R, c.1 = some R ∧ Good r a b R) ∨ ∃ ja jb out ac bc, c = (none, ja, jb, out, ac, bc) ∧ Mh r a.toList b.toList out.toList ja jb ∧ (0 < ja ∧ ja ≤ a.size) ∧ (1 < jb ∧ jb ≤ b.size) ∧ ja + jb + 1 ≤ na + nb))
      ?s1 ?f1 ⟨S1, _, _, _, _, _, rfl, M, i1, i2, Nat.le_refl _⟩) ?p1)
    case f1 =>
      rintro c st2 ⟨S2, ja, jb, out2, ac, bc, rfl, M2, j1, j2, j3⟩
      exact ⟨S2, .inr ⟨_, _, _, _, _, rfl, M2, j1, j2, by lia⟩⟩
    case s1 =>
      rintro y c st2 _ hy ⟨S2, ja, jb, out2, ac, bc, rfl, M2, j1, j2, j3⟩
      have ja0 : 0 < ja := j1.1
      have jb0 : 0 < jb := by lia
      have ja' : ja - 1 < a.size := by lia
      have jb' : jb - 1 < b.size := by lia
      dsimp only
      refine wpS_bind (elem_ok (Array.getElem?_eq_getElem jb') ?_)
      refine wpS_bind (elem_ok (Array.getElem?_eq_getElem ja') ?_)
      refine wpS_bind (C.lt (db _ (Array.getElem_mem jb')) (da _ (Array.getElem_mem ja')) (S2.kind.trans hκ) ?_)
      dsimp only
      by_cases hw : r b[jb - 1] < r a[ja - 1]
      · rw [if_pos (decide_eq_true hw)]
        refine wpS_bind (elem_ok (Array.getElem?_eq_getElem ja') ?_)
        have M3 := M2.A1 ha hb ja0 ja' jb0 jb' (by lia)
        refine ifB (fun e => wpS_pure ⟨S2, .inl ⟨_, rfl, M3.done ha hb (.inl (by lia))⟩⟩) (fun n => ?_)
        exact ifP (fun e => wpS_pure ⟨S2, .inr ⟨_, _, _, _, _, rfl, M3, by lia, j2, by lia⟩⟩) (fun n => wpS_pure ⟨S2, _, _, _, _, _, rfl, M3, by lia, j2, by lia⟩)
      · rw [if_neg (by rw [decide_eq_true_eq]; exact hw)]
        refine wpS_bind (elem_ok (Array.getElem?_eq_getElem jb') ?_)
        have M3 := M2.B1 ha hb ja0 ja' jb0 jb' (by lia)
        refine ifB (fun e => wpS_pure ⟨S2, .inl ⟨_, rfl, M3.first ha hb (by lia) h2 hl⟩⟩) (fun n => ?_)
        exact ifP (fun e => wpS_pure ⟨S2, .inr ⟨_, _, _, _, _, rfl, M3, j1, by lia, by lia⟩⟩) (fun n => wpS_pure ⟨S2, _, _, _, _, _, rfl, M3, j1, by lia, by lia⟩)
    case p1 =>
      rintro c st2 ⟨S2, ⟨R, e, g⟩ | ⟨ja, jb, out2, ac, bc, rfl, M2, j1, j2, j3⟩⟩
      · obtain ⟨c1, c2⟩ := c
        have e : c1 = some R := e
        subst e
        exact wpS_pure ⟨S2, R, rfl, g⟩
      · dsimp only
        refine wpS_bind (wpS_lift (wpAny_rule ⟨rfl, ?_⟩))
        refine wpS_bind (wpS_mono (wpS_forRange
          (I := fun y c st3 => Same st st3 ∧ ∃ qa qb out mg ac bc, c = (none, qa, qb, out, mg, ac, bc) ∧ Mh r a.toList b.toList out.toList qa qb ∧ (0 < qa ∧ qa ≤ a.size) ∧ (1 < qb ∧ qb ≤ b.size) ∧ qa + qb ≤ ja + jb)
          (Q := fun c st3 => Same st st3 ∧ ((∃ R, c.1 = some R ∧ Good r a b R) ∨ ∃ qa qb out mg ac bc, c = (none, qa, qb, out, mg, ac, bc) ∧ Mh r a.toList b.toList out.toList qa qb ∧ (0 < qa ∧ qa ≤ a.size) ∧ (1 < qb ∧ qb ≤ b.size) ∧ qa + qb ≤ ja + jb))
          ?s2 ?f2 ⟨S2, _, _, _, _, _, _, rfl, M2, j1, j2, Nat.le_refl _⟩) ?p2)
        case f2 =>
          rintro c st3 ⟨S3, h⟩
          exact ⟨S3, .inr h⟩
        case p2 =>
          rintro c st3 ⟨S3, ⟨R, e, g⟩ | ⟨qa, qb, out3, mg3, ac3, bc3, rfl, M3, q1, q2, q3⟩⟩
          · obtain ⟨c1, c2⟩ := c
            have e : c1 = some R := e
            subst e
            exact wpS_pure ⟨S3, R, rfl, g⟩
          · dsimp only
            refine wpS_bind (setMin_ok fun st4 S4 => ?_)
            exact wpS_pure ⟨S3.trans S4, _, _, _, _, rfl, M3, q1, q2, by lia⟩
        case s2 =>
          rintro y c st3 _ hy ⟨S3, qa, qb, out3, mg3, ac3, bc3, rfl, M3, q1, q2, q3⟩
          have qa0 : 0 < qa := q1.1
          have qa1 : qa - 1 < a.size := by lia
          have qb0 : 0 < qb := by lia
          have qb1 : qb - 1 < b.size := by lia
          dsimp only
          refine ifP (fun hmg => ?_) (fun hmg => ?_)
          all_goals
            refine wpS_bind (setMin_ok fun st4 S34 => ?_)
            have S4 := S3.trans S34
            refine wpS_bind (elem_ok (Array.getElem?_eq_getElem qb1) ?_)
            refine wpS_bind (gallop_ok C (by lia) (by lia) da (db _ (Array.getElem_mem qb1)) (S4.kind.trans hκ) (bey_mono ha (by lia)) (fun k y1 y2 y3 => ?_))
            dsimp only
            simp only [Nat.zero_add] at y2 y3
            have y2' : ∀ i, i < k → rk r a i ≤ r b[qb - 1] := fun i hi => bey_ff.mp (y2 i hi)
            have y3' : ∀ i, k ≤ i → i < qa → r b[qb - 1] ≤ rk r a i := fun i u v => Nat.le_of_lt (bey_ff'.mp (y3 i u v))
            refine ifP (fun hk0 => ?_) (fun hk0 => ?_)
            · have M4 := M3.Ak ha hb y1 qb0 qb1 y3'
              refine ifB (fun e => wpS_pure ⟨S4, .inl ⟨_, rfl, M4.done ha hb (.inl (by lia))⟩⟩) (fun n3 => ?_)
              have k0 : 0 < k := by lia
              have k1 : k - 1 < a.size := by lia
              refine wpS_bind (elem_ok (Array.getElem?_eq_getElem qb1) ?_)
              have M5 := (M4).B1 ha hb k0 k1 qb0 qb1 (by rw [← rk_get (r := r) k1]; exact y2' _ (by lia))
              refine ifB (fun e => wpS_pure ⟨S4, .inl ⟨_, rfl, M5.first ha hb (by lia) h2 hl⟩⟩) (fun n5 => ?_)
              refine wpS_bind (elem_ok (Array.getElem?_eq_getElem k1) ?_)
              refine wpS_bind (gallop_ok C (by lia) (by lia) db (da _ (Array.getElem_mem k1)) (S4.kind.trans hκ) (bey_mono hb (by lia)) (fun k2 z1 z2 z3 => ?_))
              dsimp only
              simp only [Nat.zero_add] at z2 z3
              have z3' : ∀ i, k2 ≤ i → i < qb - 1 → r a[k - 1] ≤ rk r b i := fun i u v => bey_tt'.mp (z3 i u v)
              have z2' : ∀ i, i < k2 → rk r b i ≤ r a[k - 1] := fun i u => Nat.le_of_lt (bey_tt.mp (z2 i u))
              refine ifP (fun hk2 => ?_) (fun hk2 => ?_)
              · have M6 := M5.Bk ha hb (by lia : k2 ≤ qb - 1) k0 k1 z3'
                refine ifB (fun e => wpS_pure ⟨S4, .inl ⟨_, rfl, M6.first ha hb (by lia) h2 hl⟩⟩) (fun n6 => ?_)
                refine ifB (fun e => wpS_pure ⟨S4, .inl ⟨_, rfl, M6.done ha hb (.inr (by lia))⟩⟩) (fun n6' => ?_)
                refine wpS_bind (elem_ok (Array.getElem?_eq_getElem k1) ?_)
                have k2b : k2 - 1 < b.size := by lia
                have M7 := M6.A1 ha hb k0 k1 (by lia) k2b (by rw [← rk_get (r := r) k2b]; exact z2' _ (by lia))
                refine ifB (fun e => wpS_pure ⟨S4, .inl ⟨_, rfl, M7.done ha hb (.inl (by lia))⟩⟩) (fun n7 => ?_)
                exact ifP (fun _ => wpS_pure ⟨S4, .inr ⟨_, _, _, _, _, _, rfl, M7, by lia, by lia, by lia⟩⟩) (fun _ => wpS_pure ⟨S4, _, _, _, _, _, _, rfl, M7, by lia, by lia, by lia⟩)
              · have e0 : k2 = qb - 1 := by lia
                refine wpS_bind (elem_ok (Array.getElem?_eq_getElem k1) ?_)
                have k2b : qb - 1 - 1 < b.size := by lia
                have M7 := M5.A1 ha hb k0 k1 (by lia) k2b (by rw [← rk_get (r := r) k2b]; exact z2' _ (by lia))
                refine ifB (fun e => wpS_pure ⟨S4, .inl ⟨_, rfl, M7.done ha hb (.inl (by lia))⟩⟩) (fun n7 => ?_)
                exact ifP (fun _ => wpS_pure ⟨S4, .inr ⟨_, _, _, _, _, _, rfl, M7, by lia, by lia, by lia⟩⟩) (fun _ => wpS_pure ⟨S4, _, _, _, _, _, _, rfl, M7, by lia, by lia, by lia⟩)
            · have e0 : k = qa := by lia
              subst e0
              refine wpS_bind (elem_ok (Array.getElem?_eq_getElem qb1) ?_)
              have M5 := (M3).B1 ha hb qa0 qa1 qb0 qb1 (by rw [← rk_get (r := r) qa1]; exact y2' _ (by lia))
              refine ifB (fun e => wpS_pure ⟨S4, .inl ⟨_, rfl, M5.first ha hb (by lia) h2 hl⟩⟩) (fun n5 => ?_)
              refine wpS_bind (elem_ok (Array.getElem?_eq_getElem qa1) ?_)
              refine wpS_bind (gallop_ok C (by lia) (by lia) db (da _ (Array.getElem_mem qa1)) (S4.kind.trans hκ) (bey_mono hb (by lia)) (fun k2 z1 z2 z3 => ?_))
              dsimp only
              simp only [Nat.zero_add] at z2 z3
              have z3' : ∀ i, k2 ≤ i → i < qb - 1 → r a[k - 1] ≤ rk r b i := fun i u v => bey_tt'.mp (z3 i u v)
              have z2' : ∀ i, i < k2 → rk r b i ≤ r a[k - 1] := fun i u => Nat.le_of_lt (bey_tt.mp (z2 i u))
              refine ifP (fun hk2 => ?_) (fun hk2 => ?_)
              · have M6 := M5.Bk ha hb (by lia : k2 ≤ qb - 1) qa0 qa1 z3'
                refine ifB (fun e => wpS_pure ⟨S4, .inl ⟨_, rfl, M6.first ha hb (by lia) h2 hl⟩⟩) (fun n6 => ?_)
                refine ifB (fun e => wpS_pure ⟨S4, .inl ⟨_, rfl, M6.done ha hb (.inr (by lia))⟩⟩) (fun n6' => ?_)
                refine wpS_bind (elem_ok (Array.getElem?_eq_getElem qa1) ?_)
                have k2b : k2 - 1 < b.size := by lia
                have M7 := M6.A1 ha hb qa0 qa1 (by lia) k2b (by rw [← rk_get (r := r) k2b]; exact z2' _ (by lia))
                refine ifB (fun e => wpS_pure ⟨S4, .inl ⟨_, rfl, M7.done ha hb (.inl (by lia))⟩⟩) (fun n7 => ?_)
                exact ifP (fun _ => wpS_pure ⟨S4, .inr ⟨_, _, _, _, _, _, rfl, M7, by lia, by lia, by lia⟩⟩) (fun _ => wpS_pure ⟨S4, _, _, _, _, _, _, rfl, M7, by lia, by lia, by lia⟩)
              · have e0 : k2 = qb - 1 := by lia
                refine wpS_bind (elem_ok (Array.getElem?_eq_getElem qa1) ?_)
                have k2b : qb - 1 - 1 < b.size := by lia
                have M7 := M5.A1 ha hb qa0 qa1 (by lia) k2b (by rw [← rk_get (r := r) k2b]; exact z2' _ (by lia))
                refine ifB (fun e => wpS_pure ⟨S4, .inl ⟨_, rfl, M7.done ha hb (.inl (by lia))⟩⟩) (fun n7 => ?_)
                exact ifP (fun _ => wpS_pure ⟨S4, .inr ⟨_, _, _, _, _, _, rfl, M7, by lia, by lia, by lia⟩⟩) (fun _ => wpS_pure ⟨S4, _, _, _, _, _, _, rfl, M7, by lia, by lia, by lia⟩)
end TS
namespace TS
open PySem PyProof.Rows
section
variable {r : Keyed → Nat}
theorem seg_go (s : Nat) : ∀ (l : List Keyed) (n : Nat) (arr : Array Keyed), s + n + l.length ≤ arr.size →
    ((l.zipIdx n).foldl (fun a x => a.setIfInBounds (s + x.2) x.1) arr).toList = arr.toList.take (s + n) ++ l ++ arr.toList.drop (s + n + l.length)
  | [], n, arr, h => by simp
  | x :: l, n, arr, h => by
    rw [List.length_cons] at h
    rw [List.zipIdx_cons, List.foldl_cons, seg_go s l (n + 1) _ (by rw [Array.size_setIfInBounds]; lia), Array.toList_setIfInBounds]
    have hl : s + n < arr.toList.length := by rw [Array.length_toList]; lia
    rw [List.length_cons, List.drop_set, if_pos (by lia), show s + (n + 1) = s + n + 1 by lia, show s + n + 1 + l.length = s + n + (l.length + 1) by lia]
    congr 1
    rw [List.take_succ, List.take_set, List.getElem?_set_self hl, List.set_eq_of_length_le (by rw [List.length_take]; lia)]
    simp
theorem seg_set (l : List Keyed) (s : Nat) (arr : Array Keyed) (h : s + l.length ≤ arr.size) : (l.zipIdx.foldl (fun a x => a.setIfInBounds (s + x.2) x.1) arr).toList = arr.toList.take s ++ l ++ arr.toList.drop (s + l.length) := seg_go s l 0 arr (by lia)
noncomputable def rkl (r : Keyed → Nat) (l : List Keyed) (i : Nat) : Nat := match l[i]? with
  | some x => r x
  | none => 0
theorem rk_l (a : Array Keyed) (i : Nat) : rk r a i = rkl r a.toList i := by
  unfold rk rkl
  rw [Array.getElem?_toList]
  all_goals (cases a[i]? <;> rfl)
theorem rkl_at {l : List Keyed} {i : Nat} {x : Keyed} (h : l[i]? = some x) : rkl r l i = r x := by unfold rkl; rw [h]
theorem rkl_mid {P X Z : List Keyed} {i : Nat} (h : i < X.length) : rkl r (P ++ X ++ Z) (P.length + i) = rkl r X i := by
  unfold rkl
  rw [List.append_assoc, List.getElem?_append_right (by lia), show P.length + i - P.length = i by lia, List.getElem?_append_left h]
theorem rkl_mem {l : List Keyed} {x : Keyed} (h : x ∈ l) : ∃ i, i < l.length ∧ rkl r l i = r x := by
  obtain ⟨i, hi⟩ := List.getElem?_of_mem h
  exact ⟨i, (List.getElem?_eq_some_iff.mp hi).1, rkl_at hi⟩
theorem srt_rkl {l : List Keyed} (hs : Srt r l) {i j : Nat} (hij : i ≤ j) (hj : j < l.length) : rkl r l i ≤ rkl r l j := by
  have := srt_rk (r := r) (l := l.toArray) (by simpa using hs) hij (by simpa using hj)
  rw [rk_l, rk_l] at this
  simpa using this
theorem bey_seg {a : Array Keyed} {base n : Nat} (hs : ∀ i j, i ≤ j → j < n → rk r a (base + i) ≤ rk r a (base + j)) {left : Bool} {k : Nat} : ∀ i j, i ≤ j → j < n → bey left k (rk r a (base + j)) = true → bey left k (rk r a (base + i)) = true := by
  intro i j hij hj h
  have := hs i j hij hj
  cases left with
  | true => rw [bey_tt] at h ⊢; lia
  | false => rw [bey_ff] at h ⊢; lia
theorem rkl_drop {l : List Keyed} {k i : Nat} : rkl r (l.drop k) i = rkl r l (k + i) := by
  unfold rkl; rw [List.getElem?_drop]
theorem rkl_take {l : List Keyed} {k i : Nat} (h : i < k) : rkl r (l.take k) i = rkl r l i := by
  unfold rkl; rw [List.getElem?_take, if_pos h]
end
variable {prog : Program} {w : World} {A : Around} {E : Value → Shared → Prop} {s : Shared} {κ : SortKind} {dom : Keyed → Prop} {r : Keyed → Nat}
theorem set_ok {Q : PUnit → SortSt → Prop} {st st' : SortSt} (h : Q ⟨⟩ st') : wpS (model prog w) A E s (set st' : StateT SortSt Sem PUnit) Q st := by
  unfold wpS
  rw [StateT.run_set]
  exact wpAny_pure ⟨rfl, h⟩
theorem mergeAt_ok (C : Cmp prog w A E s κ dom r) {i pw pw2 : Nat} {P X Y Z : List Keyed} {Q : Bool → SortSt → Prop} {st : SortSt} (hκ : kindOf st = κ) (hf : failedOf st = none) (hA : (arrOf st).toList = P ++ X ++ Y ++ Z)
    (hp1 : (pendingOf st)[i]? = some (P.length, X.length, pw)) (hp2 : (pendingOf st)[i + 1]? = some (P.length + X.length, Y.length, pw2)) (hX : Srt r X) (hY : Srt r Y) (x0 : 0 < X.length) (y0 : 0 < Y.length) (hd : ∀ x ∈ arrOf st, dom x)
    (kq : ∀ R st', kindOf st' = κ → failedOf st' = none → pendingOf st' = ((pendingOf st).setIfInBounds i (P.length, X.length + Y.length, pw)).eraseIdxIfInBounds (i + 1) → (arrOf st').toList = P ++ R ++ Z → Srt r R → R.Perm (X ++ Y) → Q true st') :
    wpS (model prog w) A E s (mergeAt' i) Q st := by
  have hsz : (arrOf st).size = P.length + X.length + Y.length + Z.length := by rw [← Array.length_toList, hA]; simp; lia
  have rX : ∀ j, j < X.length → rk r (arrOf st) (P.length + j) = rkl r X j := fun j hj => by
    rw [rk_l, hA, List.append_assoc]; exact rkl_mid hj
  have rY : ∀ j, j < Y.length → rk r (arrOf st) (P.length + X.length + j) = rkl r Y j := fun j hj => by
    rw [rk_l, hA, ← List.length_append]; exact rkl_mid hj
  unfold mergeAt'
  k_delta "mergeAt"
  dsimp only
  refine wpS_bind (wpS_get ?_)
  rw [show (PyProof.Rows.pendingOf st)[i]? = _ from hp1, show (PyProof.Rows.pendingOf st)[i + 1]? = _ from hp2]
  dsimp only
  refine wpS_bind (set_ok ?_)
  have hsb : P.length + X.length < (arrOf st).size := by lia
  refine wpS_bind (elem_ok (Array.getElem?_eq_getElem hsb) ?_)
  have ryb : r (arrOf st)[P.length + X.length] = rkl r Y 0 := by
    rw [← rk_get (r := r) hsb, ← rY 0 y0]; rfl
  refine wpS_bind (gallop_ok (arr := arrOf st) C (by lia) x0 hd (hd _ (Array.getElem_mem hsb)) hκ (bey_seg fun u v huv hv => ?_) (fun k k1 k2 k3 => ?_))
  · rw [rX u (by lia), rX v hv]; exact srt_rkl hX huv hv
  dsimp only
  rw [ryb] at k2 k3
  have k2' : ∀ j, j < k → rkl r X j ≤ rkl r Y 0 := fun j hj => by
    have := bey_ff.mp (k2 j hj)
    rwa [rX j (by lia)] at this
  have k3' : ∀ j, k ≤ j → j < X.length → rkl r Y 0 < rkl r X j := fun j u v => by
    have := bey_ff'.mp (k3 j u v)
    rwa [rX j v] at this
  have hYm : ∀ y ∈ Y, rkl r Y 0 ≤ r y := fun y hy => by
    obtain ⟨j, j1, j2⟩ := rkl_mem (r := r) hy
    rw [← j2]; exact srt_rkl hY (Nat.zero_le _) j1
  refine ifB (fun e => wpS_pure ?_) (fun n1 => ?_)
  · refine kq (X ++ Y) _ hκ hf rfl (by rw [← List.append_assoc]; exact hA) ?_ (List.Perm.refl _)
    refine List.pairwise_append.mpr ⟨hX, hY, fun x hx y hy => ?_⟩
    obtain ⟨j, j1, j2⟩ := rkl_mem (r := r) hx
    have := k2' j (by lia)
    have := hYm y hy
    show r x ≤ r y
    lia
  have hsl : P.length + k + (X.length - k) - 1 < (arrOf st).size := by lia
  refine wpS_bind (elem_ok (Array.getElem?_eq_getElem hsl) ?_)
  have rxl : r (arrOf st)[P.length + k + (X.length - k) - 1] = rkl r X (X.length - 1) := by
    rw [← rk_get (r := r) hsl, ← rX (X.length - 1) (by lia)]
    congr 1; lia
  refine wpS_bind (gallop_ok (arr := arrOf st) C (by lia) (by lia) hd (hd _ (Array.getElem_mem hsl)) hκ (bey_seg fun u v huv hv => ?_) (fun m m1 m2 m3 => ?_))
  · rw [rY u (by lia), rY v hv]; exact srt_rkl hY huv hv
  dsimp only
  rw [rxl] at m2 m3
  have m2' : ∀ j, j < m → rkl r Y j < rkl r X (X.length - 1) := fun j hj => by
    have := bey_tt.mp (m2 j hj)
    rwa [rY j (by lia)] at this
  have m3' : ∀ j, m ≤ j → j < Y.length → rkl r X (X.length - 1) ≤ rkl r Y j := fun j u v => by
    have := bey_tt'.mp (m3 j u v)
    rwa [rY j v] at this
  have hXm : ∀ x ∈ X, r x ≤ rkl r X (X.length - 1) := fun x hx => by
    obtain ⟨j, j1, j2⟩ := rkl_mem (r := r) hx
    rw [← j2]; exact srt_rkl hX (by lia) (by lia)
  have m0 : 0 < m := by
    refine Nat.pos_of_ne_zero fun e => ?_
    have u := m3' 0 (by lia) y0
    have v := k3' (X.length - 1) (by lia) (by lia)
    lia
  refine ifB (fun e => by lia) (fun n2 => ?_)
  have ex : ((arrOf st).extract (P.length + k) (P.length + X.length)).toList = X.drop k := by
    rw [ext_cut, hA, List.append_assoc, List.append_assoc, List.drop_append, List.drop_eq_nil_of_le (by lia : P.length ≤ P.length + k), List.nil_append, show P.length + k - P.length = k by lia, List.drop_append_of_le_length k1, List.take_append_of_le_length (by rw [List.length_drop]; lia), List.take_of_length_le (by rw [List.length_drop]; lia)]
  have ey : ((arrOf st).extract (P.length + X.length) (P.length + X.length + m)).toList = Y.take m := by
    rw [ext_cut, hA, List.append_assoc, ← List.length_append, List.drop_append, List.drop_eq_nil_of_le (Nat.le_refl _), Nat.sub_self, List.nil_append, List.drop_zero, Nat.add_sub_cancel_left, List.take_append_of_le_length m1]
  have dX : ∀ x ∈ (arrOf st).extract (P.length + k) (P.length + X.length), dom x := fun x hx => hd x (by
    rw [← Array.mem_toList_iff, ex] at hx
    rw [← Array.mem_toList_iff, hA]
    simp [List.mem_of_mem_drop hx])
  have dY : ∀ x ∈ (arrOf st).extract (P.length + X.length) (P.length + X.length + m), dom x := fun x hx => hd x (by
    rw [← Array.mem_toList_iff, ey] at hx
    rw [← Array.mem_toList_iff, hA]
    simp [List.mem_of_mem_take hx])
  generalize (arrOf st).extract (P.length + k) (P.length + X.length) = x at *
  generalize (arrOf st).extract (P.length + X.length) (P.length + X.length + m) = y at *
  have sx : x.size = X.length - k := by rw [← Array.length_toList, ex, List.length_drop]
  have sy : y.size = m := by rw [← Array.length_toList, ey, List.length_take]; lia
  have hx : Srt r x.toList := by rw [ex]; exact List.Pairwise.sublist (List.drop_sublist _ _) hX
  have hy : Srt r y.toList := by rw [ey]; exact List.Pairwise.sublist (List.take_sublist _ _) hY
  have rx0 : rk r x 0 = rkl r X k := by rw [rk_l, ex, rkl_drop]; rfl
  have rxe : rk r x (x.size - 1) = rkl r X (X.length - 1) := by rw [rk_l, ex, rkl_drop, sx]; congr 1; lia
  have ry0 : rk r y 0 = rkl r Y 0 := by rw [rk_l, ey, rkl_take m0]
  have rye : rk r y (y.size - 1) = rkl r Y (m - 1) := by rw [rk_l, ey, sy, rkl_take (by lia)]
  have fin : ∀ (R : Array Keyed) (st1 st2 : SortSt), arrOf st1 = arrOf st → Good r x y R → kindOf st2 = κ → failedOf st2 = none → pendingOf st2 = ((pendingOf st).setIfInBounds i (P.length, X.length + Y.length, pw)).eraseIdxIfInBounds (i + 1) → arrOf st2 = R.toList.zipIdx.foldl (fun a x => a.setIfInBounds (P.length + k + x.2) x.1) (arrOf st1) → Q true st2 := fun R st1 st2 h1 g f1 f2 f3 f4 => by
    obtain ⟨g1, g2⟩ := g
    rw [ex, ey] at g2
    have lR : R.toList.length = X.length - k + m := by rw [g2.length_eq, List.length_append, List.length_drop, List.length_take]; lia
    refine kq (X.take k ++ R.toList ++ Y.drop m) st2 f1 f2 f3 ?_ ?_ ?_
    · rw [f4, h1, seg_set _ _ _ (by lia), lR, hA]
      have e1 : (P ++ X ++ Y ++ Z).take (P.length + k) = P ++ X.take k := by
        rw [List.append_assoc, List.append_assoc, List.take_append, List.take_of_length_le (by lia), show P.length + k - P.length = k by lia, List.take_append_of_le_length k1]
      have e2 : (P ++ X ++ Y ++ Z).drop (P.length + k + (X.length - k + m)) = Y.drop m ++ Z := by
        rw [show P.length + k + (X.length - k + m) = (P ++ X).length + m by rw [List.length_append]; lia, List.append_assoc, List.drop_append, List.drop_eq_nil_of_le (by lia), Nat.add_sub_cancel_left, List.nil_append, List.drop_append_of_le_length m1]
      rw [e1, e2]
      simp [List.append_assoc]
    · have mem : ∀ z ∈ R.toList, z ∈ X.drop k ∨ z ∈ Y.take m := fun z hz => List.mem_append.mp (g2.mem_iff.mp hz)
      refine List.pairwise_append.mpr ⟨List.pairwise_append.mpr ⟨List.Pairwise.sublist (List.take_sublist _ _) hX, g1, fun u hu v hv => ?_⟩, List.Pairwise.sublist (List.drop_sublist _ _) hY, fun u hu v hv => ?_⟩
      · obtain ⟨j, j1, j2⟩ := rkl_mem (r := r) hu
        rw [List.length_take] at j1
        rw [rkl_take (by lia)] at j2
        have a1 := k2' j (by lia)
        show r u ≤ r v
        rcases mem v hv with hv | hv
        · obtain ⟨j', c1, c2⟩ := rkl_mem (r := r) hv
          rw [List.length_drop] at c1
          rw [rkl_drop] at c2
          have := srt_rkl hX (show j ≤ k + j' by lia) (by lia)
          lia
        · have := hYm v (List.mem_of_mem_take hv)
          lia
      · obtain ⟨j, j1, j2⟩ := rkl_mem (r := r) hv
        rw [List.length_drop] at j1
        rw [rkl_drop] at j2
        have a1 := m3' (m + j) (by lia) (by lia)
        show r u ≤ r v
        rcases List.mem_append.mp hu with hu | hu
        · have := hXm u (List.mem_of_mem_take hu)
          lia
        · rcases mem u hu with hu | hu
          · have := hXm u (List.mem_of_mem_drop hu)
            lia
          · obtain ⟨j', c1, c2⟩ := rkl_mem (r := r) hu
            rw [List.length_take] at c1
            rw [rkl_take (by lia)] at c2
            have := m2' j' (by lia)
            lia
    · have p1 : (X.take k ++ R.toList ++ Y.drop m).Perm (X.take k ++ (X.drop k ++ Y.take m) ++ Y.drop m) := List.Perm.append_right _ (List.Perm.append_left _ g2)
      refine p1.trans ?_
      rw [← List.append_assoc, List.take_append_drop, List.append_assoc, List.take_append_drop]
  refine ifP (fun hle => ?_) (fun hle => ?_)
  · refine wpS_bind (mergeLo_ok C hκ hx hy dX dY (by lia) (by lia) (by rw [rx0, ry0]; exact Nat.le_of_lt (k3' k (Nat.le_refl _) (by lia))) (fun z hz => ?_) (fun R st1 S1 g => ?_))
    · rw [rxe]
      rw [ey] at hz
      obtain ⟨j', c1, c2⟩ := rkl_mem (r := r) hz
      rw [List.length_take] at c1
      rw [rkl_take (by lia)] at c2
      have := m2' j' (by lia)
      lia
    · refine wpS_bind (wpS_modify (wpS_bind (wpS_get (wpS_pure ?_))))
      rw [show (PyProof.Rows.failedOf st1).isNone = true by rw [S1.fail]; show (failedOf st).isNone = true; rw [hf]; rfl]
      exact fin R st1 _ S1.arr g (S1.kind.trans hκ) (S1.fail.trans hf) S1.pend rfl
  · refine wpS_bind (mergeHi_ok C hκ hx hy dX dY (by lia) (by lia) (by rw [rye, rxe]; exact Nat.le_of_lt (m2' _ (by lia))) (fun z hz => ?_) (fun R st1 S1 g => ?_))
    · rw [ry0]
      rw [ex] at hz
      obtain ⟨j', c1, c2⟩ := rkl_mem (r := r) hz
      rw [List.length_drop] at c1
      rw [rkl_drop] at c2
      have := k3' (k + j') (by lia) (by lia)
      lia
    · refine wpS_bind (wpS_modify (wpS_bind (wpS_get (wpS_pure ?_))))
      rw [show (PyProof.Rows.failedOf st1).isNone = true by rw [S1.fail]; show (failedOf st).isNone = true; rw [hf]; rfl]
      exact fin R st1 _ S1.arr g (S1.kind.trans hκ) (S1.fail.trans hf) S1.pend rfl
end TS
namespace TS
open PySem PyProof.Rows
section
variable {r : Keyed → Nat}
def Up (r : Keyed → Nat) (a : Array Keyed) (lo n : Nat) : Prop := ∀ i j, i ≤ j → j < n → rk r a (lo + i) ≤ rk r a (lo + j)
def Down (r : Keyed → Nat) (a : Array Keyed) (lo n : Nat) : Prop := ∀ i j, i ≤ j → j < n → rk r a (lo + j) ≤ rk r a (lo + i)
theorem rk_of {a b : Array Keyed} {i j : Nat} (h : a[i]? = b[j]?) : rk r a i = rk r b j := by unfold rk; rw [h]
theorem rk_mirror {a : Array Keyed} {i j : Nat} (hj : j ≤ a.size) (k : Nat) : rk r (mirror a i j ((j - i) / 2)) k = if i ≤ k ∧ k < j then rk r a (i + j - 1 - k) else rk r a k := by
  have e := getElem?_mirror_all (i := i) hj k
  by_cases h : i ≤ k ∧ k < j
  · rw [if_pos h] at e ⊢; exact rk_of e
  · rw [if_neg h] at e ⊢; exact rk_of e
theorem rk_bub {a : Array Keyed} {src d : Nat} (hs : src < a.size) (hd : d ≤ src) (k : Nat) : rk r (bubble a src d) k = if k = src - d then rk r a src else if src - d < k ∧ k ≤ src then rk r a (k - 1) else rk r a k := by
  have e := getElem?_bubble hs d hd k
  by_cases h1 : k = src - d
  · rw [if_pos h1] at e ⊢; exact rk_of e
  · rw [if_neg h1] at e ⊢
    by_cases h2 : src - d < k ∧ k ≤ src
    · rw [if_pos h2] at e ⊢; exact rk_of e
    · rw [if_neg h2] at e ⊢; exact rk_of e
theorem Up.succ {a : Array Keyed} {lo n : Nat} (h : Up r a lo n) (h1 : 1 ≤ n) (hn : rk r a (lo + n - 1) ≤ rk r a (lo + n)) : Up r a lo (n + 1) := by
  intro i j hij hj
  by_cases e : j = n
  · subst e
    by_cases e2 : i = j
    · subst e2; exact Nat.le_refl _
    · have := h i (j - 1) (by lia) (by lia)
      rw [show lo + (j - 1) = lo + j - 1 by lia] at this
      lia
  · exact h i j hij (by lia)
theorem Down.succ {a : Array Keyed} {lo n : Nat} (h : Down r a lo n) (h1 : 1 ≤ n) (hn : rk r a (lo + n) ≤ rk r a (lo + n - 1)) : Down r a lo (n + 1) := by
  intro i j hij hj
  by_cases e : j = n
  · subst e
    by_cases e2 : i = j
    · subst e2; exact Nat.le_refl _
    · have := h i (j - 1) (by lia) (by lia)
      rw [show lo + (j - 1) = lo + j - 1 by lia] at this
      lia
  · exact h i j hij (by lia)
end
structure Sg (st0 : SortSt) (lo n : Nat) (st : SortSt) : Prop where
  kind : kindOf st = kindOf st0
  fail : failedOf st = failedOf st0
  pend : pendingOf st = pendingOf st0
  perm : (arrOf st).Perm (arrOf st0)
  out : ∀ i, (i < lo ∨ lo + n ≤ i) → (arrOf st)[i]? = (arrOf st0)[i]?
theorem Sg.refl {st : SortSt} {lo n : Nat} : Sg st lo n st := ⟨rfl, rfl, rfl, .refl _, fun _ _ => rfl⟩
theorem Sg.trans {a b c : SortSt} {lo n : Nat} (h : Sg a lo n b) (g : Sg b lo n c) : Sg a lo n c := ⟨g.kind.trans h.kind, g.fail.trans h.fail, g.pend.trans h.pend, g.perm.trans h.perm, fun i hi => (g.out i hi).trans (h.out i hi)⟩
theorem Sg.size {a b : SortSt} {lo n : Nat} (h : Sg a lo n b) : (arrOf b).size = (arrOf a).size := h.perm.size_eq
theorem Sg.wide {a b : SortSt} {lo n m : Nat} (h : Sg a lo n b) (hm : n ≤ m) : Sg a lo m b := ⟨h.kind, h.fail, h.pend, h.perm, fun i hi => h.out i (by lia)⟩
theorem Sg.rev {st : SortSt} {lo n i j : Nat} (hi : lo ≤ i) (hj : j ≤ lo + n) (hz : lo + n ≤ (arrOf st).size) : Sg st lo n (setArr st (mirror (arrOf st) i j ((j - i) / 2))) :=
  ⟨rfl, rfl, rfl, mirror_perm _ _ _ _, fun k hk => by
    have e := getElem?_mirror_all (xs := arrOf st) (i := i) (j := j) (by lia) k
    rw [if_neg (by lia)] at e
    exact e⟩
theorem Sg.dom {a b : SortSt} {lo n : Nat} {dom : Keyed → Prop} (h : Sg a lo n b) (hd : ∀ x ∈ arrOf a, dom x) : ∀ x ∈ arrOf b, dom x := fun x hx => hd x (by
  have := (Array.perm_iff_toList_perm.mp h.perm).mem_iff (a := x)
  rw [Array.mem_toList_iff, Array.mem_toList_iff] at this
  exact this.mp hx)
variable {prog : Program} {w : World} {A : Around} {E : Value → Shared → Prop} {s : Shared} {κ : SortKind} {dom : Keyed → Prop} {r : Keyed → Nat}
theorem ltAt_ok (C : Cmp prog w A E s κ dom r) {i j : Nat} {Q : Option Bool → SortSt → Prop} {st : SortSt} (hκ : kindOf st = κ) (hd : ∀ x ∈ arrOf st, dom x) (hi : i < (arrOf st).size) (hj : j < (arrOf st).size) (k : Q (some (decide (rk r (arrOf st) i < rk r (arrOf st) j))) st) :
    wpS (model prog w) A E s (ltAt' i j) Q st := by
  rw [ltAt'_eq]
  refine wpS_bind (wpS_get ?_)
  refine wpS_bind (elem_ok (Array.getElem?_eq_getElem hi) ?_)
  refine wpS_bind (elem_ok (Array.getElem?_eq_getElem hj) ?_)
  rw [rk_get hi, rk_get hj] at k
  exact C.lt (hd _ (Array.getElem_mem hi)) (hd _ (Array.getElem_mem hj)) hκ k
theorem rev_ok {i j : Nat} {Q : Unit → SortSt → Prop} {st : SortSt} (k : Q () (setArr st (mirror (arrOf st) i j ((j - i) / 2)))) : wpS (model prog w) A E s (reverseSlice' i j) Q st := by
  rw [reverseSlice'_eq]
  exact wpS_modify k
theorem binary_ok (C : Cmp prog w A E s κ dom r) {lo n ok : Nat} {Q : Bool → SortSt → Prop} {st : SortSt} (hκ : kindOf st = κ) (hd : ∀ x ∈ arrOf st, dom x) (hz : lo + n ≤ (arrOf st).size) (hok : ok ≤ n) (hs : Up r (arrOf st) lo ok)
    (k : ∀ st', Sg st lo n st' → Up r (arrOf st') lo n → Q true st') : wpS (model prog w) A E s (binarySort' lo n ok) Q st := by
  rw [binarySort'_eq]
  dsimp only
  refine wpS_bind (wpS_mono (wpS_forRange (I := fun x c st1 => c = (none, ()) ∧ Sg st lo n st1 ∧ Up r (arrOf st1) lo (min x n)) (Q := fun c st1 => c = (none, ()) ∧ Sg st lo n st1 ∧ Up r (arrOf st1) lo n) ?step ?fin ?init) ?post)
  case post =>
    rintro c st1 ⟨rfl, h1, h2⟩
    exact wpS_pure (k st1 h1 h2)
  case fin =>
    rintro c st1 ⟨rfl, h1, h2⟩
    refine ⟨rfl, h1, fun i j hij hj => h2 i j hij (by lia)⟩
  case init =>
    refine ⟨rfl, .refl, fun i j hij hj => ?_⟩
    by_cases e : i = j
    · subst e; exact Nat.le_refl _
    · exact hs i j hij (by lia)
  case step =>
    rintro x c st1 hx1 hx2 ⟨rfl, g, u⟩
    rw [Nat.min_eq_left (by lia)] at u
    have gz := g.size
    have gd := g.dom hd
    have gk := g.kind.trans hκ
    try dsimp only
    refine wpS_bind (wpS_mono (wpS_forRange (I := fun y c st2 => st2 = st1 ∧ ∃ l h, c = (none, l, h) ∧ l ≤ h ∧ h ≤ x ∧ h - l + y ≤ x ∧ (∀ i, i < l → rk r (arrOf st1) (lo + i) ≤ rk r (arrOf st1) (lo + x)) ∧ ∀ i, h ≤ i → i < x → rk r (arrOf st1) (lo + x) ≤ rk r (arrOf st1) (lo + i))
      (Q := fun c st2 => st2 = st1 ∧ ∃ l h, c = (none, l, h) ∧ l ≤ x ∧ (∀ i, i < l → rk r (arrOf st1) (lo + i) ≤ rk r (arrOf st1) (lo + x)) ∧ ∀ i, l ≤ i → i < x → rk r (arrOf st1) (lo + x) ≤ rk r (arrOf st1) (lo + i)) ?s1 ?f1 ⟨rfl, 0, x, rfl, by lia, by lia, by lia, fun i hi => by lia, fun i h1 h2 => by lia⟩) ?p1)
    case f1 =>
      rintro c st2 ⟨rfl, l, h, rfl, b1, b2, b3, b4, b5⟩
      exact ⟨rfl, l, h, rfl, by lia, b4, fun i c1 c2 => b5 i (by lia) c2⟩
    case s1 =>
      rintro y c st2 _ hy ⟨rfl, l, h, rfl, b1, b2, b3, b4, b5⟩
      dsimp only
      refine ifP (fun q => wpS_pure ⟨rfl, l, h, rfl, by lia, b4, fun i c1 c2 => b5 i (by lia) c2⟩) (fun q => ?_)
      refine wpS_bind (ltAt_ok C gk gd (by lia) (by lia) ?_)
      dsimp only
      refine ifP (fun q2 => ?_) (fun q2 => ?_)
      · have q2 := of_decide_eq_true q2
        refine wpS_pure ⟨rfl, _, _, rfl, by lia, by lia, by lia, b4, fun i c1 c2 => ?_⟩
        have := u ((l + h) / 2) i c1 (by lia)
        lia
      · rw [decide_eq_true_eq] at q2
        refine wpS_pure ⟨rfl, _, _, rfl, by lia, by lia, by lia, fun i c1 => ?_, b5⟩
        have := u i ((l + h) / 2) (by lia) (by lia)
        lia
    case p1 =>
      rintro c st2 ⟨rfl, l, h, rfl, b1, b4, b5⟩
      dsimp only
      rw [moveDown'_eq]
      refine wpS_bind (wpS_modify (wpS_pure ⟨rfl, g.trans ⟨rfl, rfl, rfl, bubble_perm _ _ _, fun i hi => ?_⟩, ?_⟩))
      · have e := getElem?_bubble (xs := arrOf st2) (src := lo + x) (by lia) (lo + x - (lo + l)) (by lia) i
        rw [if_neg (by lia), if_neg (by lia)] at e
        exact e
      · rw [Nat.min_eq_left (by lia)]
        have rb := fun t => rk_bub (r := r) (a := arrOf st2) (src := lo + x) (d := lo + x - (lo + l)) (by lia) (by lia) t
        show Up r (bubble (arrOf st2) (lo + x) (lo + x - (lo + l))) lo (x + 1)
        have es : lo + x - (lo + x - (lo + l)) = lo + l := by lia
        simp only [es] at rb
        intro i j hij hj
        rw [rb, rb]
        by_cases c1 : lo + i = lo + l
        · rw [if_pos c1]
          by_cases c2 : lo + j = lo + l
          · rw [if_pos c2]; exact Nat.le_refl _
          · rw [if_neg c2, if_pos (by lia), show lo + j - 1 = lo + (j - 1) by lia]
            exact b5 (j - 1) (by lia) (by lia)
        · rw [if_neg c1]
          by_cases c3 : lo + l < lo + i ∧ lo + i ≤ lo + x
          · rw [if_pos c3, if_neg (by lia), if_pos (by lia), show lo + i - 1 = lo + (i - 1) by lia, show lo + j - 1 = lo + (j - 1) by lia]
            exact u (i - 1) (j - 1) (by lia) (by lia)
          · rw [if_neg c3]
            by_cases c2 : lo + j = lo + l
            · rw [if_pos c2]
              exact b4 i (by lia)
            · rw [if_neg c2]
              by_cases c4 : lo + l < lo + j ∧ lo + j ≤ lo + x
              · rw [if_pos c4, show lo + j - 1 = lo + (j - 1) by lia]
                exact u i (j - 1) (by lia) (by lia)
              · rw [if_neg c4]
                exact u i j hij (by lia)
end TS
namespace TS
open PySem PyProof.Rows
variable {prog : Program} {w : World} {A : Around} {E : Value → Shared → Prop} {s : Shared} {κ : SortKind} {dom : Keyed → Prop} {r : Keyed → Nat}
theorem asc_loop {lo nrem a : Nat} {st : SortSt} {f : Nat → AscSt → StateT SortSt Sem (ForInStep AscSt)} (h1 : 1 ≤ a) (ha : a ≤ nrem) (hu : Up r (arrOf st) lo a)
    (hf : ∀ x m (Q : ForInStep AscSt → SortSt → Prop), 1 ≤ m → m < nrem → (rk r (arrOf st) (lo + m) < rk r (arrOf st) (lo + m - 1) → Q (.done (none, m)) st) → (rk r (arrOf st) (lo + m - 1) ≤ rk r (arrOf st) (lo + m) → Q (.yield (none, m + 1)) st) → wpS (model prog w) A E s (f x (none, m)) Q st) :
    wpS (model prog w) A E s (forIn [a:nrem] (none, a) f) (fun c st' => st' = st ∧ ∃ m, c = (none, m) ∧ a ≤ m ∧ m ≤ nrem ∧ Up r (arrOf st) lo m ∧ (m < nrem → rk r (arrOf st) (lo + m) < rk r (arrOf st) (lo + m - 1))) st := by
  refine wpS_forRange (I := fun x c st' => st' = st ∧ c = (none, x) ∧ a ≤ x ∧ Up r (arrOf st) lo x) ?_ ?_ ⟨rfl, rfl, Nat.le_refl _, hu⟩
  · rintro x c st' hx1 hx2 ⟨rfl, rfl, b1, b2⟩
    refine hf x x _ (by lia) hx2 (fun q => ⟨rfl, x, rfl, b1, by lia, b2, fun _ => q⟩) (fun q => ⟨rfl, rfl, by lia, b2.succ (by lia) q⟩)
  · rintro c st' ⟨rfl, rfl, b1, b2⟩
    rw [Nat.max_eq_right ha] at *
    exact ⟨rfl, nrem, rfl, ha, Nat.le_refl _, b2, fun z => by lia⟩
theorem desc_loop {lo nrem a : Nat} {st0 : SortSt} {f : Nat → DescSt → StateT SortSt Sem (ForInStep DescSt)} (h1 : 1 ≤ a) (ha : a ≤ nrem) (hz : lo + nrem ≤ (arrOf st0).size) {st : SortSt} (hg : Sg st0 lo nrem st) (hu : Down r (arrOf st) lo a)
    (hf : ∀ x m q st (Q : ForInStep DescSt → SortSt → Prop), Sg st0 lo nrem st → 1 ≤ m → m < nrem → (rk r (arrOf st) (lo + m) < rk r (arrOf st) (lo + m - 1) → (0 < q → Q (.yield (none, m + 1, 0)) (setArr st (mirror (arrOf st) (lo + m - (q + 1)) (lo + m) ((lo + m - (lo + m - (q + 1))) / 2)))) ∧ (q = 0 → Q (.yield (none, m + 1, 0)) st))
      → (rk r (arrOf st) (lo + m - 1) < rk r (arrOf st) (lo + m) → Q (.done (none, m, q)) st) → (rk r (arrOf st) (lo + m - 1) = rk r (arrOf st) (lo + m) → Q (.yield (none, m + 1, q + 1)) st) → wpS (model prog w) A E s (f x (none, m, q)) Q st) :
    wpS (model prog w) A E s (forIn [a:nrem] (none, a, 0) f) (fun c st' => Sg st0 lo nrem st' ∧ ∃ m q, c = (none, m, q) ∧ a ≤ m ∧ m ≤ nrem ∧ Down r (arrOf st') lo m ∧ q + 1 ≤ m ∧ ∀ i, m - (q + 1) ≤ i → i < m → rk r (arrOf st') (lo + i) = rk r (arrOf st') (lo + m - 1)) st := by
  refine wpS_forRange (I := fun x c st' => Sg st0 lo nrem st' ∧ ∃ q, c = (none, x, q) ∧ a ≤ x ∧ Down r (arrOf st') lo x ∧ q + 1 ≤ x ∧ ∀ i, x - (q + 1) ≤ i → i < x → rk r (arrOf st') (lo + i) = rk r (arrOf st') (lo + x - 1)) ?_ ?_ ⟨hg, 0, rfl, Nat.le_refl _, hu, h1, fun i i1 i2 => by rw [show lo + i = lo + a - 1 by lia]⟩
  · rintro x c st' hx1 hx2 ⟨g, q, rfl, b1, b2, b3, b4⟩
    have gz := g.size
    refine hf x x q st' _ g (by lia) hx2 (fun c1 => ⟨fun c2 => ?_, fun c2 => ?_⟩) (fun c1 => ?_) (fun c1 => ?_)
    · have rm := fun t => rk_mirror (r := r) (a := arrOf st') (i := lo + x - (q + 1)) (j := lo + x) (by lia) t
      have rm2 : ∀ t, rk r (mirror (arrOf st') (lo + x - (q + 1)) (lo + x) ((lo + x - (lo + x - (q + 1))) / 2)) t = rk r (arrOf st') t := fun t => by
        rw [rm t]
        split
        · rename_i ht
          have e1 := b4 (t - lo) (by lia) (by lia)
          have e2 := b4 (lo + x - (q + 1) + (lo + x) - 1 - t - lo) (by lia) (by lia)
          rw [show lo + (t - lo) = t by lia] at e1
          rw [show lo + (lo + x - (q + 1) + (lo + x) - 1 - t - lo) = lo + x - (q + 1) + (lo + x) - 1 - t by lia] at e2
          rw [e1, e2]
        · rfl
      refine ⟨g.trans (Sg.rev (by lia) (by lia) (by lia)), 0, rfl, by lia, ?_, by lia, fun i i1 i2 => by rw [show lo + i = lo + (x + 1) - 1 by lia]⟩
      refine Down.succ (fun i j hij hj => ?_) (by lia) ?_
      · show rk r (mirror _ _ _ _) _ ≤ rk r (mirror _ _ _ _) _
        rw [rm2, rm2]; exact b2 i j hij hj
      · show rk r (mirror _ _ _ _) _ ≤ rk r (mirror _ _ _ _) _
        rw [rm2, rm2]; lia
    · exact ⟨g, 0, rfl, by lia, b2.succ (by lia) (by lia), by lia, fun i i1 i2 => by rw [show lo + i = lo + (x + 1) - 1 by lia]⟩
    · exact ⟨g, x, q, rfl, b1, by lia, b2, b3, b4⟩
    · refine ⟨g, q + 1, rfl, by lia, b2.succ (by lia) (by lia), by lia, fun i i1 i2 => ?_⟩
      by_cases e : i = x
      · rw [e, show lo + (x + 1) - 1 = lo + x by lia]
      · rw [show lo + (x + 1) - 1 = lo + x by lia, ← c1]
        exact b4 i (by lia) (by lia)
  · rintro c st' ⟨g, q, rfl, b1, b2, b3, b4⟩
    rw [Nat.max_eq_right ha] at *
    exact ⟨g, nrem, q, rfl, ha, Nat.le_refl _, b2, b3, b4⟩
theorem down_rev {a : Array Keyed} {lo m : Nat} (hz : lo + m ≤ a.size) (d : Down r a lo m) : Up r (mirror a lo (lo + m) ((lo + m - lo) / 2)) lo m := fun i j hij hj => by
  rw [rk_mirror hz, rk_mirror hz, if_pos (by lia), if_pos (by lia)]
  have := d (m - 1 - j) (m - 1 - i) (by lia) (by lia)
  rw [show lo + (lo + m) - 1 - (lo + i) = lo + (m - 1 - i) by lia, show lo + (lo + m) - 1 - (lo + j) = lo + (m - 1 - j) by lia]
  exact this
theorem eq_rev {a : Array Keyed} {lo i m : Nat} (hz : lo + m ≤ a.size) (hi : i ≤ m) (h : ∀ j, i ≤ j → j < m → rk r a (lo + j) = rk r a (lo + m - 1)) (t : Nat) : rk r (mirror a (lo + i) (lo + m) ((lo + m - (lo + i)) / 2)) t = rk r a t := by
  rw [rk_mirror hz]
  split
  · have e1 := h (t - lo) (by lia) (by lia)
    have e2 := h (lo + i + (lo + m) - 1 - t - lo) (by lia) (by lia)
    rw [show lo + (t - lo) = t by lia] at e1
    rw [show lo + (lo + i + (lo + m) - 1 - t - lo) = lo + i + (lo + m) - 1 - t by lia] at e2
    rw [e1, e2]
  · rfl
theorem count_ok (C : Cmp prog w A E s κ dom r) {lo nrem : Nat} {Q : Option Nat → SortSt → Prop} {st : SortSt} (hκ : kindOf st = κ) (hd : ∀ x ∈ arrOf st, dom x) (hz : lo + nrem ≤ (arrOf st).size) (h1 : 1 ≤ nrem)
    (k : ∀ m st', Sg st lo nrem st' → 1 ≤ m → m ≤ nrem → Up r (arrOf st') lo m → Q (some m) st') : wpS (model prog w) A E s (countRun' lo nrem) Q st := by
  unfold countRun'
  k_delta "countRun"
  dsimp only
  refine wpS_bind (wpS_mono (asc_loop (st := st) (lo := lo) (r := r) (Nat.le_refl 1) h1 (fun i j hij hj => by rw [show i = j by lia]; exact Nat.le_refl _) ?_) ?_)
  · intro x m Q m1 m2 k1 k2
    dsimp only
    refine wpS_bind (ltAt_ok C (by first | exact hκ5 | exact hκ) (by first | exact hd5 | exact hd) (by lia) (by lia) ?_)
    dsimp only
    refine ifP (fun q => wpS_pure (k1 (of_decide_eq_true q))) (fun q => wpS_pure (k2 ?_))
    rw [decide_eq_true_eq] at q
    lia
  rintro c st' ⟨rfl, n, rfl, n1, n2, n3, n4⟩
  dsimp only
  refine ifB (fun e => wpS_pure (k _ _ .refl n1 n2 n3)) (fun ne => ?_)
  have n4 := n4 (by lia)
  refine ifP (fun hn => ?_) (fun hn => ?_)
  · refine wpS_bind (ltAt_ok C hκ hd (by lia) (by lia) ?_)
    dsimp only
    refine ifP (fun q => wpS_pure (k _ _ .refl n1 n2 n3)) (fun q => ?_)
    rw [decide_eq_true_eq] at q
    have all : ∀ j, 0 ≤ j → j < n → rk r (arrOf st') (lo + j) = rk r (arrOf st') (lo + n - 1) := fun j _ hj => by
      have a1 := n3 0 j (by lia) hj
      have a2 := n3 j (n - 1) (by lia) (by lia)
      rw [show lo + (n - 1) = lo + n - 1 by lia] at a2
      rw [Nat.add_zero] at a1
      lia
    refine wpS_bind (rev_ok ?_)
    have g3 := Sg.rev (st := st') (lo := lo) (n := nrem) (i := lo) (j := lo + n) (by lia) (by lia) (by lia)
    have er := fun t => eq_rev (r := r) (a := arrOf st') (lo := lo) (i := 0) (m := n) (by lia) (by lia) all t
    simp only [Nat.add_zero] at er
    have d3 : Down r (arrOf (setArr st' (mirror (arrOf st') lo (lo + n) ((lo + n - lo) / 2)))) lo (n + 1) := by
      refine Down.succ (fun i j hij hj => ?_) n1 ?_
      · show rk r (mirror _ _ _ _) _ ≤ rk r (mirror _ _ _ _) _
        rw [er, er, all i (by lia) (by lia), all j (by lia) (by lia)]
        exact Nat.le_refl _
      · show rk r (mirror _ _ _ _) _ ≤ rk r (mirror _ _ _ _) _
        rw [er, er]; lia
    generalize setArr st' (mirror (arrOf st') lo (lo + n) ((lo + n - lo) / 2)) = st3 at *
    refine wpS_bind (wpS_lift (wpAny_rule ⟨rfl, ?_⟩))
    refine wpS_bind (wpS_mono (desc_loop (lo := lo) (r := r) (by lia) (by lia) hz g3 d3 ?_) ?_)
    · intro x m q st6 Q g6 m1 m2 k1 k2 k3
      have z6 := g6.size
      dsimp only
      refine wpS_bind (ltAt_ok C (g6.kind.trans hκ) (g6.dom hd) (by lia) (by lia) ?_)
      dsimp only
      refine ifP (fun c => ?_) (fun c => ?_)
      · have c := of_decide_eq_true c
        exact ifP (fun c2 => wpS_bind (rev_ok (wpS_pure ((k1 c).1 c2)))) (fun c2 => wpS_pure ((k1 c).2 (by lia)))
      · rw [decide_eq_true_eq] at c
        refine wpS_bind (ltAt_ok C (g6.kind.trans hκ) (g6.dom hd) (by lia) (by lia) ?_)
        dsimp only
        refine ifP (fun c2 => wpS_pure (k2 (of_decide_eq_true c2))) (fun c2 => wpS_pure (k3 ?_))
        rw [decide_eq_true_eq] at c2
        lia
    · rintro c st4 ⟨g4, m4, q4, rfl, m41, m42, d4, q41, e4⟩
      have z4 := g4.size
      dsimp only
      refine ifP (fun q0 => ?_) (fun q0 => ?_)
      · refine wpS_bind (rev_ok ?_)
        have ei : lo + m4 - (q4 + 1) = lo + (m4 - (q4 + 1)) := by lia
        rw [ei]
        have g7 := g4.trans (Sg.rev (st := st4) (lo := lo) (n := nrem) (i := lo + (m4 - (q4 + 1))) (j := lo + m4) (by lia) (by lia) (by lia))
        have d7 : Down r (arrOf (setArr st4 (mirror (arrOf st4) (lo + (m4 - (q4 + 1))) (lo + m4) ((lo + m4 - (lo + (m4 - (q4 + 1)))) / 2)))) lo m4 := fun i j hij hj => by
          show rk r (mirror _ _ _ _) _ ≤ rk r (mirror _ _ _ _) _
          rw [eq_rev (by lia) (by lia) e4, eq_rev (by lia) (by lia) e4]
          exact d4 i j hij hj
        generalize setArr st4 (mirror (arrOf st4) (lo + (m4 - (q4 + 1))) (lo + m4) ((lo + m4 - (lo + (m4 - (q4 + 1)))) / 2)) = st7 at *
        refine wpS_bind (rev_ok ?_)
        have z4' := (g7).size
        have g5 := (g7).trans (Sg.rev (st := st7) (lo := lo) (n := nrem) (i := lo) (j := lo + m4) (by lia) (by lia) (by lia))
        have u5 : Up r (arrOf (setArr st7 (mirror (arrOf st7) lo (lo + m4) ((lo + m4 - lo) / 2)))) lo m4 := down_rev (by lia) d7
        have hκ5 := (g5).kind.trans hκ
        have hd5 := g5.dom hd
        have hz5 := g5.size
        generalize setArr st7 (mirror (arrOf st7) lo (lo + m4) ((lo + m4 - lo) / 2)) = st5 at *
        refine wpS_bind (wpS_mono (asc_loop (st := st5) (lo := lo) (r := r) (by lia) (by lia) u5 ?_) ?_)
        · intro x m Q m1 m2 k1 k2
          dsimp only
          refine wpS_bind (ltAt_ok C (by first | exact hκ5 | exact hκ) (by first | exact hd5 | exact hd) (by lia) (by lia) ?_)
          dsimp only
          refine ifP (fun q => wpS_pure (k1 (of_decide_eq_true q))) (fun q => wpS_pure (k2 ?_))
          rw [decide_eq_true_eq] at q
          lia
        · rintro c st' ⟨rfl, m5, rfl, v1, v2, v3, v4⟩
          exact wpS_pure (k _ _ g5 (by lia) v2 v3)
      · refine wpS_bind (rev_ok ?_)
        have z4' := (g4).size
        have g5 := (g4).trans (Sg.rev (st := st4) (lo := lo) (n := nrem) (i := lo) (j := lo + m4) (by lia) (by lia) (by lia))
        have u5 : Up r (arrOf (setArr st4 (mirror (arrOf st4) lo (lo + m4) ((lo + m4 - lo) / 2)))) lo m4 := down_rev (by lia) d4
        have hκ5 := (g5).kind.trans hκ
        have hd5 := g5.dom hd
        have hz5 := g5.size
        generalize setArr st4 (mirror (arrOf st4) lo (lo + m4) ((lo + m4 - lo) / 2)) = st5 at *
        refine wpS_bind (wpS_mono (asc_loop (st := st5) (lo := lo) (r := r) (by lia) (by lia) u5 ?_) ?_)
        · intro x m Q m1 m2 k1 k2
          dsimp only
          refine wpS_bind (ltAt_ok C (by first | exact hκ5 | exact hκ) (by first | exact hd5 | exact hd) (by lia) (by lia) ?_)
          dsimp only
          refine ifP (fun q => wpS_pure (k1 (of_decide_eq_true q))) (fun q => wpS_pure (k2 ?_))
          rw [decide_eq_true_eq] at q
          lia
        · rintro c st' ⟨rfl, m5, rfl, v1, v2, v3, v4⟩
          exact wpS_pure (k _ _ g5 (by lia) v2 v3)
  · have d3 : Down r (arrOf st') lo (n + 1) := Down.succ (fun i j hij hj => by rw [show i = j by lia]; exact Nat.le_refl _) n1 (by lia)
    have g3 : Sg st' lo nrem st' := .refl
    refine wpS_bind (wpS_lift (wpAny_rule ⟨rfl, ?_⟩))
    refine wpS_bind (wpS_mono (desc_loop (lo := lo) (r := r) (by lia) (by lia) hz g3 d3 ?_) ?_)
    · intro x m q st6 Q g6 m1 m2 k1 k2 k3
      have z6 := g6.size
      dsimp only
      refine wpS_bind (ltAt_ok C (g6.kind.trans hκ) (g6.dom hd) (by lia) (by lia) ?_)
      dsimp only
      refine ifP (fun c => ?_) (fun c => ?_)
      · have c := of_decide_eq_true c
        exact ifP (fun c2 => wpS_bind (rev_ok (wpS_pure ((k1 c).1 c2)))) (fun c2 => wpS_pure ((k1 c).2 (by lia)))
      · rw [decide_eq_true_eq] at c
        refine wpS_bind (ltAt_ok C (g6.kind.trans hκ) (g6.dom hd) (by lia) (by lia) ?_)
        dsimp only
        refine ifP (fun c2 => wpS_pure (k2 (of_decide_eq_true c2))) (fun c2 => wpS_pure (k3 ?_))
        rw [decide_eq_true_eq] at c2
        lia
    · rintro c st4 ⟨g4, m4, q4, rfl, m41, m42, d4, q41, e4⟩
      have z4 := g4.size
      dsimp only
      refine ifP (fun q0 => ?_) (fun q0 => ?_)
      · refine wpS_bind (rev_ok ?_)
        have ei : lo + m4 - (q4 + 1) = lo + (m4 - (q4 + 1)) := by lia
        rw [ei]
        have g7 := g4.trans (Sg.rev (st := st4) (lo := lo) (n := nrem) (i := lo + (m4 - (q4 + 1))) (j := lo + m4) (by lia) (by lia) (by lia))
        have d7 : Down r (arrOf (setArr st4 (mirror (arrOf st4) (lo + (m4 - (q4 + 1))) (lo + m4) ((lo + m4 - (lo + (m4 - (q4 + 1)))) / 2)))) lo m4 := fun i j hij hj => by
          show rk r (mirror _ _ _ _) _ ≤ rk r (mirror _ _ _ _) _
          rw [eq_rev (by lia) (by lia) e4, eq_rev (by lia) (by lia) e4]
          exact d4 i j hij hj
        generalize setArr st4 (mirror (arrOf st4) (lo + (m4 - (q4 + 1))) (lo + m4) ((lo + m4 - (lo + (m4 - (q4 + 1)))) / 2)) = st7 at *
        refine wpS_bind (rev_ok ?_)
        have z4' := (g7).size
        have g5 := (g7).trans (Sg.rev (st := st7) (lo := lo) (n := nrem) (i := lo) (j := lo + m4) (by lia) (by lia) (by lia))
        have u5 : Up r (arrOf (setArr st7 (mirror (arrOf st7) lo (lo + m4) ((lo + m4 - lo) / 2)))) lo m4 := down_rev (by lia) d7
        have hκ5 := (g5).kind.trans hκ
        have hd5 := g5.dom hd
        have hz5 := g5.size
        generalize setArr st7 (mirror (arrOf st7) lo (lo + m4) ((lo + m4 - lo) / 2)) = st5 at *
        refine wpS_bind (wpS_mono (asc_loop (st := st5) (lo := lo) (r := r) (by lia) (by lia) u5 ?_) ?_)
        · intro x m Q m1 m2 k1 k2
          dsimp only
          refine wpS_bind (ltAt_ok C (by first | exact hκ5 | exact hκ) (by first | exact hd5 | exact hd) (by lia) (by lia) ?_)
          dsimp only
          refine ifP (fun q => wpS_pure (k1 (of_decide_eq_true q))) (fun q => wpS_pure (k2 ?_))
          rw [decide_eq_true_eq] at q
          lia
        · rintro c st' ⟨rfl, m5, rfl, v1, v2, v3, v4⟩
          exact wpS_pure (k _ _ g5 (by lia) v2 v3)
      · refine wpS_bind (rev_ok ?_)
        have z4' := (g4).size
        have g5 := (g4).trans (Sg.rev (st := st4) (lo := lo) (n := nrem) (i := lo) (j := lo + m4) (by lia) (by lia) (by lia))
        have u5 : Up r (arrOf (setArr st4 (mirror (arrOf st4) lo (lo + m4) ((lo + m4 - lo) / 2)))) lo m4 := down_rev (by lia) d4
        have hκ5 := (g5).kind.trans hκ
        have hd5 := g5.dom hd
        have hz5 := g5.size
        generalize setArr st4 (mirror (arrOf st4) lo (lo + m4) ((lo + m4 - lo) / 2)) = st5 at *
        refine wpS_bind (wpS_mono (asc_loop (st := st5) (lo := lo) (r := r) (by lia) (by lia) u5 ?_) ?_)
        · intro x m Q m1 m2 k1 k2
          dsimp only
          refine wpS_bind (ltAt_ok C (by first | exact hκ5 | exact hκ) (by first | exact hd5 | exact hd) (by lia) (by lia) ?_)
          dsimp only
          refine ifP (fun q => wpS_pure (k1 (of_decide_eq_true q))) (fun q => wpS_pure (k2 ?_))
          rw [decide_eq_true_eq] at q
          lia
        · rintro c st' ⟨rfl, m5, rfl, v1, v2, v3, v4⟩
          exact wpS_pure (k _ _ g5 (by lia) v2 v3)
end TS
namespace TS
open PySem PyProof.Rows
variable {prog : Program} {w : World} {A : Around} {E : Value → Shared → Prop} {s : Shared} {κ : SortKind} {dom : Keyed → Prop} {r : Keyed → Nat}
theorem min_run {n : Nat} (h2 : 2 ≤ n) (hn : n < 128) : 1 ≤ minRun' n n 0 ∧ minRun' n n 0 ≤ n ∧ n ≤ 2 * minRun' n n 0 := by
  obtain ⟨f, hf⟩ : ∃ f, n = f + 1 + 1 := ⟨n - 2, by lia⟩
  have e : minRun' n n 0 = if n < 64 then n + 0 else minRun' (n - 1) (n / 2) (max 0 (n % 2)) := by
    rw [hf, minRun'_succ]; rfl
  rw [e]
  by_cases h : n < 64
  · rw [if_pos h]; lia
  · rw [if_neg h]
    have e2 : minRun' (n - 1) (n / 2) (max 0 (n % 2)) = n / 2 + max 0 (n % 2) := by
      rw [show n - 1 = f + 1 by lia, minRun'_succ, if_pos (by lia)]
    rw [e2]
    lia
def Runs (r : Keyed → Nat) (n lo : Nat) (st : SortSt) : Prop :=
  (pendingOf st = #[(0, lo, 0)] ∧ Up r (arrOf st) 0 lo) ∨ (lo = n ∧ ∃ n1 pw, 0 < n1 ∧ n1 < n ∧ pendingOf st = #[(0, n1, pw), (n1, n - n1, 0)] ∧ Up r (arrOf st) 0 n1 ∧ Up r (arrOf st) n1 (n - n1))
theorem srt_take {a : Array Keyed} {m : Nat} (hm : m ≤ a.size) (h : Up r a 0 m) : Srt r (a.toList.take m) := by
  refine List.pairwise_iff_getElem.mpr fun i j hi hj hij => ?_
  rw [List.length_take] at hi hj
  have := h i j (by lia) (by lia)
  rw [Nat.zero_add, Nat.zero_add, rk_get (by lia), rk_get (by lia)] at this
  simpa [Le] using this
theorem srt_drop {a : Array Keyed} {m : Nat} (h : Up r a m (a.size - m)) : Srt r (a.toList.drop m) := by
  refine List.pairwise_iff_getElem.mpr fun i j hi hj hij => ?_
  rw [List.length_drop, Array.length_toList] at hi hj
  have := h i j (by lia) (by lia)
  rw [rk_get (by lia), rk_get (by lia)] at this
  simpa [Le] using this
theorem Up.out {st0 st : SortSt} {lo m n : Nat} (h : Up r (arrOf st0) 0 n) (g : Sg st0 lo m st) (hn : n ≤ lo) : Up r (arrOf st) 0 n := fun i j hij hj => by
  have := h i j hij hj
  rw [rk_of (g.out (0 + i) (by lia)), rk_of (g.out (0 + j) (by lia))]
  exact this
structure Bs (κ : SortKind) (st0 st : SortSt) : Prop where
  kind : kindOf st = κ
  fail : failedOf st = none
  perm : (arrOf st).Perm (arrOf st0)
theorem Bs.size {st0 st : SortSt} (h : Bs κ st0 st) : (arrOf st).size = (arrOf st0).size := h.perm.size_eq
theorem Bs.doms {st0 st : SortSt} (h : Bs κ st0 st) (hd : ∀ x ∈ arrOf st0, dom x) : ∀ x ∈ arrOf st, dom x := fun x hx => hd x (by
  have := (Array.perm_iff_toList_perm.mp h.perm).mem_iff (a := x)
  rw [Array.mem_toList_iff, Array.mem_toList_iff] at this
  exact this.mp hx)
theorem Bs.sg {st0 st1 st : SortSt} {lo n : Nat} (h : Bs κ st0 st1) (g : Sg st1 lo n st) : Bs κ st0 st := ⟨g.kind.trans h.kind, g.fail.trans h.fail, g.perm.trans h.perm⟩
theorem runs_ok (C : Cmp prog w A E s κ dom r) {Q : Unit → SortSt → Prop} {st : SortSt} (hκ : kindOf st = κ) (hf : failedOf st = none) (hp : pendingOf st = #[]) (hd : ∀ x ∈ arrOf st, dom x) (h2 : 2 ≤ (arrOf st).size) (hn : (arrOf st).size < 128)
    (k : ∀ st', failedOf st' = none → (arrOf st').toList.Perm (arrOf st).toList → Srt r (arrOf st').toList → Q () st') : wpS (model prog w) A E s sortRuns' Q st := by
  rw [sortRuns'_eq]
  refine wpS_bind (wpS_get ?_)
  dsimp only
  obtain ⟨r1, r2, r3⟩ := min_run h2 hn
  generalize minRun' (arrOf st).size (arrOf st).size 0 = mr at *
  generalize hN : (arrOf st).size = n at *
  refine wpS_bind (wpS_mono (wpS_forRange
    (I := fun x c st1 => ∃ lo, c = (none, lo) ∧ Bs κ st st1 ∧ ((x = 0 ∧ lo = 0 ∧ pendingOf st1 = #[]) ∨ (x = 1 ∧ mr ≤ lo ∧ lo ≤ n ∧ pendingOf st1 = #[(0, lo, 0)] ∧ Up r (arrOf st1) 0 lo) ∨ (2 ≤ x ∧ lo = n ∧ Runs r n n st1)))
    (Q := fun c st1 => c = (none, n) ∧ Bs κ st st1 ∧ Runs r n n st1) ?step ?fin ⟨0, rfl, ⟨hκ, hf, .refl _⟩, .inl ⟨rfl, rfl, hp⟩⟩) ?post)
  case fin =>
    rintro c st1 ⟨lo, rfl, b, ⟨h, _⟩ | ⟨h, _⟩ | ⟨_, rfl, h⟩⟩
    · lia
    · lia
    · exact ⟨rfl, b, h⟩
  case step =>
    rintro x c st1 _ hx ⟨lo, rfl, b, cs⟩
    try dsimp only
    have bz := b.size
    refine ifP (fun hlo => wpS_pure ?_) (fun hlo => ?_)
    · rcases cs with ⟨rfl, rfl, hp1⟩ | ⟨rfl, l1, l2, hp1, up1⟩ | ⟨x2, rfl, h⟩
      · lia
      · have : lo = n := by lia
        subst this
        exact ⟨rfl, b, .inl ⟨hp1, up1⟩⟩
      · exact ⟨rfl, b, h⟩
    refine wpS_bind (count_ok C b.kind (b.doms hd) (by lia) (by lia) (fun m st2 g2 m1 m2 u2 => ?_))
    dsimp only
    refine ifP (fun hm => ?_) (fun hm => ?_)
    · refine wpS_bind (wpS_lift (wpAny_rule ⟨rfl, ?_⟩))
      have gz := g2.size
      refine wpS_bind (binary_ok C (g2.kind.trans b.kind) (g2.dom (b.doms hd)) (by lia) (by lia) u2 (fun st3 g3' u3 => ?_))
      rw [if_neg (by decide)]
      have g3 := g2.trans (g3'.wide (m := n - lo) (by lia))
      have : lo = 0 ∨ mr ≤ lo := by rcases cs with ⟨_, h, _⟩ | ⟨_, h, _⟩ | ⟨_, h, _⟩ <;> lia
      have b3 := b.sg g3
      have p3 := (g3).pend
      refine wpS_bind (wpS_get ?_)
      rcases cs with ⟨rfl, rfl, hp1⟩ | ⟨rfl, l1, l2, hp1, up1⟩ | ⟨x2, rfl, _⟩
      · rw [hp1] at p3
        have eb : (pendingOf st3).back? = none := by rw [p3]; rfl
        rw [eb]
        dsimp only
        refine wpS_bind (wpS_modify (wpS_pure ?_))
        refine ⟨_, rfl, ⟨b3.kind, b3.fail, b3.perm⟩, .inr (.inl ⟨rfl, by lia, by lia, ?_, ?_⟩)⟩
        · show (pendingOf st3).push _ = _
          rw [p3, Nat.zero_add]; rfl
        · rw [Nat.zero_add]; exact u3
      · rw [hp1] at p3
        have eb : (pendingOf st3).back? = some (0, lo, 0) := by rw [p3]; rfl
        rw [eb]
        dsimp only
        refine wpS_bind (wpS_mono (wpS_forRange (I := fun _ c st' => st' = st3 ∧ c = (none, ())) (Q := fun c st' => st' = st3 ∧ c = (none, ())) ?_ (fun _ _ hh => hh) ⟨rfl, rfl⟩) ?_)
        · rintro y c st' _ _ ⟨rfl, rfl⟩
          refine wpS_bind (wpS_get ?_)
          rw [if_neg (by rw [p3]; show ¬ 1 > 1; lia)]
          exact wpS_pure ⟨rfl, rfl⟩
        · rintro c st' ⟨rfl, rfl⟩
          dsimp only
          refine wpS_bind (wpS_modify (wpS_bind (wpS_modify (wpS_pure ?_))))
          have em : (min (n - lo) mr) = n - lo := by lia
          have upn : Up r (arrOf st') 0 lo := up1.out g3 (Nat.le_refl _)
          refine ⟨_, rfl, ⟨b3.kind, b3.fail, b3.perm⟩, .inr (.inr ⟨by lia, by lia, .inr ⟨rfl, lo, power' n (2 * 0 + lo) (2 * 0 + lo + lo + (min (n - lo) mr)) n, by lia, by lia, ?_, upn, ?_⟩⟩)⟩
          · show ((pendingOf st').modify ((pendingOf st').size - 1) _).push _ = _
            rw [p3, em]; rfl
          · rw [em] at u3; exact u3
      · lia
    · have b3 := b.sg g2
      have p3 := (g2).pend
      refine wpS_bind (wpS_get ?_)
      rcases cs with ⟨rfl, rfl, hp1⟩ | ⟨rfl, l1, l2, hp1, up1⟩ | ⟨x2, rfl, _⟩
      · rw [hp1] at p3
        have eb : (pendingOf st2).back? = none := by rw [p3]; rfl
        rw [eb]
        dsimp only
        refine wpS_bind (wpS_modify (wpS_pure ?_))
        refine ⟨_, rfl, ⟨b3.kind, b3.fail, b3.perm⟩, .inr (.inl ⟨rfl, by lia, by lia, ?_, ?_⟩)⟩
        · show (pendingOf st2).push _ = _
          rw [p3, Nat.zero_add]; rfl
        · rw [Nat.zero_add]; exact u2
      · rw [hp1] at p3
        have eb : (pendingOf st2).back? = some (0, lo, 0) := by rw [p3]; rfl
        rw [eb]
        dsimp only
        refine wpS_bind (wpS_mono (wpS_forRange (I := fun _ c st' => st' = st2 ∧ c = (none, ())) (Q := fun c st' => st' = st2 ∧ c = (none, ())) ?_ (fun _ _ hh => hh) ⟨rfl, rfl⟩) ?_)
        · rintro y c st' _ _ ⟨rfl, rfl⟩
          refine wpS_bind (wpS_get ?_)
          rw [if_neg (by rw [p3]; show ¬ 1 > 1; lia)]
          exact wpS_pure ⟨rfl, rfl⟩
        · rintro c st' ⟨rfl, rfl⟩
          dsimp only
          refine wpS_bind (wpS_modify (wpS_bind (wpS_modify (wpS_pure ?_))))
          have em : m = n - lo := by lia
          have upn : Up r (arrOf st') 0 lo := up1.out g2 (Nat.le_refl _)
          refine ⟨_, rfl, ⟨b3.kind, b3.fail, b3.perm⟩, .inr (.inr ⟨by lia, by lia, .inr ⟨rfl, lo, power' n (2 * 0 + lo) (2 * 0 + lo + lo + m) n, by lia, by lia, ?_, upn, ?_⟩⟩)⟩
          · show ((pendingOf st').modify ((pendingOf st').size - 1) _).push _ = _
            rw [p3, em]; rfl
          · rw [em] at u2; exact u2
      · lia
  case post =>
    rintro c st1 ⟨rfl, b, h⟩
    have bz := b.size
    dsimp only
    refine wpS_bind (wpS_mono (wpS_forRange (I := fun x c st2 => c = (none, ()) ∧ ((x = 0 ∧ st2 = st1) ∨ (1 ≤ x ∧ failedOf st2 = none ∧ (arrOf st2).toList.Perm (arrOf st).toList ∧ Srt r (arrOf st2).toList ∧ (pendingOf st2).size ≤ 1)))
      (Q := fun c st2 => c = (none, ()) ∧ failedOf st2 = none ∧ (arrOf st2).toList.Perm (arrOf st).toList ∧ Srt r (arrOf st2).toList) ?s2 ?f2 ⟨rfl, .inl ⟨rfl, rfl⟩⟩) ?p2)
    case p2 =>
      rintro c st2 ⟨rfl, q1, q2, q3⟩
      exact wpS_pure (k st2 q1 q2 q3)
    case f2 =>
      rintro c st2 ⟨rfl, ⟨h, _⟩ | ⟨_, q1, q2, q3, _⟩⟩
      · lia
      · exact ⟨rfl, q1, q2, q3⟩
    case s2 =>
      have pl := Array.perm_iff_toList_perm.mp b.perm
      rintro x c st2 _ hx ⟨rfl, ⟨rfl, rfl⟩ | ⟨_, q1, q2, q3, q4⟩⟩
      · refine wpS_bind (wpS_get ?_)
        try dsimp only
        rcases h with ⟨hp1, u1⟩ | ⟨_, n1, pw, c1, c2, hp1, u1, u2⟩
        · rw [if_pos (by rw [hp1]; show 1 ≤ 1; lia)]
          refine wpS_pure ⟨rfl, b.fail, pl, ?_⟩
          have := srt_take (by lia) u1
          rwa [List.take_of_length_le (by rw [Array.length_toList]; lia)] at this
        · have ps : (pendingOf st2).size = 2 := by rw [hp1]; rfl
          rw [ps]
          rw [if_neg (by decide)]
          have lX : ((arrOf st2).toList.take n1).length = n1 := by rw [List.length_take, Array.length_toList]; lia
          have lY : ((arrOf st2).toList.drop n1).length = n - n1 := by rw [List.length_drop, Array.length_toList]; lia
          refine wpS_bind (mergeAt_ok (i := 0) (P := []) (X := (arrOf st2).toList.take n1) (Y := (arrOf st2).toList.drop n1) (Z := []) (pw := pw) (pw2 := 0) C b.kind b.fail (by simp) (by rw [lX, hp1]; rfl) (by rw [lX, lY, hp1]; simp) (srt_take (by lia) u1) (srt_drop (by rw [bz, hN]; exact u2)) (by lia) (by lia) (b.doms hd) (fun R st3 f1 f2 f3 f4 f5 f6 => ?_))
          rw [if_neg (by decide)]
          rw [List.take_append_drop] at f6
          rw [List.nil_append, List.append_nil] at f4
          refine wpS_pure ⟨rfl, .inr ⟨by lia, f2, by rw [f4]; exact f6.trans pl, by rw [f4]; exact f5, ?_⟩⟩
          rw [f3, hp1]
          simp [Array.eraseIdxIfInBounds]
      · refine wpS_bind (wpS_get ?_)
        try dsimp only
        rw [if_pos q4]
        exact wpS_pure ⟨rfl, q1, q2, q3⟩
end TS
namespace TS
open PySem PyProof.Rows
variable {prog : Program} {w : World} {A : Around} {E : Value → Shared → Prop} {s : Shared} {κ : SortKind} {dom : Keyed → Prop} {r : Keyed → Nat}
theorem pairs_map (vs : List Value) : (pairsOf vs).toList = vs.map fun v => (v, v) := by
  rw [pairsOf_toList]
  induction vs with
  | nil => rfl
  | cons v vs ih => rw [List.zip_cons_cons, List.map_cons, ih]
def Old (s : Shared) (a : Addr) (s' : Shared) : Prop := ∀ b o, b ≠ a → s.heap.get? b = some o → s'.heap.get? b = some o
def ByOrder (prog : Program) (w : World) (E : Value → Shared → Prop) (s : Shared) (a : Addr) (vs : List Value) (κ : SortKind) (dom : Keyed → Prop) (r : Keyed → Nat) : Prop :=
  ∀ (A' : Around) (s' : Shared), Old s a s' → (∀ Q : SortKind → Shared → Prop, 2 ≤ vs.length → Q κ s' → wpAny (model prog w) A' (keyKind' vs.toArray) Q E s') ∧ Cmp prog w A' E s' κ dom r
theorem sort_by {a : Addr} {vs : List Value} {n : Nat} {P : PySem.Fin → Shared → Prop} (hoA : s.heap.get? a = some (seqObj "list" vs.toArray n)) (hv : vs.length < 128) (hdm : ∀ v ∈ vs, dom (v, v)) (hB : ByOrder prog w E s a vs κ dom r)
    (hk : ∀ out : List Keyed, out.Perm (vs.map fun v => (v, v)) → Srt r out → P (.done (.ret .none)) { s with heap := sortedHeap s.heap a vs (out.map (·.2)).toArray }) :
    wpAny (model prog w) A (Builtin.«list.sort» ⟨[.ref a], []⟩) P E s := by
  have hlt : a < s.heap.objs.size := Heap.lt_size hoA
  obtain ⟨ep, hoE⟩ : ∃ ep, (s.heap.update a (Obj.mapSeq fun _ => #[])).get? a = some (seqObj "list" #[] ep) := ⟨_, get?_update_seq hoA fun _ => #[]⟩
  have keep : Old s a { s with heap := ((s.heap.update a (Obj.mapSeq fun _ => #[])).push (seqObj "tuple" vs.toArray 0)).push (seqObj "list" #[] 0) } := fun b o hb ho => by
    refine Heap.get?_push_of_some _ (Heap.get?_push_of_some _ ?_)
    rw [Heap.get?_update_ne _ _ _ _ hb]; exact ho
  have hoL : (((s.heap.update a (Obj.mapSeq fun _ => #[])).push (seqObj "tuple" vs.toArray 0)).push (seqObj "list" #[] 0)).get? a = some (seqObj "list" #[] ep) := Heap.get?_push_of_some _ (Heap.get?_push_of_some _ hoE)
  rw [list_sort_plain]
  refine wpAny_bind (listItems_at (xs := vs.toArray) hoA rfl ?_)
  refine wpAny_bind (listUpdate_at (xs := vs.toArray) hoA rfl ?_ (by rw [List.size_toArray, sizeLine_eq]; lia) (Nat.zero_le _))
  refine wpAny_bind (seqEpoch_at (n := ep) hoE rfl ?_)
  refine wpAny_bind (wpAny_newTuple ?_ (by show vs.length ≤ _; rw [sizeLine_eq]; lia))
  refine wpAny_bind (wpAny_newList ?_ (Nat.zero_le _))
  refine wpAny_holding ?_
  show wpAny (model prog w) A _ P E { s with heap := ((s.heap.update a (Obj.mapSeq fun _ => #[])).push (seqObj "tuple" vs.toArray 0)).push (seqObj "list" #[] 0) }
  dsimp only
  have fin : ∀ (st' : SortSt), failedOf st' = none → (arrOf st').toList.Perm (pairsOf vs).toList → Srt r (arrOf st').toList → P (.done (.ret .none)) { s with heap := sortedHeap s.heap a vs ((arrOf st').map (·.2)) } := fun st' _ h1 h2 => by
    have := hk (arrOf st').toList (by rw [← pairs_map]; exact h1) h2
    rwa [show (List.map (·.2) (arrOf st').toList).toArray = (arrOf st').map (·.2) by rw [← Array.toList_map]] at this
  obtain ⟨kd, C⟩ := hB A _ keep
  by_cases h2 : vs.toArray.size < 2
  · rw [if_pos h2, if_pos h2]
    refine wpAny_bind (wpAny_pure ?_)
    rw [StateT.run_pure]
    refine wpAny_bind (wpAny_pure ?_)
    dsimp only
    refine wpAny_bind (seqEpoch_at (n := ep) hoL rfl ?_)
    refine wpAny_bind (listUpdate_at (xs := #[]) hoL rfl ?_ (Nat.zero_le _) (by rw [Array.size_map]; show (pairsOf vs).size ≤ _; rw [pairsOf_size, sizeLine_eq]; lia))
    simp only [bne_self_eq_false, Bool.false_eq_true, if_false]
    refine wpAny_pure (fin (SortSt.mk' general' (pairsOf vs) #[] 7 none) rfl (List.Perm.refl _) ?_)
    show Srt r (pairsOf vs).toList
    rw [pairs_map]
    match vs, h2 with
    | [], _ => exact List.Pairwise.nil
    | [v], _ => exact List.pairwise_singleton _ _
    | v :: u :: t, h2 => simp at h2; lia
  · rw [if_neg h2, if_neg h2]
    rw [List.size_toArray] at h2
    refine wpAny_bind (kd _ (by lia) ?_)
    have run := runs_ok (st := SortSt.mk' κ (pairsOf vs) #[] 7 none) (Q := fun _ st' => failedOf st' = none ∧ (arrOf st').toList.Perm (pairsOf vs).toList ∧ Srt r (arrOf st').toList) C rfl rfl rfl (fun x hx => ?_) (by show 2 ≤ (pairsOf vs).size; rw [pairsOf_size]; lia) (by show (pairsOf vs).size < 128; rw [pairsOf_size]; exact hv) (fun st' a1 a2 a3 => ⟨a1, a2, a3⟩)
    · refine wpAny_bind (wpAny_mono run ?_ fun _ _ e => e)
      rintro ⟨⟨⟩, st'⟩ s' ⟨rfl, hf, hp, hs⟩
      have hsz : ((arrOf st').map (·.2)).size = vs.length := by
        rw [Array.size_map, ← Array.length_toList, hp.length_eq, Array.length_toList, pairsOf_size]
      dsimp only
      refine wpAny_bind (seqEpoch_at (n := ep) hoL rfl ?_)
      refine wpAny_bind (listUpdate_at (xs := #[]) hoL rfl ?_ (Nat.zero_le _) (Nat.le_trans (Nat.le_of_eq hsz) (by rw [sizeLine_eq]; lia)))
      rw [hf]
      simp only [bne_self_eq_false, Bool.false_eq_true, if_false]
      exact wpAny_pure (fin st' hf hp hs)
    · have hx' : x ∈ (pairsOf vs).toList := Array.mem_toList_iff.mpr hx
      rw [pairs_map] at hx'
      obtain ⟨v, hv1, rfl⟩ := List.mem_map.mp hx'
      exact hdm v hv1
theorem sorted_by {l : Addr} {vs : List Value} {Q : Value → Shared → Prop} (hl : s.heap.IsList l vs.toArray) (hv : vs.length < 128) (hdm : ∀ v ∈ vs, dom (v, v))
    (hB : ∀ s', (∀ b o, s.heap.get? b = some o → s'.heap.get? b = some o) → ByOrder prog w E s' (s.heap.objs.size + 1) vs κ dom r)
    (hk : ∀ out : List Keyed, out.Perm (vs.map fun v => (v, v)) → Srt r out → Q (.ref (s.heap.objs.size + 1)) { s with heap := sortedAll s.heap vs (out.map (·.2)).toArray }) :
    wpAny (model prog w) A (call (.builtin "sorted") [.ref l]) Q E s := by
  have hsz : ((s.heap.push (seqObj "list" #[] 0)).update s.heap.objs.size (Obj.mapSeq (· ++ vs.toArray))).objs.size = s.heap.objs.size + 1 := by
    rw [Heap.size_update, size_push']
  have hoN : (((s.heap.push (seqObj "list" #[] 0)).update s.heap.objs.size (Obj.mapSeq (· ++ vs.toArray))).push (seqObj "list" vs.toArray 0)).get? (s.heap.objs.size + 1) = some (seqObj "list" vs.toArray 0) := by
    rw [← hsz]; exact Heap.get?_push_size _ rfl
  refine Calls.call_function_entry kind_sorted plain_sorted entry_sorted (args_sorted1 _) ?_
  unfold Builtin.«sorted»
  refine wpAny_bind (m := checkCount "sorted" 1 1 _) (wpAny_pure ?_)
  refine wpAny_bind (collect_list hl ?_ (by rw [sizeLine_eq]; lia))
  refine wpAny_bind (wpAny_newList ?_ (by rw [sizeLine_eq]; lia))
  show wpAny _ _ _ _ _ { s with heap := ((s.heap.push (seqObj "list" #[] 0)).update s.heap.objs.size (Obj.mapSeq (· ++ vs.toArray))).push (seqObj "list" vs.toArray 0) }
  rw [hsz]
  refine wpAny_bind (wpAny_holding (wpAny_call_entry slot_list_sort ⟨_, hoN, rfl⟩ entry_list_sort (sort_by (κ := κ) (dom := dom) (r := r) hoN hv hdm (hB _ fun b o q => ?_) fun out a1 a2 => ⟨_, rfl, ?_⟩) (args_list_sort _)))
  · have hb : b < s.heap.objs.size := Heap.lt_size q
    rw [Heap.get?_push_ne _ _ _ (by rw [hsz]; exact Nat.ne_of_lt (Nat.lt_succ_of_lt hb)), Heap.get?_update_ne _ _ _ _ (Nat.ne_of_lt hb), Heap.get?_push_ne _ _ _ (Nat.ne_of_lt hb)]
    exact q
  · exact wpAny_pure ⟨_, rfl, hk out a1 a2⟩
end TS
namespace TS
open PySem PySem.W PyProof.Rows
noncomputable def sLt (x y : Str) : Bool := decide (x.cps.toList < y.cps.toList)
noncomputable def lexB : List Str → List Str → Bool
  | [], [] => false
  | [], _ :: _ => true
  | _ :: _, [] => false
  | x :: xs, y :: ys => if x = y then lexB xs ys else sLt x y
theorem sLt_irr (x : Str) : sLt x x = false := decide_eq_false (List.lt_irrefl _)
theorem sLt_tr {x y z : Str} (h : sLt x y = true) (g : sLt y z = true) : sLt x z = true := decide_eq_true (List.lt_trans (of_decide_eq_true h) (of_decide_eq_true g))
theorem sLt_tri {x y : Str} (h : sLt x y = false) (g : sLt y x = false) : x = y := by
  have h := of_decide_eq_false h
  have g := of_decide_eq_false g
  have e : x.cps.toList = y.cps.toList := List.le_antisymm (List.not_lt.mp g) (List.not_lt.mp h)
  cases x; cases y
  congr 1
  exact Array.toList_inj.mp e
theorem lex_irr : ∀ l, lexB l l = false
  | [] => rfl
  | x :: l => by rw [lexB, if_pos rfl, lex_irr l]
theorem lex_tr : ∀ {a b c : List Str}, lexB a b = true → lexB b c = true → lexB a c = true
  | [], [], _, h, _ => nomatch h
  | [], _ :: _, [], _, g => nomatch g
  | [], _ :: _, _ :: _, _, _ => rfl
  | _ :: _, [], _, h, _ => nomatch h
  | _ :: _, _ :: _, [], _, g => nomatch g
  | x :: xs, y :: ys, z :: zs, h, g => by
    rw [lexB] at h g ⊢
    by_cases e1 : x = y
    · subst e1
      rw [if_pos rfl] at h
      by_cases e2 : x = z
      · subst e2
        rw [if_pos rfl] at g ⊢
        exact lex_tr h g
      · rw [if_neg e2] at g ⊢; exact g
    · rw [if_neg e1] at h
      by_cases e2 : y = z
      · subst e2
        rw [if_neg e1]; exact h
      · rw [if_neg e2] at g
        have := sLt_tr h g
        by_cases e3 : x = z
        · subst e3
          rw [sLt_irr] at this; cases this
        · rw [if_neg e3]; exact this
theorem lex_tri : ∀ {a b : List Str}, lexB a b = false → lexB b a = false → a = b
  | [], [], _, _ => rfl
  | [], _ :: _, h, _ => nomatch h
  | _ :: _, [], _, g => nomatch g
  | x :: xs, y :: ys, h, g => by
    rw [lexB] at h g
    by_cases e : x = y
    · subst e
      rw [if_pos rfl] at h g
      rw [lex_tri h g]
    · rw [if_neg e] at h
      rw [if_neg (fun z => e z.symm)] at g
      exact absurd (sLt_tri h g) e
noncomputable def rankL (all : List (List Str)) (l : List Str) : Nat := all.countP fun m => lexB m l
theorem count_lt {α : Type} {p q : α → Bool} : ∀ {l : List α}, (∀ x ∈ l, p x = true → q x = true) → (∃ x ∈ l, p x = false ∧ q x = true) → l.countP p < l.countP q
  | [], _, ⟨x, hx, _⟩ => nomatch hx
  | a :: l, h, ⟨x, hx, h1, h2⟩ => by
    have hle : l.countP p ≤ l.countP q := List.countP_mono_left fun y hy => h y (List.mem_cons_of_mem _ hy)
    rw [List.countP_cons, List.countP_cons]
    rcases List.mem_cons.mp hx with rfl | hx
    · rw [h1, h2]; simp; lia
    · have := count_lt (fun y hy => h y (List.mem_cons_of_mem _ hy)) ⟨x, hx, h1, h2⟩
      have ha := h a (List.mem_cons_self ..)
      cases hp : p a with
      | false => simp; lia
      | true => rw [ha hp]; simp; lia
theorem rank_iff {all : List (List Str)} {l m : List Str} (hl : l ∈ all) (hm : m ∈ all) : rankL all l < rankL all m ↔ lexB l m = true := by
  constructor
  · intro h
    cases q : lexB l m with
    | true => rfl
    | false =>
      have : rankL all m ≤ rankL all l := by
        refine List.countP_mono_left fun x hx h1 => ?_
        cases q2 : lexB m l with
        | true => exact lex_tr h1 q2
        | false => rw [lex_tri q q2]; exact h1
      lia
  · intro h
    exact count_lt (fun x _ h1 => lex_tr h1 h) ⟨l, hl, lex_irr l, h⟩
inductive Txs : List Value → List Str → Prop
  | nil : Txs [] []
  | cons {x : Str} {t : Tok} {vs : List Value} {l : List Str} : Txs vs l → Txs (.str x t :: vs) (x :: l)
def Tx (h : Heap) (v : Value) (l : List Str) : Prop := ∃ p o vs n, v = .ref p ∧ h.get? p = some o ∧ o.cls = .type "tuple" ∧ o.data = .seq vs n ∧ Txs vs.toList l
theorem Txs.one {vs : List Value} {l m : List Str} (h : Txs vs l) (g : Txs vs m) : l = m := by
  induction h generalizing m with
  | nil => cases g; rfl
  | cons _ ih =>
    cases g with
    | cons g => rw [ih g]
theorem Txs.len {vs : List Value} {l : List Str} (h : Txs vs l) : vs.length = l.length := by
  induction h with
  | nil => rfl
  | cons _ ih => rw [List.length_cons, List.length_cons, ih]
theorem Tx.one {h : Heap} {v : Value} {l m : List Str} (a : Tx h v l) (b : Tx h v m) : l = m := by
  obtain ⟨p, o, vs, n, rfl, h1, h2, h3, h4⟩ := a
  obtain ⟨p', o', vs', n', e, g1, g2, g3, g4⟩ := b
  cases e
  rw [h1] at g1
  cases g1
  rw [h3] at g3
  cases g3
  exact h4.one g4
open Classical in
noncomputable def rkT (h : Heap) (all : List (List Str)) (k : Keyed) : Nat := if q : ∃ l, Tx h k.1 l then rankL all q.choose else 0
theorem rkT_at {h : Heap} {all : List (List Str)} {k : Keyed} {l : List Str} (t : Tx h k.1 l) : rkT h all k = rankL all l := by
  have q : ∃ l, Tx h k.1 l := ⟨l, t⟩
  unfold rkT
  rw [dif_pos q, q.choose_spec.one t]
variable {prog : Program} {w : World} {A : Around} {E : Value → Shared → Prop} {s : Shared}
theorem kat_txs {Q : Bool → Shared → Prop} {fin : Bool} : ∀ {xs ys : List Value} {l m : List Str} (i : Nat), Txs xs l → Txs ys m → fin = decide (l.length < m.length) → Q (lexB l m) s → KatLex prog w A true fin Q (xs.zip ys) i s
  | [], [], _, _, i, .nil, .nil, hf, hq => by
    refine kat_nil ?_
    rw [hf]; exact hq
  | [], _ :: _, _, _, i, .nil, .cons b, hf, hq => by
    refine kat_nil ?_
    rw [hf]
    rw [lexB] at hq
    rw [decide_eq_true (by simp)]; exact hq
  | _ :: _, [], _, _, i, .cons a, .nil, hf, hq => by
    refine kat_nil ?_
    rw [hf]
    rw [lexB] at hq
    rw [decide_eq_false (by simp)]; exact hq
  | _ :: _, _ :: _, _, _, i, @Txs.cons x t xs l a, @Txs.cons y u ys m b, hf, hq => by
    rw [lexB] at hq
    refine kat_cons (wpAny_eqBool_str ?_)
    by_cases e : x = y
    · rw [decide_eq_true e]
      rw [if_pos e] at hq
      refine kat_yes (kat_txs (i + 1) a b ?_ hq)
      rw [hf, List.length_cons, List.length_cons]
      exact decide_eq_decide.mpr (by lia)
    · rw [decide_eq_false e]
      rw [if_neg e] at hq
      refine kat_no ?_
      cases i with
      | zero => exact oneLt_str hq
      | succ i =>
        exact kat_one _ _ (PySem.P.lt_str hq)
theorem cmp_tx {all : List (List Str)} {h : Heap} (hd : ∀ v l, Tx h v l → Tx s.heap v l) : Cmp prog w A E s (tuples' true) (fun k => ∃ l ∈ all, Tx h k.1 l) (rkT h all) where
  lt := by
    rintro x y Q st ⟨l, hl, tx⟩ ⟨m, hm, ty⟩ hk hq
    rw [rkT_at tx, rkT_at ty] at hq
    have e : decide (rankL all l < rankL all m) = lexB l m := by
      cases q : lexB l m with
      | true => exact decide_eq_true ((rank_iff hl hm).mpr q)
      | false => exact decide_eq_false fun z => by rw [(rank_iff hl hm).mp z] at q; cases q
    rw [e] at hq
    obtain ⟨p, o, vs, n, e1, h1, h2, h3, h4⟩ := hd _ _ tx
    obtain ⟨p', o', vs', n', e2, g1, g2, g3, g4⟩ := hd _ _ ty
    rw [lt'_eq]
    refine wpS_bind (wpS_get ?_)
    rw [hk, e1, e2]
    refine wpS_bind (wpS_lift (wpAny_attempt (kat_lt h1 h3 g1 g3 (kat_txs 0 h4 g4 ?_ ⟨rfl, ?_⟩))))
    · rw [← Array.length_toList, ← Array.length_toList, h4.len, g4.len]
    · exact wpS_pure hq
inductive TxsL (h : Heap) : List Value → List (List Str) → Prop
  | nil : TxsL h [] []
  | cons {v : Value} {l : List Str} {vs : List Value} {ls : List (List Str)} : Tx h v l → l ≠ [] → TxsL h vs ls → TxsL h (v :: vs) (l :: ls)
theorem TxsL.mono {h h' : Heap} {vs : List Value} {ls : List (List Str)} (t : TxsL h vs ls) (k : ∀ v l, Tx h v l → Tx h' v l) : TxsL h' vs ls := by
  induction t with
  | nil => exact .nil
  | cons a b _ ih => exact .cons (k _ _ a) b ih
theorem TxsL.mem {h : Heap} {vs : List Value} {ls : List (List Str)} (t : TxsL h vs ls) : ∀ v ∈ vs, ∃ l ∈ ls, Tx h v l := by
  induction t with
  | nil => intro v hv; cases hv
  | cons a b _ ih =>
    intro v hv
    rcases List.mem_cons.mp hv with rfl | hv
    · exact ⟨_, List.mem_cons_self .., a⟩
    · obtain ⟨l, h1, h2⟩ := ih v hv
      exact ⟨l, List.mem_cons_of_mem _ h1, h2⟩
theorem TxsL.tups {h : Heap} {vs : List Value} {ls : List (List Str)} (t : TxsL h vs ls) : ∃ fs, KatTups h vs fs ∧ fs.length = vs.length ∧ ∀ f ∈ fs, ∃ x u, f = Value.str x u := by
  induction t with
  | nil => exact ⟨[], KatTups.nil, rfl, fun f hf => nomatch hf⟩
  | cons a b _ ih =>
    obtain ⟨fs, h1, h2, h3⟩ := ih
    obtain ⟨p, o, xs, n, rfl, g1, g2, g3, g4⟩ := a
    generalize he : xs.toList = us at g4
    cases g4 with
    | nil => exact absurd rfl b
    | @cons x u us' l' _ =>
      refine ⟨.str x u :: fs, KatTups.cons g1 g2 g3 ?_ h1, by rw [List.length_cons, List.length_cons, h2], fun f hf => ?_⟩
      · rw [← Array.getElem?_toList, he]; rfl
      · rcases List.mem_cons.mp hf with rfl | hf
        · exact ⟨x, u, rfl⟩
        · exact h3 f hf
theorem Tx.keep {h h' : Heap} {v : Value} {l : List Str} (t : Tx h v l) (k : ∀ p o, h.get? p = some o → o.cls = .type "tuple" → h'.get? p = some o) : Tx h' v l := by
  obtain ⟨p, o, vs, n, rfl, h1, h2, h3, h4⟩ := t
  exact ⟨p, o, vs, n, rfl, k p o h1 h2, h2, h3, h4⟩
theorem TxsL.perm {h : Heap} {vs us : List Value} (p : us.Perm vs) : ∀ {ls : List (List Str)}, TxsL h vs ls → ∃ ms, TxsL h us ms ∧ ms.Perm ls := by
  induction p with
  | nil => intro ls t; exact ⟨ls, t, .refl _⟩
  | cons x _ ih =>
    intro ls t
    cases t with
    | cons a b t =>
      obtain ⟨ms, h1, h2⟩ := ih t
      exact ⟨_, .cons a b h1, h2.cons _⟩
  | swap x y l =>
    intro ls t
    cases t with
    | cons a b t =>
      cases t with
      | cons c d t => exact ⟨_, .cons c d (.cons a b t), List.Perm.swap ..⟩
  | trans _ _ ih1 ih2 =>
    intro ls t
    obtain ⟨ms, h1, h2⟩ := ih2 t
    obtain ⟨ks, g1, g2⟩ := ih1 h1
    exact ⟨ks, g1, g2.trans h2⟩
theorem TxsL.has {h : Heap} : ∀ {out : List Keyed} {ls : List (List Str)}, TxsL h (out.map (·.1)) ls → ∀ m ∈ ls, ∃ k ∈ out, Tx h k.1 m
  | [], _, .nil, m, hm => nomatch hm
  | k :: out, _, .cons a b t, m, hm => by
    rcases List.mem_cons.mp hm with rfl | hm
    · exact ⟨k, List.mem_cons_self .., a⟩
    · obtain ⟨k3, h3, h4⟩ := t.has m hm
      exact ⟨k3, List.mem_cons_of_mem _ h3, h4⟩
theorem TxsL.srt {h : Heap} {all : List (List Str)} : ∀ {out : List Keyed} {ls : List (List Str)}, TxsL h (out.map (·.1)) ls → (∀ l ∈ ls, l ∈ all) → Srt (rkT h all) out → ls.Pairwise fun a b => lexB b a = false
  | [], _, .nil, _, _ => List.Pairwise.nil
  | k :: out, _, .cons (l := l) (ls := ls) a b t, hm, hs => by
    have hs := List.pairwise_cons.mp hs
    refine List.pairwise_cons.mpr ⟨fun m hml => ?_, t.srt (fun x hx => hm x (List.mem_cons_of_mem _ hx)) hs.2⟩
    have := t.has m hml
    obtain ⟨k', hk', tk⟩ := this
    have h1 := hs.1 k' hk'
    unfold Le at h1
    rw [rkT_at a, rkT_at tk] at h1
    cases q : lexB m l with
    | false => rfl
    | true =>
      have := (rank_iff (hm m (List.mem_cons_of_mem _ hml)) (hm l (List.mem_cons_self ..))).mpr q
      lia
theorem sorted_tx {l : Addr} {vs : List Value} {ls : List (List Str)} {Q : Value → Shared → Prop} (hl : s.heap.IsList l vs.toArray) (hv : vs.length < 128) (t : TxsL s.heap vs ls)
    (hk : ∀ (out : List Value) (ms : List (List Str)), out.Perm vs → TxsL s.heap out ms → ms.Perm ls → (ms.Pairwise fun a b => lexB b a = false) → Q (.ref (s.heap.objs.size + 1)) { s with heap := sortedAll s.heap vs out.toArray }) :
    wpAny (model prog w) A (call (.builtin "sorted") [.ref l]) Q E s := by
  refine sorted_by (κ := tuples' true) (dom := fun k => ∃ l ∈ ls, Tx s.heap k.1 l) (r := rkT s.heap ls) hl hv (fun v hv => t.mem v hv) (fun s1 k1 A' s2 k2 => ?_) (fun out a1 a2 => ?_)
  · have keep : ∀ v l, Tx s.heap v l → Tx s2.heap v l := fun v l q => q.keep fun p o h1 h2 => by
      refine k2 p o ?_ (k1 p o h1)
      have : p < s.heap.objs.size := Heap.lt_size h1
      exact Nat.ne_of_lt (Nat.lt_succ_of_lt this)
    refine ⟨fun Q h2 hq => ?_, cmp_tx keep⟩
    obtain ⟨fs, f1, f2, f3⟩ := (t.mono keep).tups
    refine kat_kind (T := Value.type "str") f1 (by lia) (fun v hv => ?_) (by decide) hq
    obtain ⟨x, u, rfl⟩ := f3 v hv
    exact .now
  · have e : ∀ k ∈ out, k.1 = k.2 := fun k hk => by
      have := (a1.mem_iff).mp hk
      obtain ⟨v, _, rfl⟩ := List.mem_map.mp this
      rfl
    have e2 : out.map (·.2) = out.map (·.1) := List.map_congr_left fun k hk => (e k hk).symm
    have p1 : (out.map (·.1)).Perm vs := by
      have := a1.map (·.1)
      rw [List.map_map] at this
      have e3 : List.map ((·.1) ∘ fun (v : Value) => (v, v)) vs = vs := by
        exact (List.map_congr_left (g := id) fun v _ => rfl).trans (List.map_id vs)
      rwa [e3] at this
    obtain ⟨ms, h1, h2⟩ := TxsL.perm p1 t
    rw [e2]
    exact hk _ ms p1 h1 h2 (h1.srt (fun l hl => h2.mem_iff.mp hl) a2)
end TS
namespace PF
open PySem PySem.Spec PyProof.Rows L2
noncomputable def mergeT (kvs more : List (List Key × V)) : List (List Key × V) := more.foldl (fun acc kv => putK acc kv.1 kv.2) kvs
section
variable {X : Cx} {pins : List (Addr × Obj)} {σ : L2.St} {H : Hp} {s : Shared} {A : Around} {E : Value → Shared → Prop}
theorem d_setT {d b : Addr} {kvs : List (List Key × V)} {k : List Key} {v : V} {u r : Value} {Q : Unit → Shared → Prop} (hu : A.units + 1 < cLine) (I : Inv X pins σ H s) (e : H d = some (.dT kvs)) (eb : H b = some (.tup (k.map kV))) (hl : kvs.length < sizeLine) (ry : RelV (.ref b) u) (rv : RelV v r)
    (h : ∀ s', Inv X pins σ (upd H d (.dT (putK kvs k v))) s' → (∀ b, b ≠ d → s'.heap.get? b = s.heap.get? b) → Q () s') : wpAny (model X.prog X.w) A.in1 (dictSet d u r) Q E s := by
  cases (show u = Value.ref b from ry)
  obtain ⟨z, hd, xs, rel, dd⟩ := dt_of I.hok e
  have hz : xs.length ≤ sizeLine := by rw [← Paired.length rel]; exact z
  have hl2 : (putK kvs k v).length ≤ sizeLine := by have := length_putK kvs k v; omega
  refine wpAny_dictSet_heap (hsz := hz) (tupleKind_room_in1 hu) (key_of I.hok eb) dd (fun h' dd' hs => h _ ?_ (fun b hb => hs.2 b hb))
  obtain ⟨q, es, ep, hq, h2, h3, h4, _, h5⟩ := dd'
  refine d_write I (by rw [e]; exact True.intro) hs ⟨q, hq⟩ ⟨hl2, hd, _, (rel.put k eb rv).keeps fun c ys ec => ?_, q, es, ep, hq, h2, h3, h4, h5⟩
  rw [upd_ne (ne_of ec e (fun z => nomatch z))]
  exact ec
theorem dict_loopT (hun : A.units + 1 < cLine) (hA : A.handled = none) {Hn : Hp} {d a it : Addr} {xs : List V} (hn : Hn d = none) (hl : SqL X.K Hn a xs) (hdi : it ≠ d) (kvs : List (List Key × V)) (hlen : kvs.length = xs.length)
    (pr : ∀ (j : Nat) (k : List Key) (v : V), kvs[j]? = some (k, v) → ∃ p b, xs[j]? = some (.ref p) ∧ SqT X.K Hn p [.ref b, v] ∧ Hn b = some (.tup (k.map kV))) {R : Result → Shared → Prop} :
    ∀ (m i : Nat) (s : Shared) (acc : List (List Key × V)) (tk : Tok), xs.length - i = m → i ≤ xs.length → acc.length ≤ i → Inv X pins σ (upd Hn d (.dT acc)) s → FpOk X pins (upd Hn d (.dT acc)) it → s.heap.IsListIter it a i →
      (∀ s', Inv X pins σ (upd Hn d (.dT (mergeT acc (kvs.drop i)))) s' → R (.ok (.ret .none)) s') → codeAny (model X.prog X.w) A (.builtin "dict.update.loop" ⟨[.ref d, .ref it, .int (i : Int) tk, .none], []⟩) R s := by
  intro m
  induction m with
  | zero =>
    intro i s acc tk hm hi ha I hf st hR
    have hi2 : i = xs.length := by omega
    obtain ⟨its, rv, p, hz⟩ := I.list (sqL_upd (o := .dT acc) hn hl)
    obtain ⟨f0, f1, f2, f3, f4, f5⟩ := hf
    have hll := rv.length
    refine codeAny_builtin entry_update_loop ?_
    rw [Around.under_plainId plain_update_loop _]
    show wpAny _ A.in1 (pyNext (.ref it) >>= _) _ _ s
    refine wpAny_bind (wpAny_pyNext_list_end hA st p.isList (by simp; omega) fun h' eb => ?_)
    have I1 := I.turned (t' := s.toks) (fun b o hb e => eb b o hb e) f0 f1 f3 f4 f5
    show wpAny _ A.in1 (Builtin.Dict.addKeywords d [] >>= fun _ => ret .none) _ _ _
    refine wpAny_bind (wpAny_pure (wpAny_pure (hR _ ?_)))
    rw [hi2, List.drop_of_length_le (by omega)]
    exact I1
  | succ m ih =>
    intro i s acc tk hm hi ha I hf st hR
    have hlt : i < xs.length := by omega
    have hk : i < kvs.length := by omega
    obtain ⟨k, v, hkv2⟩ : ∃ k v, kvs[i]? = some (k, v) := ⟨kvs[i].1, kvs[i].2, List.getElem?_eq_getElem hk⟩
    have hdr : kvs.drop i = (k, v) :: kvs.drop (i + 1) := by
      rw [List.drop_eq_getElem_cons hk]
      congr 1
      rw [List.getElem?_eq_getElem hk] at hkv2
      exact Option.some.inj hkv2
    obtain ⟨p, bk, hp, hq, hbk⟩ := pr i k v hkv2
    obtain ⟨its, rv, pl, hz⟩ := I.list (sqL_upd (o := .dT acc) hn hl)
    have hll2 : xs.length ≤ sizeLine := hz
    obtain ⟨u, hu, ru⟩ := rv.get hp
    cases (show u = Value.ref p from ru)
    obtain ⟨f0, f1, f2, f3, f4, f5⟩ := id hf
    refine codeAny_builtin entry_update_loop ?_
    rw [Around.under_plainId plain_update_loop _]
    show wpAny _ A.in1 (pyNext (.ref it) >>= _) _ _ s
    refine wpAny_bind (wpAny_pyNext_list_item st pl.isList (x := .ref p) (by simpa using hu) fun h' st' sb => ?_)
    have I1 : Inv X pins σ (upd Hn d (.dT acc)) { s with heap := h' } := I.turned (t' := s.toks) (fun b o hb e => (sb.2 b hb).trans e) f0 f1 f3 f4 f5
    obtain ⟨ps, rps, ⟨o, ho, hoc, n, hod⟩, hpz⟩ := I1.tuple (sqT_upd (o := .dT acc) hn hq)
    obtain ⟨u1, u2, rfl, r1, r2⟩ : ∃ u1 u2, ps = [u1, u2] ∧ RelV (.ref bk) u1 ∧ RelV v u2 := by
      cases rps with
      | cons p q =>
        cases q with
        | cons p' q' =>
          cases q'
          exact ⟨_, _, rfl, p, p'⟩
    show wpAny _ A.in1 (holding [Value.ref p] _ >>= _) _ _ _
    refine wpAny_bind (wpAny_holding ?_)
    refine wpAny_bind (wpAny_tryCatch ?_)
    unfold Builtin.Dict.pairItems
    refine wpAny_bind (wpAny_typeOf (show ({ s with heap := h' } : Shared).TypeIs (.ref p) "tuple" from ⟨o, ho, hoc⟩) ?_)
    rw [if_pos (by decide)]
    refine wpAny_bind (wpAny_seqItems ho hod (wpAny_pure ?_))
    show wpAny _ A.in1 (holding [u1, u2] (dictSet d u1 u2)) _ _ _
    refine wpAny_holding ?_
    refine d_setT hun I1 upd_same (by rw [upd_ne (ne_of_none hbk hn)]; exact hbk) (by omega) r1 r2 (fun s2 I2 hk2 => ?_)
    rw [upd_upd] at I2
    have e1 : (((i : Int) + 1)) = ((i + 1 : Nat) : Int) := by omega
    show wpAny _ A.in1 (again (.builtin "dict.update.loop" ⟨[.ref d, .ref it, rawInt ((i : Int) + 1), .none], []⟩)) _ _ _
    rw [e1]
    refine wpAny_pure ⟨plainId_quiet plain_update_loop _, ?_⟩
    refine ih (i + 1) s2 (putK acc k v) _ (by omega) (by omega) (by have := length_putK acc k v; omega) I2 ⟨?_, f1, f2, f3, f4, f5⟩ (st'.at fun o e => by rw [hk2 it hdi]; exact e) (fun s' I' => hR s' ?_)
    · rw [upd_ne hdi] at f0 ⊢; exact f0
    · rw [hdr]; exact I'
theorem dict_ofT {a : Addr} {xs : List V} {kvs : List (List Key × V)} {Q : VK} (hu : X.A.units + 2 < cLine) (hc : X.calm = true) (I : Inv X pins σ H s) (hl : SqL X.K H a xs) (hlen : kvs.length = xs.length)
    (pr : ∀ (j : Nat) (k : List Key) (v : V), kvs[j]? = some (k, v) → ∃ p b, xs[j]? = some (.ref p) ∧ SqT X.K H p [.ref b, v] ∧ H b = some (.tup (k.map kV))) (q : ∀ p, H p = none → FpOk X pins H p → Q (.ref p) (upd H p (.dT (mergeT [] kvs)))) :
    wpAny (model X.prog X.w) X.A (call (.type "dict") [.ref a]) (EP X pins σ Q) X.xe s := by
  have hA : X.A.handled = none := I.ok.hd hc
  have hp := I.hok.fresh (Nat.le_refl s.heap.objs.size)
  have I1 := I.laid (a := s.heap.objs.size) (o := .dT []) (h' := s.heap.push { cls := .type "dict", data := .dict #[] }) (t' := s.toks) (fun _ _ q => Heap.get?_push_of_some _ q) (Nat.le_refl _) (dt_empty s.heap I.big)
  refine callType_codes (Q₁ := fun obj s₁ => obj = .ref s.heap.objs.size ∧ s₁ = { s with heap := s.heap.push { cls := .type "dict", data := .dict #[] } }) F.kt_called_dict (F.kt_typeCall_dict_1 _) F.entry_dict_init (kt_code_dict_new _ ⟨rfl, rfl⟩) ?_
  rintro obj s₁ ⟨rfl, rfl⟩
  have hnew : (s.heap.push { cls := .type "dict", data := .dict #[] }).DictOf (mixKind X.prog X.w) s.heap.objs.size [] := Heap.DictOf.new s.heap
  obtain ⟨its, rv, ⟨⟨c1, d1, t1, s1⟩, n1, e1, a1, d0, b1⟩, hz⟩ := I1.list (sqL_upd (o := .dT []) hp hl)
  cases a1; cases b1; cases d0
  refine ⟨hnew.typeIs, F.args_dict_init_2 _ _, ?_⟩
  unfold Builtin.«dict.__init__»
  refine wpAny_bind ?_
  unfold Builtin.Dict.selfAndRest
  refine wpAny_bind (wpAny_notOrdered_dict hnew.typeIs ?_)
  show wpAny _ _ (pure (s.heap.objs.size, [Value.ref a])) _ _ _
  refine wpAny_pure ?_
  show wpAny _ _ (Builtin.Dict.updateFrom "dict.__init__" s.heap.objs.size (.ref a) [] .none) _ _ _
  unfold Builtin.Dict.updateFrom
  refine wpAny_bind (wpAny_typeOf (show (({ s with heap := s.heap.push { cls := .type "dict", data := .dict #[] } } : Shared).TypeIs (.ref a) "list") from ⟨_, e1, rfl⟩) ?_)
  rw [if_pos (by decide)]
  refine wpAny_bind (gaq_list e1 rfl rfl rfl keys_no_list (by decide +kernel) hA (fun h2 tk2 ex ne => ?_))
  rw [if_pos (show (none : Option Value).isNone = true from rfl)]
  refine wpAny_bind (wpAny_rule ?_)
  have I2 : Inv X pins σ (upd H s.heap.objs.size (.dT [])) { s with heap := h2, toks := tk2 } := I1.kept (t' := tk2) fun b o e => ne.keeps b o e
  refine wpAny_bind (wpAny_pyIter_list (items := its.toArray) ⟨_, ne.keeps _ _ e1, rfl, _, rfl⟩ ?_)
  have I3 := I2.kept (h' := h2.push { cls := .type "list_iterator", data := .fields #[.ref a, .int 0 0] }) (t' := tk2) fun b o e => Heap.get?_push_of_some _ e
  have hit : (upd H s.heap.objs.size (.dT [])) h2.objs.size = none := I2.hok.fresh (Nat.le_refl _)
  have hne : h2.objs.size ≠ s.heap.objs.size := fun z => by rw [z, upd_same] at hit; cases hit
  refine wpAny_pure ⟨plainId_quiet plain_update_loop _, ?_⟩
  refine dict_loopT (A := X.A.in1) (show X.A.units + 1 + 1 < cLine by omega) (Hn := H) (xs := xs) hA hp hl hne kvs hlen pr xs.length 0 _ [] 0 (by omega) (Nat.zero_le _) (Nat.le_refl _) I3 (I2.fpOk (Nat.le_refl _) hit) ⟨_, Heap.get?_push_size _ rfl, rfl, rfl⟩ (fun s' I' => ?_)
  rw [List.drop_zero] at I'
  exact ⟨rfl, .ref _, _, I', rfl, q _ hp (I.fpOk (Nat.le_refl _) hp)⟩
end
end PF
namespace PF
open PySem PySem.Spec PyProof.Rows L2 PySem.Builtin PySem.Builtin.Str
section
variable {X : Cx}
noncomputable def partsOf (x y : Str) : List Str := partsBetween x (occurrences x y 0 x.length (x.length + 1)) y.length
noncomputable def splitOk (x y : Str) : Bool := !(decide (x.length < y.length) || decide (strKind x < strKind y)) && !(y.length == 0) && !(occurrences x y 0 x.length (x.length + 1)).isEmpty
noncomputable def stripOf (x : Str) : Str := if stripSame Unicode.isSpace true true x then x else stripped Unicode.isSpace true true x
end
end PF
namespace PF
open PySem PySem.Spec PyProof.Rows L2 TS
inductive Rows (G : Addr → List Str → Prop) : List V → List (List Str) → Prop
  | nil : Rows G [] []
  | cons {p : Addr} {l : List Str} {xs : List V} {ls : List (List Str)} : G p l → l ≠ [] → Rows G xs ls → Rows G (.ref p :: xs) (l :: ls)
theorem txs_of : ∀ {l : List Str} {us : List Value}, Vals (l.map V.str) us → Txs us l
  | [], us, h => by cases h; exact .nil
  | x :: l, us, h => by
    cases h with
    | cons a t =>
      obtain ⟨tk, rfl⟩ := (show ∃ t, _ = Value.str x t from a)
      exact .cons (txs_of t)
section
variable {X : Cx} {pins : List (Addr × Obj)} {σ : L2.St} {H : Hp} {s : Shared}
theorem rows_txs {G : Addr → List Str → Prop} (hG : ∀ p l, G p l → SqT X.K H p (l.map V.str)) (I : Inv X pins σ H s) : ∀ {xs : List V} {ls : List (List Str)} {us : List Value}, Rows G xs ls → Vals xs us → TxsL s.heap us ls
  | _, _, us, .nil, h => by cases h; exact .nil
  | _, _, us, .cons (p := p) a b t, h => by
    cases h with
    | cons r h =>
      cases (show _ = Value.ref p from r)
      obtain ⟨ps, rps, ⟨o, ho, hoc, n, hod⟩, hpz⟩ := I.tuple (hG _ _ a)
      exact .cons ⟨p, o, _, n, rfl, ho, hoc, hod, txs_of (by simpa using rps)⟩ b (rows_txs hG I t h)
theorem rows_perm {G : Addr → List Str → Prop} {us vs : List Value} (p : us.Perm vs) : ∀ {xs : List V} {ls : List (List Str)}, Rows G xs ls → Vals xs vs → ∃ ys ms, ys.Perm xs ∧ Rows G ys ms ∧ ms.Perm ls ∧ Vals ys us := by
  induction p with
  | nil => intro xs ls r h; exact ⟨xs, ls, .refl _, r, .refl _, h⟩
  | cons x _ ih =>
    intro xs ls r h
    cases h with
    | cons a t =>
      cases r with
      | cons b c r =>
        obtain ⟨ys, ms, h1, h2, h3, h4⟩ := ih r t
        exact ⟨_, _, h1.cons _, .cons b c h2, h3.cons _, .cons a h4⟩
  | swap x y l =>
    intro xs ls r h
    cases h with
    | cons a t =>
      cases t with
      | cons a' t =>
        cases r with
        | cons b c r =>
          cases r with
          | cons b' c' r => exact ⟨_, _, List.Perm.swap .., .cons b' c' (.cons b c r), List.Perm.swap .., .cons a' (.cons a t)⟩
  | trans _ _ ih1 ih2 =>
    intro xs ls r h
    obtain ⟨ys, ms, h1, h2, h3, h4⟩ := ih2 r h
    obtain ⟨zs, ns, g1, g2, g3, g4⟩ := ih1 h2 h4
    exact ⟨zs, ns, g1.trans h1, g2, g3.trans h3, g4⟩
theorem txs_one {h : Heap} : ∀ {us : List Value} {ls ms : List (List Str)}, TxsL h us ls → TxsL h us ms → ls = ms
  | _, _, _, .nil, .nil => rfl
  | _, _, _, .cons a _ t, .cons b _ u => by rw [a.one b, txs_one t u]
theorem sortedT_ok {a : Addr} {xs : List V} {ls : List (List Str)} {Q : VK} {G : Addr → List Str → Prop} (hG : ∀ p l, G p l → SqT X.K H p (l.map V.str)) (I : Inv X pins σ H s) (hq : SqL X.K H a xs) (hr : Rows G xs ls) (hz : xs.length < 128)
    (q : ∀ p ys ms, H p = none → ys.Perm xs → Rows G ys ms → ms.Perm ls → (ms.Pairwise fun a b => lexB b a = false) → Q (.ref p) (upd H p (.lst ys))) :
    wpAny (model X.prog X.w) X.A (call (.builtin "sorted") [.ref a]) (EP X pins σ Q) X.xe s := by
  obtain ⟨its, rv, pl, _⟩ := I.list hq
  have hlen := rv.length
  refine sorted_tx pl.isList (by omega) (rows_txs hG I hr rv) (fun out ms a1 a2 a3 a4 => ?_)
  obtain ⟨ys, ns, h1, h2, h3, h4⟩ := rows_perm a1 hr rv
  have e := txs_one (rows_txs hG I h2 h4) a2
  subst e
  obtain ⟨ep, he⟩ := sortedAll_at s.heap its out.toArray
  have hp1 := I.hok.fresh (Nat.le_succ s.heap.objs.size)
  refine ⟨.ref _, _, I.laid (a := s.heap.objs.size + 1) (o := .lst ys) (t' := s.toks) (fun b o e => sortedAll_old e) (Nat.le_succ _) ?_, rfl, q _ ys ns hp1 h1 h2 a3 a4⟩
  refine ⟨?_, out, ep, h4, by simpa [seqObj] using he⟩
  rw [h1.length_eq, sizeLine_eq]; omega
end
end PF
namespace PF
open PySem PySem.Builtin PySem.Builtin.Str PySem.StrLaws
end PF
namespace PF
open PySem PySem.Spec PyProof.Rows L2
section
variable {prog : Program} {w : World} {A : Around} {E : Value → Shared → Prop} {s : Shared}
theorem tup_lt_tree {a b : Addr} {xs ys : Array Value} {l m : List Str} {P : Fin → Shared → Prop} (ha : s.heap.IsTuple a xs) (hb : s.heap.IsTuple b ys) (tx : TS.Txs xs.toList l) (ty : TS.Txs ys.toList m)
    (h : P (.done (.ret (.bool (TS.lexB l m)))) s) : wpAny (model prog w) A (Builtin.«tuple.__lt__» ⟨[.ref a, .ref b], []⟩) P E s := by
  obtain ⟨oa, hoa, hca, na, hda⟩ := ha
  obtain ⟨ob, hob, hcb, nb, hdb⟩ := hb
  have hTb : s.TypeIs (.ref b) "tuple" := ⟨_, hob, hcb⟩
  show wpAny _ _ (isInstance (.ref b) (.type "tuple") >>= _) _ _ s
  refine wpAny_bind (wpAny_isInstance hTb isSubtype_tuple_tuple ?_)
  simp only [Bool.not_true, Bool.false_eq_true, if_false]
  refine wpAny_bind (wpAny_tupleItemsOf hoa hda ?_)
  refine wpAny_bind (wpAny_tupleItemsOf hob hdb ?_)
  refine wpAny_bind ?_
  refine wpAny_forIn_list _
    (fun rest r s' => r.1 = none ∧ s' = s ∧ ∃ l' m' xs' ys', rest = List.zip xs' ys' ∧ TS.Txs xs' l' ∧ TS.Txs ys' m' ∧ TS.lexB l' m' = TS.lexB l m ∧ decide (xs'.length < ys'.length) = decide (xs.size < ys.size))
    _ ?_ ?_ _ _ ⟨rfl, rfl, l, m, xs.toList, ys.toList, rfl, tx, ty, rfl, by simp⟩
  · rintro ⟨u, v⟩ rest r s' ⟨hr, rfl, l', m', xs', ys', hz, hx', hy', hdec, hlen⟩
    cases hx' with
    | nil => simp at hz
    | @cons x t xs'' l'' hx'' =>
      cases hy' with
      | nil => simp at hz
      | @cons y t2 ys'' m'' hy'' =>
        simp only [List.zip_cons_cons, List.cons.injEq, Prod.mk.injEq] at hz
        obtain ⟨⟨rfl, rfl⟩, rfl⟩ := hz
        rw [TS.lexB] at hdec
        refine wpAny_bind (wpAny_eqBool_str ?_)
        by_cases hk : x = y
        · rw [decide_eq_true hk]
          rw [if_pos hk] at hdec
          simp only [Bool.not_true, Bool.false_eq_true, if_false]
          refine wpAny_pure ⟨rfl, rfl, l'', m'', xs'', ys'', rfl, hx'', hy'', hdec, by simpa using hlen⟩
        · rw [decide_eq_false hk]
          rw [if_neg hk] at hdec
          simp only [Bool.not_false, if_true]
          rw [← hdec] at h
          refine wpAny_bind (wpAny_rule ?_)
          refine wpAny_bind (PySem.P.lt_str ?_)
          exact wpAny_bind (wpAny_pure (wpAny_pure (wpAny_pure h)))
  · rintro ⟨r1, r2⟩ s' ⟨hr, rfl, l', m', xs', ys', hz, hx', hy', hdec, hlen⟩
    simp only at hr
    subst hr
    refine wpAny_pure ?_
    have hfin : decide (xs.size < ys.size) = TS.lexB l m := by
      rw [← hdec, ← hlen]
      cases hx' with
      | nil =>
        cases hy' with
        | nil => rfl
        | cons _ => rfl
      | cons _ =>
        cases hy' with
        | nil => rfl
        | cons _ => simp at hz
    show P (.done (.ret (.bool (decide (xs.size < ys.size))))) s'
    rw [hfin]; exact h
theorem tup_lt {a b : Addr} {xs ys : Array Value} {l m : List Str} {Q : Value → Shared → Prop} (hu : A.units < cLine) (ha : s.heap.IsTuple a xs) (hb : s.heap.IsTuple b ys) (tx : TS.Txs xs.toList l) (ty : TS.Txs ys.toList m)
    (h : Q (.bool (TS.lexB l m)) s) : wpAny (model prog w) A (compareOp .Lt (.ref a) (.ref b)) Q E s := by
  have hTa : s.TypeIs (.ref a) "tuple" := by obtain ⟨o, ho, hc, _⟩ := ha; exact ⟨o, ho, hc⟩
  have hTb : s.TypeIs (.ref b) "tuple" := by obtain ⟨o, ho, hc, _⟩ := hb; exact ⟨o, ho, hc⟩
  show wpAny _ _ (richCompare .Lt (.ref a) (.ref b)) _ _ s
  exact wpAny_richCompare_same_room (op := .Lt) hTa hTb F.slot_tuple_lt
      (wpAny_call_entry F.slot_tuple_lt hTa F.entry_tuple_lt (tup_lt_tree ha hb tx ty ⟨_, rfl, (fun e => nomatch e), h⟩) (F.args_tuple_lt_2 _ _)) hu
end
end PF
namespace L2
open PySem PySem.Spec PyProof.Rows
noncomputable def Its (x : Str) : It := ⟨fun i _ => i < x.cps.size, fun i H v H' => H' = H ∧ ∃ c, x.cps[i]? = some c ∧ v = .str ⟨#[c]⟩, fun i _ => x.cps.size ≤ i⟩
theorem turn_str {P : Program} {w : World} {K : Frag} {tg : Expr} (it : Addr) (T : String) (x : Str) (t : Tok)
    (hT : ["enumerate", "zip", "dict_itemiterator", "dict_reverseitemiterator", "odict_iterator", "itertools.zip_longest", "itertools.pairwise"].contains T = false)
    (W : ∀ A' : Around, A'.handled = none → Walks P w A' it [it] [it] x.cps.size (SignAt x) (fun i h => h.IsStrIter it T x t i))
    (self : ∀ (A : Around) (i : Nat) (s : Shared) (Q : Value → Shared → Prop) (E : Value → Shared → Prop), s.heap.IsStrIter it T x t i → Q (.ref it) s → wpAny (model P w) A (pyIter (.ref it)) Q E s) :
    Turn P w K tg (Its x) [it] it (fun i h => h.IsStrIter it T x t i ∧ i ≤ x.cps.size) where
  mem := by simp
  obj := fun i h st b hb => by
    have e : b = it := by simpa using hb
    subst e
    obtain ⟨⟨o, e, c, d⟩, _⟩ := st
    exact ⟨o, e, fun v z => by rw [d] at z; cases z⟩
  keep := fun i h h' st k => by
    obtain ⟨⟨o, e, r⟩, hi⟩ := st
    exact ⟨⟨o, k it (by simp) o e, r⟩, hi⟩
  item := by
    intro X hP hw hK hc i pins s σ H E I hf st hg
    subst hP hw hK
    obtain ⟨f0, f1, f2, f3, f4, f5⟩ := hf it (by simp)
    refine (W _ (I.ok.hd hc)).item i s _ _ hg st.1 fun v h' tk hv st' kk => ?_
    obtain ⟨c, u, hc', rfl⟩ := hv
    have I1 : Inv X pins σ H { s with heap := h', toks := tk } := I.turned (fun b o hb e => kk b o (by simpa using hb) e) f0 f1 f3 f4 f5
    obtain ⟨o, e, c', d⟩ := id st'
    exact ⟨_, rfl, go_of (s := { s with heap := h', toks := tk }) e c' d hT ⟨.str ⟨#[c]⟩, H, I1, ⟨u, rfl⟩, ⟨rfl, c, hc', rfl⟩, ⟨st', hg⟩, fun b hb => (hf b hb).1⟩⟩
  done := by
    intro X hP hw hK hc i pins s σ H E I hf st hg
    subst hP hw hK
    obtain ⟨f0, f1, f2, f3, f4, f5⟩ := hf it (by simp)
    have e : i = x.cps.size := Nat.le_antisymm st.2 hg
    subst e
    exact (W _ (I.ok.hd hc)).done s _ _ st.1 fun h' tk kk => ⟨rfl, I.turned (fun b o hb e => kk b o (by simpa using hb) e) f0 f1 f3 f4 f5⟩
  self := fun A i s Q E st h => self A i s Q E st.1 h
section
variable {X : Cx} {tg : Expr}
theorem pi_str {l : Expr} {tl : TE} (hl : PE X l tl) : PI X tg l (fun σ H R => tl σ H fun x H1 => ∃ z, x = .str z ∧ R (Its z) H1) := by
  intro pins s σ H R I h
  refine thn (hl pins s σ H _ I h) fun v s1 ⟨x, H1, I1, r1, q1⟩ => ?_
  obtain ⟨z, e, q⟩ := q1
  subst e
  obtain ⟨t, rfl⟩ := r1
  have fp : ∀ b ∈ [s1.heap.objs.size], ∀ o : Obj, FpOk X pins H1 b := fun b hb o => by
    have e : b = s1.heap.objs.size := by simpa using hb
    subst e
    exact I1.fpOk (Nat.le_refl _) (I1.hok.fresh (Nat.le_refl _))
  cases ha : z.cps.all (· < 128)
  · exact wpAny_pyIter_wide ha ⟨s1.heap.objs.size, [s1.heap.objs.size], _, _, H1, rfl, I1.kept (t' := s1.toks) fun b o e => Heap.get?_push_of_some _ e, turn_str _ "str_iterator" z t (by decide) (fun A' hA => Walks.strWide hA _ z t) (fun _ _ _ _ _ st h => wpAny_pyIter_striter_wide st h),
      ⟨⟨_, Heap.get?_push_size _ rfl, rfl, rfl⟩, Nat.zero_le _⟩, fun b hb => fp b hb ⟨.none, none, .cell none, #[]⟩, q⟩
  · exact wpAny_pyIter_ascii ha ⟨s1.heap.objs.size, [s1.heap.objs.size], _, _, H1, rfl, I1.kept (t' := s1.toks) fun b o e => Heap.get?_push_of_some _ e, turn_str _ "str_ascii_iterator" z t (by decide) (fun A' hA => Walks.strAscii hA _ z t) (fun _ _ _ _ _ st h => wpAny_pyIter_striter_ascii st h),
      ⟨⟨_, Heap.get?_push_size _ rfl, rfl, rfl⟩, Nat.zero_le _⟩, fun b hb => fp b hb ⟨.none, none, .cell none, #[]⟩, q⟩
end
end L2
namespace PF
open PySem PySem.Spec PyProof.Rows L2
inductive D where
  | non | bl (b : Bool) | int (i : Int) | str (x : Str) | tup (ds : List D) | lst (ds : List D) | ref (n : Nat)
  deriving Inhabited
mutual
noncomputable def D.beq : D → D → Bool
  | .non, .non => true
  | .bl a, .bl b => a == b
  | .int a, .int b => a == b
  | .str a, .str b => decide (a = b)
  | .tup a, .tup b => D.beqs a b
  | .lst a, .lst b => D.beqs a b
  | .ref a, .ref b => a == b
  | _, _ => false
noncomputable def D.beqs : List D → List D → Bool
  | [], [] => true
  | a :: as, b :: bs => D.beq a b && D.beqs as bs
  | _, _ => false
end
mutual
theorem D.beq_refl : ∀ a : D, D.beq a a = true
  | .non => by simp [D.beq]
  | .bl _ => by simp [D.beq]
  | .int _ => by simp [D.beq]
  | .str _ => by simp [D.beq]
  | .tup ds => by simp [D.beq, D.beqs_refl ds]
  | .lst ds => by simp [D.beq, D.beqs_refl ds]
  | .ref _ => by simp [D.beq]
theorem D.beqs_refl : ∀ a : List D, D.beqs a a = true
  | [] => by simp [D.beqs]
  | a :: as => by simp [D.beqs, D.beq_refl a, D.beqs_refl as]
end
mutual
theorem D.eq_of_beq : ∀ {a b : D}, D.beq a b = true → a = b
  | .non, b, h => by cases b <;> simp_all [D.beq]
  | .bl _, b, h => by cases b <;> simp_all [D.beq]
  | .int _, b, h => by cases b <;> simp_all [D.beq]
  | .str _, b, h => by cases b <;> simp_all [D.beq]
  | .tup ds, b, h => by
    cases b with
    | tup es => rw [D.beq] at h; rw [D.eq_of_beqs h]
    | _ => simp [D.beq] at h
  | .lst ds, b, h => by
    cases b with
    | lst es => rw [D.beq] at h; rw [D.eq_of_beqs h]
    | _ => simp [D.beq] at h
  | .ref _, b, h => by cases b <;> simp_all [D.beq]
theorem D.eq_of_beqs : ∀ {a b : List D}, D.beqs a b = true → a = b
  | [], b, h => by cases b <;> simp_all [D.beqs]
  | a :: as, b, h => by
    cases b with
    | nil => simp [D.beqs] at h
    | cons b bs =>
      rw [D.beqs, Bool.and_eq_true] at h
      rw [D.eq_of_beq h.1, D.eq_of_beqs h.2]
end
noncomputable instance : DecidableEq D := fun a b => if h : D.beq a b = true then .isTrue (D.eq_of_beq h) else .isFalse fun e => h (by rw [e]; exact D.beq_refl b)
inductive Ob where
  | lst (ds : List D) | dk (kvs : List (Key × D)) | dt (kvs : List (List Key × D))
noncomputable abbrev Sto := List Ob
noncomputable abbrev En := List (Option D)
noncomputable abbrev St := L2.St
section
variable (K : Frag) (mu : List Addr) (H : Hp)
def KL (K : Frag) (a : Addr) (xs : List V) : Prop :=
  ∃ (o : Obj) (its : Array Value) (n : Nat), K.lookup a = some o ∧ o.cls = .type "list" ∧ o.dict = none ∧ o.data = .seq its n ∧ its.size ≤ sizeLine ∧ Vals xs its.toList
def KT (K : Frag) (a : Addr) (xs : List V) : Prop :=
  ∃ (o : Obj) (its : Array Value) (n : Nat), K.lookup a = some o ∧ o.cls = .type "tuple" ∧ o.data = .seq its n ∧ its.size ≤ sizeLine ∧ Vals xs its.toList
mutual
def RD : D → V → Prop
  | .non, v => v = .non
  | .bl b, v => v = .bl b
  | .int i, v => v = .int i
  | .str x, v => v = .str x
  | .tup ds, v => ∃ a xs, v = .ref a ∧ ((a ∉ mu ∧ Rd H a (.tup xs)) ∨ KT K a xs) ∧ RDs ds xs
  | .lst ds, v => ∃ a xs, v = .ref a ∧ ((a ∉ mu ∧ Rd H a (.lst xs)) ∨ KL K a xs) ∧ RDs ds xs
  | .ref n, v => ∃ a, mu[n]? = some a ∧ v = .ref a
def RDs : List D → List V → Prop
  | [], xs => xs = []
  | d :: ds, xs => ∃ x r, xs = x :: r ∧ RD d x ∧ RDs ds r
end
def RO (a : Addr) : Ob → Prop
  | .lst ds => ∃ xs, H a = some (.lst xs) ∧ RDs K mu H ds xs
  | .dk kvs => ∃ us, H a = some (.dK us) ∧ us.map (·.1) = kvs.map (·.1) ∧ RDs K mu H (kvs.map (·.2)) (us.map (·.2))
  | .dt kvs => ∃ us, H a = some (.dT us) ∧ us.map (·.1) = kvs.map (·.1) ∧ RDs K mu H (kvs.map (·.2)) (us.map (·.2))
structure WR (S : Sto) : Prop where
  len : mu.length = S.length
  nd : mu.Nodup
  ob : ∀ (n : Nat) (o : Ob), S[n]? = some o → ∃ a, mu[n]? = some a ∧ RO K mu H a o
structure ER (env : En) (σ : St) : Prop where
  len : env.length = σ.length
  get : ∀ (i : Nat) (d : D), env[i]? = some (some d) → ∃ v, σ[i]? = some (some v) ∧ RD K mu H d v
end
structure Ext (mu : List Addr) (H : Hp) (mu' : List Addr) (H' : Hp) : Prop where
  more : ∃ z, mu' = mu ++ z
  keep : ∀ a o, H a = some o → a ∉ mu → H' a = some o ∧ a ∉ mu'
theorem Ext.refl {mu : List Addr} {H : Hp} : Ext mu H mu H := ⟨⟨[], by simp⟩, fun _ _ h n => ⟨h, n⟩⟩
theorem Ext.trans {mu mu1 mu2 : List Addr} {H H1 H2 : Hp} (a : Ext mu H mu1 H1) (b : Ext mu1 H1 mu2 H2) : Ext mu H mu2 H2 := by
  refine ⟨?_, fun c o h n => ?_⟩
  · obtain ⟨z, rfl⟩ := a.more
    obtain ⟨z', rfl⟩ := b.more
    exact ⟨z ++ z', by simp⟩
  · obtain ⟨h1, n1⟩ := a.keep c o h n
    exact b.keep c o h1 n1
theorem Ext.get {mu mu' : List Addr} {H H' : Hp} (e : Ext mu H mu' H') {n : Nat} {a : Addr} (h : mu[n]? = some a) : mu'[n]? = some a := by
  obtain ⟨z, rfl⟩ := e.more
  have : n < mu.length := (List.getElem?_eq_some_iff.mp h).1
  rw [List.getElem?_append_left this]; exact h
theorem Ext.rd {mu mu' : List Addr} {H H' : Hp} (e : Ext mu H mu' H') {a : Addr} {u : HO} (n : a ∉ mu) (h : Rd H a u) : a ∉ mu' ∧ Rd H' a u := by
  rcases h with h | ⟨o, h⟩
  · exact ⟨(e.keep a _ h n).2, .inl (e.keep a _ h n).1⟩
  · exact ⟨(e.keep a _ h n).2, .inr ⟨o, (e.keep a _ h n).1⟩⟩
section
variable {K : Frag} {mu mu' : List Addr} {H H' : Hp}
mutual
theorem RD.mono (e : Ext mu H mu' H') : ∀ (d : D) (v : V), RD K mu H d v → RD K mu' H' d v
  | .non, v, h => by rw [RD] at h ⊢; exact h
  | .bl _, v, h => by rw [RD] at h ⊢; exact h
  | .int _, v, h => by rw [RD] at h ⊢; exact h
  | .str _, v, h => by rw [RD] at h ⊢; exact h
  | .tup ds, v, h => by
    rw [RD] at h ⊢
    obtain ⟨a, xs, ev, h, hs⟩ := h
    refine ⟨a, xs, ev, ?_, RDs.mono e ds xs hs⟩
    rcases h with ⟨n, h⟩ | h
    · exact .inl (e.rd n h)
    · exact .inr h
  | .lst ds, v, h => by
    rw [RD] at h ⊢
    obtain ⟨a, xs, ev, h, hs⟩ := h
    refine ⟨a, xs, ev, ?_, RDs.mono e ds xs hs⟩
    rcases h with ⟨n, h⟩ | h
    · exact .inl (e.rd n h)
    · exact .inr h
  | .ref n, v, h => by
    rw [RD] at h ⊢
    obtain ⟨a, h, ev⟩ := h
    exact ⟨a, e.get h, ev⟩
theorem RDs.mono (e : Ext mu H mu' H') : ∀ (d : List D) (v : List V), RDs K mu H d v → RDs K mu' H' d v
  | [], v, h => by rw [RDs] at h ⊢; exact h
  | d :: ds, v, h => by
    rw [RDs] at h ⊢
    obtain ⟨x, r, a, b, c⟩ := h
    exact ⟨x, r, a, RD.mono e d x b, RDs.mono e ds r c⟩
end
theorem RDs.nil : RDs K mu H [] [] := by rw [RDs]
theorem RDs.cons {d : D} {ds : List D} {x : V} {xs : List V} (h : RD K mu H d x) (t : RDs K mu H ds xs) : RDs K mu H (d :: ds) (x :: xs) := by
  rw [RDs]; exact ⟨x, xs, rfl, h, t⟩
theorem RDs.cases_cons {d : D} {ds : List D} {xs : List V} (h : RDs K mu H (d :: ds) xs) : ∃ x r, xs = x :: r ∧ RD K mu H d x ∧ RDs K mu H ds r := by
  rw [RDs] at h; exact h
theorem RDs.cases_nil {xs : List V} (h : RDs K mu H [] xs) : xs = [] := by rw [RDs] at h; exact h
theorem RDs.length : ∀ {ds : List D} {xs : List V}, RDs K mu H ds xs → ds.length = xs.length
  | [], xs, h => by rw [RDs.cases_nil h]; rfl
  | d :: ds, xs, h => by
    obtain ⟨x, r, rfl, _, t⟩ := h.cases_cons
    simp [RDs.length t]
theorem RDs.get : ∀ {ds : List D} {xs : List V} {i : Nat} {d : D}, RDs K mu H ds xs → ds[i]? = some d → ∃ x, xs[i]? = some x ∧ RD K mu H d x
  | [], xs, i, d, h, e => by simp at e
  | d :: ds, xs, 0, d', h, e => by
    obtain ⟨x, r, rfl, hx, t⟩ := h.cases_cons
    simp at e; subst e; exact ⟨x, rfl, hx⟩
  | d :: ds, xs, i + 1, d', h, e => by
    obtain ⟨x, r, rfl, hx, t⟩ := h.cases_cons
    obtain ⟨y, h1, h2⟩ := RDs.get (i := i) t (by simpa using e)
    exact ⟨y, by simpa using h1, h2⟩
theorem RDs.set : ∀ {ds : List D} {xs : List V} (i : Nat) {d : D} {x : V}, RDs K mu H ds xs → RD K mu H d x → RDs K mu H (ds.set i d) (xs.set i x)
  | [], xs, i, d, x, h, hd => by rw [RDs.cases_nil h]; exact RDs.nil
  | d :: ds, xs, 0, d', y, h, hd => by
    obtain ⟨x, r, rfl, hx, t⟩ := h.cases_cons
    exact RDs.cons hd t
  | d :: ds, xs, i + 1, d', y, h, hd => by
    obtain ⟨x, r, rfl, hx, t⟩ := h.cases_cons
    exact RDs.cons hx (RDs.set i t hd)
theorem RDs.append : ∀ {ds es : List D} {xs ys : List V}, RDs K mu H ds xs → RDs K mu H es ys → RDs K mu H (ds ++ es) (xs ++ ys)
  | [], es, xs, ys, h, h2 => by rw [RDs.cases_nil h]; exact h2
  | d :: ds, es, xs, ys, h, h2 => by
    obtain ⟨x, r, rfl, hx, t⟩ := h.cases_cons
    exact RDs.cons hx (RDs.append t h2)
theorem RDs.take : ∀ {ds : List D} {xs : List V} (n : Nat), RDs K mu H ds xs → RDs K mu H (ds.take n) (xs.take n)
  | _, _, 0, _ => by simp; exact RDs.nil
  | [], xs, n + 1, h => by rw [RDs.cases_nil h]; exact RDs.nil
  | d :: ds, xs, n + 1, h => by
    obtain ⟨x, r, rfl, hx, t⟩ := h.cases_cons
    exact RDs.cons hx (RDs.take n t)
theorem RDs.drop : ∀ {ds : List D} {xs : List V} (n : Nat), RDs K mu H ds xs → RDs K mu H (ds.drop n) (xs.drop n)
  | _, _, 0, h => by simpa using h
  | [], xs, n + 1, h => by rw [RDs.cases_nil h]; exact RDs.nil
  | d :: ds, xs, n + 1, h => by
    obtain ⟨x, r, rfl, hx, t⟩ := h.cases_cons
    exact RDs.drop n t
theorem RO.mono (e : Ext mu H mu' H') {a : Addr} {o : Ob} (hk : H' a = H a) (h : RO K mu H a o) : RO K mu' H' a o := by
  cases o with
  | lst ds =>
    obtain ⟨xs, h1, h2⟩ := h
    exact ⟨xs, by rw [hk]; exact h1, RDs.mono e _ _ h2⟩
  | dk kvs =>
    obtain ⟨xs, h1, h0, h2⟩ := h
    exact ⟨xs, by rw [hk]; exact h1, h0, RDs.mono e _ _ h2⟩
  | dt kvs =>
    obtain ⟨xs, h1, h0, h2⟩ := h
    exact ⟨xs, by rw [hk]; exact h1, h0, RDs.mono e _ _ h2⟩
theorem RO.some {a : Addr} {o : Ob} (h : RO K mu H a o) : H a ≠ none := by
  cases o with
  | lst ds => obtain ⟨xs, h1, _⟩ := h; rw [h1]; simp
  | dk ds => obtain ⟨xs, h1, _⟩ := h; rw [h1]; simp
  | dt ds => obtain ⟨xs, h1, _⟩ := h; rw [h1]; simp
theorem WR.get {S : Sto} (w : WR K mu H S) {n : Nat} {o : Ob} (h : S[n]? = Option.some o) : ∃ a, mu[n]? = Option.some a ∧ RO K mu H a o := w.ob n o h
theorem WR.fresh {S : Sto} (w : WR K mu H S) {p : Addr} (h : H p = none) : p ∉ mu := fun hm => by
  obtain ⟨n, hn, e⟩ := List.mem_iff_getElem.mp hm
  obtain ⟨o, ho⟩ : ∃ o, S[n]? = Option.some o := ⟨S[n]'(by rw [← w.len]; exact hn), by simp⟩
  obtain ⟨a, h1, h2⟩ := w.ob n o ho
  have : a = p := by rw [List.getElem?_eq_getElem hn] at h1; rw [← e]; exact (Option.some.inj h1).symm
  subst this
  exact h2.some h
theorem Ext.new {S : Sto} (w : WR K mu H S) {p : Addr} {o : HO} (h : H p = none) : Ext mu H mu (upd H p o) :=
  ⟨⟨[], by simp⟩, fun a u e n => ⟨by rw [upd_ne (ne_of_none e h)]; exact e, n⟩⟩
theorem WR.keep {S : Sto} (w : WR K mu H S) {p : Addr} {o : HO} (h : H p = none) : WR K mu (upd H p o) S :=
  ⟨w.len, w.nd, fun n u e => by
    obtain ⟨a, h1, h2⟩ := w.ob n u e
    refine ⟨a, h1, h2.mono (Ext.new w h) ?_⟩
    rw [upd_ne]
    intro e; subst e; exact h2.some h⟩
theorem Ext.alloc {S : Sto} (w : WR K mu H S) {p : Addr} {o : HO} (h : H p = none) : Ext mu H (mu ++ [p]) (upd H p o) :=
  ⟨⟨[p], rfl⟩, fun a u e n => ⟨by rw [upd_ne (ne_of_none e h)]; exact e, by
    intro hm
    rcases List.mem_append.mp hm with hm | hm
    · exact n hm
    · have : a = p := by simpa using hm
      exact ne_of_none e h this⟩⟩
theorem WR.allocO {S : Sto} (w : WR K mu H S) {p : Addr} {u0 : Ob} {o : HO} (h : H p = none) (hd : RO K (mu ++ [p]) (upd H p o) p u0) : WR K (mu ++ [p]) (upd H p o) (S ++ [u0]) := by
  have ex : Ext mu H (mu ++ [p]) (upd H p o) := Ext.alloc w h
  refine ⟨by simp [w.len], ?_, fun n u e => ?_⟩
  · rw [List.nodup_append]
    refine ⟨w.nd, by simp, fun a ha b hb => ?_⟩
    have : b = p := by simpa using hb
    subst this
    intro e; subst e
    exact w.fresh h ha
  · by_cases hn : n < S.length
    · rw [List.getElem?_append_left hn] at e
      obtain ⟨a, h1, h2⟩ := w.ob n u e
      refine ⟨a, ex.get h1, h2.mono ex ?_⟩
      rw [upd_ne]
      intro e; subst e; exact h2.some h
    · have hn' : n = S.length := by
        have := (List.getElem?_eq_some_iff.mp e).1
        simp at this; omega
      subst hn'
      have : u = u0 := by simpa using e.symm
      subst this
      exact ⟨p, by rw [← w.len]; simp, hd⟩
theorem WR.alloc {S : Sto} (w : WR K mu H S) {p : Addr} {ds : List D} {xs : List V} (h : H p = none) (hd : RDs K mu H ds xs) : WR K (mu ++ [p]) (upd H p (.lst xs)) (S ++ [.lst ds]) :=
  w.allocO h ⟨xs, upd_same, RDs.mono (Ext.alloc w h) _ _ hd⟩
theorem WR.same {S : Sto} (w : WR K mu H S) {i j : Nat} {a : Addr} (h1 : mu[i]? = Option.some a) (h2 : mu[j]? = Option.some a) : i = j := by
  exact (List.getElem?_inj (List.getElem?_eq_some_iff.mp h1).1 w.nd).mp (h1.trans h2.symm)
theorem Ext.write {S : Sto} (w : WR K mu H S) {n : Nat} {a : Addr} {o : HO} (h : mu[n]? = Option.some a) : Ext mu H mu (upd H a o) :=
  ⟨⟨[], by simp⟩, fun b u e hn => ⟨by
    rw [upd_ne]; exact e
    intro z; subst z
    exact hn (List.mem_of_getElem? h), hn⟩⟩
theorem WR.writeO {S : Sto} (w : WR K mu H S) {n : Nat} {a : Addr} {u0 : Ob} {o : HO} (h : mu[n]? = Option.some a) (hd : RO K mu (upd H a o) a u0) : WR K mu (upd H a o) (S.set n u0) := by
  have ex : Ext mu H mu (upd H a o) := Ext.write w h
  refine ⟨by simp [w.len], w.nd, fun i u e => ?_⟩
  by_cases hi : n = i
  · subst hi
    have hl : n < S.length := by
      have := (List.getElem?_eq_some_iff.mp e).1
      simpa using this
    rw [List.getElem?_set_self hl] at e
    cases e
    exact ⟨a, h, hd⟩
  · rw [List.getElem?_set_ne hi] at e
    obtain ⟨b, h1, h2⟩ := w.ob i u e
    refine ⟨b, h1, h2.mono ex ?_⟩
    rw [upd_ne]
    intro z; subst z
    exact hi (w.same h h1)
theorem WR.write {S : Sto} (w : WR K mu H S) {n : Nat} {a : Addr} {ds : List D} {xs : List V} (h : mu[n]? = Option.some a) (hd : RDs K mu H ds xs) : WR K mu (upd H a (.lst xs)) (S.set n (.lst ds)) :=
  w.writeO h ⟨xs, upd_same, RDs.mono (Ext.write w h) _ _ hd⟩
theorem ER.mono {env : En} {σ : St} (r : ER K mu H env σ) (e : Ext mu H mu' H') : ER K mu' H' env σ :=
  ⟨r.len, fun i d h => by
    obtain ⟨v, h1, h2⟩ := r.get i d h
    exact ⟨v, h1, RD.mono e _ _ h2⟩⟩
theorem ER.set {env : En} {σ : St} (r : ER K mu H env σ) (i : Nat) {d : D} {v : V} (h : RD K mu H d v) : ER K mu H (env.set i (some d)) (σ.set i (some v)) :=
  ⟨by simp [r.len], fun j d' e => by
    by_cases hi : i = j
    · subst hi
      have hl : i < env.length := by
        have := (List.getElem?_eq_some_iff.mp e).1
        simpa using this
      rw [List.getElem?_set_self hl] at e
      cases e
      exact ⟨v, by rw [List.getElem?_set_self (by rw [← r.len]; exact hl)], h⟩
    · rw [List.getElem?_set_ne hi] at e
      obtain ⟨w, h1, h2⟩ := r.get j d' e
      exact ⟨w, by rw [List.getElem?_set_ne hi]; exact h1, h2⟩⟩
end
end PF
namespace PF
open PySem PySem.Spec PyProof.Rows L2
inductive Bi where
  | len | abs | min | max | int | tuple | all | any | divmod | bool | str
  deriving DecidableEq
inductive Bl where
  | list | sorted
  deriving DecidableEq
inductive Mt where
  | append | extend | pop | index
  deriving DecidableEq
mutual
inductive Ex where
  | var (i : Nat) | non | bl (b : Bool) | int (i : Int) | str (x : Str)
  | bin (op : Operator) (a b : Ex) | neg (a : Ex) | not (a : Ex) | and (a b : Ex) | or (a b : Ex) | ite (c a b : Ex)
  | cmp (op : CmpOp) (a b : Ex) | cmp2 (op op' : CmpOp) (a b c : Ex) | isN (a : Ex) | notN (a : Ex) | isi (a : Ex) (ty : Str)
  | sub (a i : Ex) | slc (a : Ex) (lo hi : Ox) | tup (es : Exs) | lv (l : Lx) | lr (l : Lx)
  | call (f : Str) (es : Exs) | blt (f : Bi) (es : Exs) | gl (x : Str) | mth (o : Ex) (m : Mt) (es : Exs) | slen (a : Ex)
  | dnew | dlit (k v : Int) | isB (a : Ex) (b : Bool) | notB (a : Ex) (b : Bool) | rev (a : Ex) | dof (a : Ex) | isiT (a : Ex) (t u : Str) | dinT (es : Exs) (o : Ex)
  | strp (a : Ex) | dget (o : Ex) (es : Exs) (f : Ex) | dofT (own : Nat) (caps : List Nat) (t : Tg) (it : Itx) (a : Ex) (h : Int) (v : Ex)
/-- what makes a new list -/
inductive Lx where
  | dsp (es : Exs) | bin (op : Operator) (a b : Ex) | blt (f : Bl) (es : Exs) | dvals (a : Ex) | lrng (a : Ex) | lrng2 (a b : Ex) | comp (own : Nat) (caps : List Nat) (t : Tg) (it : Itx) (ifs : Exs) (elt : Ex)
  | wrds (a : Ex) | prts (a b : Ex) | lins (a : Ex) | comp2 (own : Nat) (caps : List Nat) (t : Tg) (it : Itx) (t2 : Tg) (it2 : Itx) (elt : Ex)
inductive Exs where
  | nil | cons (e : Ex) (es : Exs)
inductive Ox where
  | no | yes (e : Ex)
inductive Tg where
  | name (i : Nat) | tup (ts : Tgs) | sub (o i : Ex) | subT (o : Ex) (es : Exs)
inductive Tgs where
  | nil | cons (t : Tg) (ts : Tgs)
inductive Itx where
  | seq (e : Ex) | rng1 (a : Ex) | rng2 (a b : Ex) | enm (e : Ex) | zip (a b : Ex) | dkeys (a : Ex)
end
mutual
inductive Sm where
  | asg (t : Tg) (e : Ex) | par (i j : Nat) (a b : Ex) | par3 (i j k : Nat) (a b c : Ex) | aug (i : Nat) (op : Operator) (e : Ex) | ex (e : Ex) | ret (e : Ex) | retN | ifs (c : Ex) (a b : Sms) | fr (t : Tg) (it : Itx) (b : Sms)
  | whl (c : Ex) (b : Sms) | pass | brk | cnt | bad
inductive Sms where
  | nil | cons (s : Sm) (ss : Sms)
end
noncomputable def vals : D → Option (List D)
  | .lst ds => some ds
  | .tup ds => some ds
  | _ => none
noncomputable abbrev line : Nat := 16777216
noncomputable def bigJ : Int := 2 ^ 4000
def MulOk (i j : Int) : Prop := (-(2 ^ 64) < i ∧ i < 2 ^ 64) ∨ (-(2 ^ 64) < j ∧ j < 2 ^ 64) ∨ (i.natAbs < 2 ^ 100000 ∧ j.natAbs < 2 ^ 100000)
noncomputable instance (i j : Int) : Decidable (MulOk i j) := by unfold MulOk; infer_instance
noncomputable def items (S : Sto) : D → Option (List D)
  | .tup ds => some ds
  | .lst ds => some ds
  | .ref n => match S[n]? with
    | some (.lst ds) => some ds
    | _ => none
  | _ => none
noncomputable def lsOf (S : Sto) : D → Option (List D)
  | .lst ds => some ds
  | .ref n => items S (.ref n)
  | _ => none
def PowOk (i j : Int) : Prop := 0 ≤ j ∧ ((j ≤ 1000000 ∧ i.natAbs < 2 ^ 64) ∨ (j ≤ 100000 ∧ i.natAbs < 2 ^ 1000))
noncomputable instance (i j : Int) : Decidable (PowOk i j) := by unfold PowOk; infer_instance
noncomputable def augI : Operator → Int → Int → Option Int
  | .Add, i, j => some (i + j)
  | .Sub, i, j => some (i - j)
  | .Mult, i, j => if (-(2 ^ 64) < i ∧ i < 2 ^ 64) ∨ (-(2 ^ 64) < j ∧ j < 2 ^ 64) then some (i * j) else none
  | .FloorDiv, i, j => if 0 < j ∧ j < 1073741824 then some (i / j) else none
  | .Mod, i, j => if 0 < j then some (i % j) else none
  | _, _, _ => none
noncomputable def binopL (S : Sto) : Operator → D → D → Option (List D)
  | .Add, a, b => (lsOf S a).bind fun xs => (lsOf S b).bind fun ys => if xs.length + ys.length ≤ line then some (xs ++ ys) else none
  | .Mult, a, .int k => (lsOf S a).bind fun xs => if k < 2 ^ 62 ∧ -(2 ^ 62) < k ∧ xs.length * k.toNat ≤ line then some (List.replicate k.toNat xs).flatten else none
  | _, _, _ => none
noncomputable def intop : Operator → Int → Int → Option D
  | .Add, i, j => some (.int (i + j))
  | .Sub, i, j => some (.int (i - j))
  | .Mult, i, j => if MulOk i j then some (.int (i * j)) else none
  | .LShift, i, j => if 0 ≤ j ∧ j ≤ 1000000 ∧ i.natAbs < 2 ^ 64 then some (.int (i * 2 ^ j.toNat)) else none
  | .RShift, i, j => if 0 ≤ j then some (.int (i / 2 ^ j.toNat)) else none
  | .BitAnd, i, j => some (.int (Builtin.bitAnd i j))
  | .FloorDiv, i, j => if 0 < j ∧ j < bigJ then some (.int (i / j)) else none
  | .Mod, i, j => if 0 < j then some (.int (i % j)) else none
  | .Pow, i, j => if PowOk i j then some (.int (i ^ j.toNat)) else none
  | _, _, _ => none
noncomputable def strop : Operator → Str → Str → Option D
  | .Add, x, y => if x.length + y.length ≤ line then some (.str (x ++ y)) else none
  | _, _, _ => none
noncomputable def tupop : Operator → List D → List D → Option D
  | .Add, xs, ys => if xs.length + ys.length ≤ line then some (.tup (xs ++ ys)) else none
  | _, _, _ => none
noncomputable def binop (S : Sto) (op : Operator) (a b : D) : Option D := match a with
  | .int i => (match b with
    | .int j => intop op i j
    | _ => none)
  | .str x => (match b with
    | .str y => strop op x y
    | _ => none)
  | .tup xs => (match b with
    | .tup ys => tupop op xs ys
    | _ => none)
  | .lst xs => (binopL S op (.lst xs) b).map .lst
  | .ref n => (binopL S op (.ref n) b).map .lst
  | _ => none
noncomputable def isLs : D → Bool
  | .lst _ => true
  | .ref _ => true
  | _ => false
noncomputable def isLs2 (S : Sto) (d : D) : Bool := (lsOf S d).isSome
noncomputable def truth (S : Sto) : D → Option Bool
  | .non => some false
  | .bl b => some b
  | .int i => some (i != 0)
  | .str x => if x.length ≤ line then some ((x.length : Int) != 0) else none
  | d => (items S d).map fun ds => !ds.isEmpty
noncomputable def scalD : D → D → Bool
  | .non, .non => true | .non, .int _ => true | .int _, .non => true | .non, .bl _ => true | .bl _, .non => true | .non, .str _ => true | .str _, .non => true
  | .int _, .int _ => true | .bl _, .bl _ => true | .str _, .str _ => true
  | .int _, .str _ => true | .str _, .int _ => true | .bl _, .str _ => true | .str _, .bl _ => true
  | _, _ => false
mutual
noncomputable def toP : D → PyData
  | .non => .none
  | .bl b => .bool b
  | .int i => .int i
  | .str x => .str x
  | .tup ds => .tuple (toPs ds)
  | .lst ds => .list (toPs ds)
  | .ref _ => .none
noncomputable def toPs : List D → List PyData
  | [] => []
  | d :: ds => toP d :: toPs ds
end
mutual
/-- no changing object in it -/
noncomputable def pureD : D → Bool
  | .tup ds => pureDs ds
  | .lst ds => pureDs ds
  | .ref _ => false
  | _ => true
noncomputable def pureDs : List D → Bool
  | [] => true
  | d :: ds => pureD d && pureDs ds
end
noncomputable def okD (d : D) : Bool := pureD d && (toP d).canLay0 && decide ((toP d).depth ≤ 100)
mutual
/-- no changing object any more: what it is now -/
noncomputable def fixD (S : Sto) : Nat → D → Option D
  | 0, _ => none
  | n + 1, .tup ds => (fixDs S n ds).map .tup
  | n + 1, .lst ds => (fixDs S n ds).map .lst
  | n + 1, .ref m => (items S (.ref m)).bind fun ds => (fixDs S n ds).map .lst
  | _ + 1, d => some d
noncomputable def fixDs (S : Sto) : Nat → List D → Option (List D)
  | 0, _ => none
  | _ + 1, [] => some []
  | n + 1, d :: ds => (fixD S n d).bind fun x => (fixDs S n ds).map fun xs => x :: xs
end
noncomputable def eqD (S : Sto) (a b : D) : Option Bool :=
  if scalD a b then some (decide (a = b)) else if okD a && okD b then some (PyData.eqv (toP a) (toP b)) else
    (fixD S 1000 a).bind fun a' => (fixD S 1000 b).bind fun b' => if okD a' && okD b' then some (PyData.eqv (toP a') (toP b')) else none
noncomputable def flatD : D → Bool
  | .non => true
  | .bl _ => true
  | .int _ => true
  | .str _ => true
  | _ => false
noncomputable def eqF : D → D → Bool
  | .non, .non => true
  | .bl a, .bl b => a == b
  | .bl a, .int b => (if a then 1 else 0) == b
  | .int a, .bl b => a == (if b then 1 else 0)
  | .int a, .int b => a == b
  | .str a, .str b => a == b
  | _, _ => false
noncomputable def inD (S : Sto) (x y : D) : Option Bool := (items S y).bind fun ys => if flatD x && ys.all flatD then some (ys.any fun z => eqF z x) else none
noncomputable def strsD : List D → Option (List Str)
  | [] => some []
  | .str x :: r => (strsD r).map (x :: ·)
  | _ :: _ => none
noncomputable def sgn (z : Str) : List Str := z.cps.toList.map fun c => ⟨#[c]⟩
noncomputable def ordC (f : Int → Int → Bool) (g : Str → Str → Bool) (a b : D) : Option Bool := match a with
  | .int i => (match b with
    | .int j => some (f i j)
    | _ => none)
  | .str x => (match b with
    | .str y => some (g x y)
    | _ => none)
  | _ => none
noncomputable def ltC (a b : D) : Option Bool := match a with
  | .tup xs => (match b with
    | .tup ys => (strsD xs).bind fun l => (strsD ys).map fun m => TS.lexB l m
    | _ => none)
  | .int i => (match b with
    | .int j => some (decide (i < j))
    | _ => none)
  | .str x => (match b with
    | .str y => some (TS.sLt x y)
    | _ => none)
  | _ => none
noncomputable def cmpop (S : Sto) (op : CmpOp) (a b : D) : Option Bool := match op with
  | .Lt => ltC a b
  | .LtE => ordC (fun i j => decide (i ≤ j)) (fun x y => !TS.sLt y x) a b
  | .Gt => ordC (fun i j => decide (j < i)) (fun x y => TS.sLt y x) a b
  | .GtE => ordC (fun i j => decide (j ≤ i)) (fun x y => !TS.sLt x y) a b
  | .Eq => eqD S a b
  | .NotEq => (eqD S a b).map not
  | .In => inD S a b
  | .NotIn => (inD S a b).map not
  | _ => none
noncomputable def tyD (S : Sto) : D → Option String
  | .non => some "NoneType"
  | .bl _ => some "bool"
  | .int _ => some "int"
  | .str _ => some "str"
  | .tup _ => some "tuple"
  | .lst _ => some "list"
  | .ref n => match S[n]? with
    | some (.lst _) => some "list"
    | some (.dk _) => some "dict"
    | some (.dt _) => some "dict"
    | none => none
noncomputable def isiTys : List (Str × String) := [("int", "int"), ("bool", "bool"), ("str", "str"), ("tuple", "tuple"), ("list", "list")]
noncomputable def isiD (S : Sto) (d : D) (ty : Str) : Option Bool := (isiTys.lookup ty).bind fun u => (tyD S d).map fun t => decide (t = u) || (decide (t = "bool") && decide (u = "int"))
noncomputable def subD (S : Sto) (d i : D) : Option D :=
  match i with
  | .int k => (match d with
    | .str z => if z.length ≤ line then (L2.atI z.cps.toList k).map fun c => .str ⟨#[c]⟩ else none
    | .tup ds => L2.atI ds k
    | .lst ds => L2.atI ds k
    | _ => (items S d).bind fun ds => L2.atI ds k)
  | _ => none
noncomputable def cutD (ds : List D) (lo hi : Option Int) : List D := (ds.drop (HT.sIx ds.length 0 lo)).take (HT.sIx ds.length ds.length hi - HT.sIx ds.length 0 lo)
noncomputable def sliceD (S : Sto) (d : D) (lo hi : Option Int) : Option D :=
  match d with
  | .lst ds => some (.lst (cutD ds lo hi))
  | .ref n => (items S (.ref n)).map fun ds => .lst (cutD ds lo hi)
  | .tup ds => if HT.sIx ds.length 0 lo = 0 ∧ HT.sIx ds.length ds.length hi = ds.length then some (.tup ds) else some (.tup (cutD ds lo hi))
  | _ => none
noncomputable def intsD : List D → Option (List Int)
  | [] => some []
  | .int i :: ds => (intsD ds).map (i :: ·)
  | _ :: _ => none
noncomputable def biOf : List (Str × Bi) := [("len", .len), ("abs", .abs), ("min", .min), ("max", .max), ("int", .int), ("tuple", .tuple), ("all", .all), ("any", .any), ("divmod", .divmod), ("bool", .bool), ("str", .str)]
noncomputable def boolsD : List D → Option (List Bool)
  | [] => some []
  | .bl b :: ds => (boolsD ds).map (b :: ·)
  | _ :: _ => none
noncomputable def leastI (i : Int) (r : List Int) : Int := r.foldl (fun a b => if b < a then b else a) i
noncomputable def bi1 (S : Sto) (b : Bi) (d : D) : Option D := match b with
  | .len => (match d with
    | .str x => if x.length ≤ line then some (.int x.length) else none
    | .ref n => (match S[n]? with
      | some (.lst ds) => some (.int ds.length)
      | some (.dt kvs) => some (.int kvs.length)
      | _ => none)
    | d => (items S d).map fun es => .int es.length)
  | .abs => (match d with
    | .int i => some (.int (if i < 0 then -i else i))
    | _ => none)
  | .int => (match d with
    | .int i => some (.int i)
    | .bl b => some (.int (if b then 1 else 0))
    | _ => none)
  | .tuple => (match d with
    | .tup ds => some (.tup ds)
    | d => (lsOf S d).map .tup)
  | .all => (lsOf S d).bind fun ds => (boolsD ds).map fun bs => .bl (bs.all id)
  | .any => (lsOf S d).bind fun ds => (boolsD ds).map fun bs => .bl (bs.any id)
  | .min => (lsOf S d).bind fun ds => (intsD ds).bind fun is => match is with
    | [] => none
    | i :: r => some (.int (leastI i r))
  | .bool => (match d with
    | .int i => some (.bl (i != 0))
    | .bl b => some (.bl b)
    | _ => none)
  | .str => (match d with
    | .int i => if i.natAbs < 2 ^ 1900 then some (.str (toString i)) else none
    | _ => none)
  | _ => none
noncomputable def bi2 (b : Bi) (i j : Int) : Option D := match b with
  | .min => some (.int (if j < i then j else i))
  | .max => some (.int (if j > i then j else i))
  | .divmod => if 0 < j ∧ j < 1073741824 then some (.tup [.int (i / j), .int (i % j)]) else none
  | _ => none
noncomputable def bltD (S : Sto) (b : Bi) (ds : List D) : Option D := match ds with
  | [d] => bi1 S b d
  | [d0, d1] => (match d0 with
    | .int i => (match d1 with
      | .int j => bi2 b i j
      | _ => none)
    | _ => none)
  | _ => none
noncomputable def insI (x : Int) : List Int → List Int
  | [] => [x]
  | y :: r => if x ≤ y then x :: y :: r else y :: insI x r
noncomputable def isort : List Int → List Int
  | [] => []
  | x :: r => insI x (isort r)
noncomputable def idxI : List Int → Int → Option Nat
  | [], _ => none
  | x :: r, i => if x = i then some 0 else (idxI r i).map (· + 1)
noncomputable def rowsD : List D → Option (List (List Str))
  | [] => some []
  | .tup ds :: r => (strsD ds).bind fun l => if l.isEmpty then none else (rowsD r).map (l :: ·)
  | _ :: _ => none
noncomputable def insR (x : List Str) : List (List Str) → List (List Str)
  | [] => [x]
  | y :: r => if TS.lexB y x then y :: insR x r else x :: y :: r
noncomputable def sortR : List (List Str) → List (List Str)
  | [] => []
  | x :: r => insR x (sortR r)
noncomputable def rowD (l : List Str) : D := .tup (l.map .str)
noncomputable def blOf : List (Str × Bl) := [("list", .list), ("sorted", .sorted)]
noncomputable def bltL (S : Sto) : Bl → List D → Option (List D)
  | .list, [d] => items S d
  | .sorted, [d] => (lsOf S d).bind fun ds => match intsD ds with
    | some is => if is.length < 64 then some ((isort is).map .int) else none
    | none => (rowsD ds).bind fun ls => if ls.length < 128 then some ((sortR ls).map rowD) else none
  | _, _ => none
noncomputable def mtOf : List (Str × Mt) := [("append", .append), ("extend", .extend), ("pop", .pop), ("index", .index)]
noncomputable def mthD (S : Sto) : Mt → D → List D → Option (D × Sto)
  | .append, .ref n, [d] => (items S (.ref n)).bind fun ds => if ds.length < line then some (.non, S.set n (.lst (ds ++ [d]))) else none
  | .extend, .ref n, [x] => (items S (.ref n)).bind fun ds => (items S x).bind fun es => if ds.length + es.length ≤ line ∧ x ≠ .ref n then some (.non, S.set n (.lst (ds ++ es))) else none
  | .pop, .ref n, [] => (items S (.ref n)).bind fun ds => match ds[ds.length - 1]? with
    | some d => some (d, S.set n (.lst ds.dropLast))
    | none => none
  | .pop, .ref n, [.int i] => if i = 0 then (items S (.ref n)).bind fun ds => match ds with
    | d :: r => some (d, S.set n (.lst r))
    | [] => none else none
  | .index, d, [.int i] => (lsOf S d).bind fun ds => (intsD ds).bind fun is => (idxI is i).map fun (j : Nat) => (D.int (j : Int), S)
  | _, _, _ => none
noncomputable def keyD : D → Option Key
  | .int i => some (.inl i)
  | .str x => some (.inr x)
  | _ => none
noncomputable def unkey : Key → D
  | .inl i => .int i
  | .inr x => .str x
noncomputable def putD {κ : Type} [DecidableEq κ] (kvs : List (κ × D)) (k : κ) (v : D) : List (κ × D) :=
  if (kvs.any fun kv => decide (kv.1 = k)) = true then kvs.map (fun kv => if kv.1 = k then (kv.1, v) else kv) else kvs ++ [(k, v)]
noncomputable def mergeD (kvs more : List (Key × D)) : List (Key × D) := more.foldl (fun acc kv => putD acc kv.1 kv.2) kvs
noncomputable def valD {κ : Type} [DecidableEq κ] (kvs : List (κ × D)) (k : κ) : Option D := (kvs.find? fun kv => decide (kv.1 = k)).map (·.2)
noncomputable def mergeG {κ : Type} [DecidableEq κ] (kvs more : List (κ × D)) : List (κ × D) := more.foldl (fun acc kv => putD acc kv.1 kv.2) kvs
noncomputable def keysT : List D → Option (List Key)
  | [] => some []
  | d :: r => (keyD d).bind fun k => (keysT r).map fun l => k :: l
noncomputable def dtOf (S : Sto) : D → Option (List (List Key × D))
  | .ref n => match S[n]? with
    | some (.dt kvs) => some kvs
    | _ => none
  | _ => none
noncomputable def pairK : D → Option (Key × D)
  | .tup [k, v] => (keyD k).map fun k' => (k', v)
  | _ => none
noncomputable def pairsK : List D → Option (List (Key × D))
  | [] => some []
  | d :: r => (pairK d).bind fun p => (pairsK r).map fun l => p :: l
noncomputable def dkOf (S : Sto) : D → Option (List (Key × D))
  | .ref n => match S[n]? with
    | some (.dk kvs) => some kvs
    | _ => none
  | _ => none
noncomputable def notStarE : Expr → Bool
  | .Starred .. => false
  | _ => true
noncomputable def setLen (is : List Int) : Nat := (PyProof.Rows.firstMet (fun i => is.getD i 0) is.length).length
noncomputable def setArg : List Expr → Option Expr
  | [.Call (.Name g _) [a] [] _] => if decide (g = "set") && notStarE a then some a else none
  | _ => none
noncomputable def lineOk (p q : Pos) : Bool := p.endLine == q.line
noncomputable def baseOk : Expr → Bool
  | .Call (.Name _ _) _ _ _ => false
  | _ => true
structure Cl where
  fn : Str → List D → Sto → Option (D × Sto)
  gl : Str → Option D
inductive Sr where
  | vs (ds : List D) | rf (n : Nat)
noncomputable def Sr.nx (r : Sr) (i : Nat) (S : Sto) : Option (Option D) := match r with
  | .vs ds => some ds[i]?
  | .rf n => (items S (.ref n)).map fun ds => ds[i]?
noncomputable def Sr.fuel : Sr → Nat
  | .vs ds => ds.length + 1
  | .rf _ => line + 2
noncomputable def compL (r : Sr) (step : D → En → Sto → Option (Option D × En × Sto)) : Nat → Nat → En → Sto → List D → Option (List D × Sto)
  | 0, _, _, _, _ => none
  | m + 1, i, e, S, acc => (r.nx i S).bind fun o => match o with
    | none => some (acc, S)
    | some d => (step d e S).bind fun r' => match r'.1 with
      | some x => if acc.length < line then compL r step m (i + 1) r'.2.1 r'.2.2 (acc ++ [x]) else none
      | none => compL r step m (i + 1) r'.2.1 r'.2.2 acc
noncomputable def compG {α : Type} (r : Sr) (step : D → En → Sto → List α → Option (List α × En × Sto)) : Nat → Nat → En → Sto → List α → Option (List α × En × Sto)
  | 0, _, _, _, _ => none
  | m + 1, i, e, S, acc => (r.nx i S).bind fun o => match o with
    | none => some (acc, e, S)
    | some d => (step d e S acc).bind fun q => compG r step m (i + 1) q.2.1 q.2.2 q.1
noncomputable def emit1 {α : Type} (f : En → Sto → Option (α × Sto)) : En → Sto → List α → Option (List α × En × Sto) := fun e S acc => (f e S).bind fun x => if acc.length < line then some (acc ++ [x.1], e, x.2) else none
noncomputable def emit2 {α : Type} (fI : En → Sto → Option (Sr × Sto)) (step : D → En → Sto → List α → Option (List α × En × Sto)) : En → Sto → List α → Option (List α × En × Sto) := fun e S acc => (fI e S).bind fun r => compG r.1 step r.1.fuel 0 e r.2 acc
noncomputable def stepG {α : Type} (fG : D → En → Sto → Option (En × Sto)) (fE : En → Sto → List α → Option (List α × En × Sto)) : D → En → Sto → List α → Option (List α × En × Sto) := fun d e S acc => (fG d e S).bind fun q => fE q.1 q.2 acc
noncomputable def pairT (h : Int) (fa : En → Sto → Option (D × Sto)) (fv : En → Sto → Option (D × Sto)) : En → Sto → Option ((List Key × D) × Sto) := fun e S => (fa e S).bind fun x => match x.1 with
  | .tup ds => if 0 ≤ h ∧ h < ds.length then (keysT (ds.take h.toNat)).bind fun k => (fv e x.2).map fun y => ((k, y.1), y.2) else none
  | _ => none
noncomputable def compEn (own : Nat) (caps : List Nat) (env : En) : En := List.replicate own none ++ caps.map fun i => (env[i]?).join
noncomputable def stepC (fG : D → En → Sto → Option (En × Sto)) (fT : En → Sto → Option (Bool × Sto)) (fE : En → Sto → Option (D × Sto)) : D → En → Sto → Option (Option D × En × Sto) :=
  fun d e S => (fG d e S).bind fun q => (fT q.1 q.2).bind fun b => if b.1 then (fE q.1 b.2).map fun x => (some x.1, q.1, x.2) else some (none, q.1, b.2)
mutual
noncomputable def ev (c : Cl) : Ex → En → Sto → Option (D × Sto)
  | .var i, env, S => match env[i]? with
    | some (some d) => some (d, S)
    | _ => none
  | .non, _, S => some (.non, S)
  | .bl b, _, S => some (.bl b, S)
  | .int i, _, S => some (.int i, S)
  | .str x, _, S => some (.str x, S)
  | .bin op a b, env, S => (ev c a env S).bind fun r => (ev c b env r.2).bind fun q => (binop q.2 op r.1 q.1).map fun d => (d, q.2)
  | .neg a, env, S => (ev c a env S).bind fun r => match r.1 with
    | .int i => some (.int (-i), r.2)
    | _ => none
  | .not a, env, S => (ev c a env S).bind fun r => (truth r.2 r.1).map fun b => (.bl (!b), r.2)
  | .and a b, env, S => (ev c a env S).bind fun r => (truth r.2 r.1).bind fun t => if t then ev c b env r.2 else some r
  | .or a b, env, S => (ev c a env S).bind fun r => (truth r.2 r.1).bind fun t => if t then some r else ev c b env r.2
  | .ite x a b, env, S => (ev c x env S).bind fun r => (truth r.2 r.1).bind fun t => if t then ev c a env r.2 else ev c b env r.2
  | .cmp op a b, env, S => (ev c a env S).bind fun r => (ev c b env r.2).bind fun q => (cmpop q.2 op r.1 q.1).map fun d => (.bl d, q.2)
  | .cmp2 op op' a b e, env, S => (ev c a env S).bind fun r => (ev c b env r.2).bind fun q => (cmpop q.2 op r.1 q.1).bind fun t =>
    if t then (ev c e env q.2).bind fun p => (cmpop p.2 op' q.1 p.1).map fun d => (.bl d, p.2) else some (.bl false, q.2)
  | .isN a, env, S => (ev c a env S).map fun r => (.bl (decide (r.1 = .non)), r.2)
  | .notN a, env, S => (ev c a env S).map fun r => (.bl (!decide (r.1 = .non)), r.2)
  | .isi a ty, env, S => (ev c a env S).bind fun r => (isiD r.2 r.1 ty).map fun b => (.bl b, r.2)
  | .sub a i, env, S => (ev c a env S).bind fun r => (ev c i env r.2).bind fun q => (subD q.2 r.1 q.1).map fun d => (d, q.2)
  | .slc a lo hi, env, S => (ev c a env S).bind fun r => (evO c lo env r.2).bind fun l => (evO c hi env l.2).bind fun h => (sliceD h.2 r.1 l.1 h.1).map fun d => (d, h.2)
  | .slen a, env, S => (ev c a env S).bind fun r => (lsOf r.2 r.1).bind fun ds => (intsD ds).bind fun is => if is.length < 4000 then some (.int (setLen is), r.2) else none
  | .tup es, env, S => (evs c es env S).bind fun r => if r.1.length ≤ line then some (.tup r.1, r.2) else none
  | .lv l, env, S => (evL c l env S).map fun r => (.lst r.1, r.2)
  | .lr l, env, S => (evL c l env S).map fun r => (.ref r.2.length, r.2 ++ [.lst r.1])
  | .call f es, env, S => (evs c es env S).bind fun r => c.fn f r.1 r.2
  | .blt f es, env, S => (evs c es env S).bind fun r => (bltD r.2 f r.1).map fun d => (d, r.2)
  | .gl x, _, S => (c.gl x).map fun d => (d, S)
  | .dnew, _, S => some (.ref S.length, S ++ [.dt []])
  | .dlit k v, _, S => some (.ref S.length, S ++ [.dk [(.inl k, .int v)]])
  | .isB a b, env, S => (ev c a env S).bind fun r => match r.1 with
    | .bl x => some (.bl (x == b), r.2)
    | _ => none
  | .notB a b, env, S => (ev c a env S).bind fun r => match r.1 with
    | .bl x => some (.bl (!(x == b)), r.2)
    | _ => none
  | .rev a, env, S => (ev c a env S).bind fun r => match r.1 with
    | .tup ds => some (.tup ds.reverse, r.2)
    | _ => none
  | .isiT a t u, env, S => (ev c a env S).bind fun r => (isiD r.2 r.1 t).bind fun b1 => (isiD r.2 r.1 u).map fun b2 => (.bl (b1 || b2), r.2)
  | .dinT es o, env, S => (evs c es env S).bind fun r => if r.1.length ≤ line then (ev c o env r.2).bind fun q => (dtOf q.2 q.1).bind fun kvs => (keysT r.1).map fun k => (.bl (kvs.any fun kv => decide (kv.1 = k)), q.2) else none
  | .dof a, env, S => (ev c a env S).bind fun r => (lsOf r.2 r.1).bind fun ds => (pairsK ds).map fun kvs => (.ref r.2.length, r.2 ++ [.dk (mergeD [] kvs)])
  | .strp a, env, S => (ev c a env S).bind fun r => match r.1 with
    | .str z => if (stripOf z).length ≤ line then some (.str (stripOf z), r.2) else none
    | _ => none
  | .dget o es f, env, S => (ev c o env S).bind fun q => (dtOf q.2 q.1).bind fun _ => (evs c es env q.2).bind fun r => if r.1.length ≤ line then (ev c f env r.2).bind fun z => (dtOf z.2 q.1).bind fun kvs => (keysT r.1).map fun ks => ((valD kvs ks).getD z.1, z.2) else none
  | .dofT own caps t it a h v, env, S => (evI c it env S).bind fun r => (compG r.1 (stepG (fun d e S => asg c t d e S) (emit1 (pairT h (fun e S => ev c a e S) (fun e S => ev c v e S)))) r.1.fuel 0 (compEn own caps env) r.2 []).map fun q => (.ref q.2.2.length, q.2.2 ++ [.dt (mergeG [] q.1)])
  | .mth o m es, env, S => (ev c o env S).bind fun r => if isLs2 r.2 r.1 then (evs c es env r.2).bind fun q => mthD q.2 m r.1 q.1 else none
noncomputable def evL (c : Cl) : Lx → En → Sto → Option (List D × Sto)
  | .dsp es, env, S => (evs c es env S).bind fun r => if r.1.length ≤ line then some r else none
  | .bin op a b, env, S => (ev c a env S).bind fun r => (ev c b env r.2).bind fun q => (binopL q.2 op r.1 q.1).map fun d => (d, q.2)
  | .blt f es, env, S => (evs c es env S).bind fun r => (bltL r.2 f r.1).map fun d => (d, r.2)
  | .lrng a, env, S => (ev c a env S).bind fun r => match r.1 with
    | .int j => if -(2 ^ 62) ≤ j ∧ j ≤ 1000000 then some ((List.range j.toNat).map fun (k : Nat) => D.int (0 + (k : Int)), r.2) else none
    | _ => none
  | .lrng2 a b, env, S => (ev c a env S).bind fun r => (ev c b env r.2).bind fun q => match r.1, q.1 with
    | .int i, .int j => if -(2 ^ 62) ≤ i ∧ i < 2 ^ 62 ∧ -(2 ^ 62) ≤ j ∧ j < 2 ^ 62 ∧ j - i ≤ 1000000 then some ((List.range (j - i).toNat).map fun (k : Nat) => D.int (i + (k : Int)), q.2) else none
    | _, _ => none
  | .dvals a, env, S => (ev c a env S).bind fun r => (dkOf r.2 r.1).map fun kvs => (kvs.map (·.2), r.2)
  | .comp own caps t it ifs elt, env, S => (evI c it env S).bind fun r => compL r.1 (stepC (fun d e S => asg c t d e S) (fun e S => evTs c ifs e S) (fun e S => ev c elt e S)) r.1.fuel 0 (compEn own caps env) r.2 []
  | .wrds a, env, S => (ev c a env S).bind fun r => match r.1 with
    | .str z => if z.length ≤ line ∧ (wordsOf z).length ≤ line then some ((wordsOf z).map .str, r.2) else none
    | _ => none
  | .lins a, env, S => (ev c a env S).bind fun r => match r.1 with
    | .str z => if z.length ≤ line ∧ (linesOf z).length ≤ line then some ((linesOf z).map .str, r.2) else none
    | _ => none
  | .prts a b, env, S => (ev c a env S).bind fun r => match r.1 with
    | .str z => (ev c b env r.2).bind fun q => match q.1 with
      | .str y => if splitOk z y = true ∧ z.length ≤ line ∧ (partsOf z y).length ≤ line then some ((partsOf z y).map .str, q.2) else none
      | _ => none
    | _ => none
  | .comp2 own caps t it t2 it2 elt, env, S => (evI c it env S).bind fun r => (compG r.1 (stepG (fun d e S => asg c t d e S) (emit2 (fun e S => evI c it2 e S) (stepG (fun d e S => asg c t2 d e S) (emit1 (fun e S => ev c elt e S))))) r.1.fuel 0 (compEn own caps env) r.2 []).map fun q => (q.1, q.2.2)
noncomputable def evs (c : Cl) : Exs → En → Sto → Option (List D × Sto)
  | .nil, _, S => some ([], S)
  | .cons e es, env, S => (ev c e env S).bind fun r => (evs c es env r.2).map fun q => (r.1 :: q.1, q.2)
noncomputable def evO (c : Cl) : Ox → En → Sto → Option (Option Int × Sto)
  | .no, _, S => some (none, S)
  | .yes e, env, S => (ev c e env S).bind fun r => match r.1 with
    | .int i => some (some i, r.2)
    | _ => none
noncomputable def evTs (c : Cl) : Exs → En → Sto → Option (Bool × Sto)
  | .nil, _, S => some (true, S)
  | .cons e es, env, S => (ev c e env S).bind fun r => (truth r.2 r.1).bind fun t => if t then evTs c es env r.2 else some (false, r.2)
noncomputable def asg (c : Cl) : Tg → D → En → Sto → Option (En × Sto)
  | .name i, d, env, S => some (env.set i (some d), S)
  | .tup ts, d, env, S => match d with
    | .tup ds => asgs c ts ds env S
    | .lst ds => asgs c ts ds env S
    | _ => none
  | .sub o i, d, env, S => (ev c o env S).bind fun r => (ev c i env r.2).bind fun q => match r.1, q.1 with
    | .ref n, .int k => (match q.2[n]? with
      | some (.lst ds) => (L2.ixN ds.length k).map fun j => (env, q.2.set n (.lst (ds.set j d)))
      | some (.dk kvs) => if kvs.length < line then some (env, q.2.set n (.dk (putD kvs (.inl k) d))) else none
      | _ => none)
    | _, _ => none
  | .subT o es, d, env, S => (ev c o env S).bind fun r => (evs c es env r.2).bind fun q => if q.1.length ≤ line then (match r.1 with
    | .ref n => (match q.2[n]? with
      | some (.dt kvs) => (keysT q.1).bind fun k => if kvs.length < line then some (env, q.2.set n (.dt (putD kvs k d))) else none
      | _ => none)
    | _ => none) else none
noncomputable def asgs (c : Cl) : Tgs → List D → En → Sto → Option (En × Sto)
  | .nil, [], env, S => some (env, S)
  | .cons t ts, d :: ds, env, S => (asg c t d env S).bind fun r => asgs c ts ds r.1 r.2
  | _, _, _, _ => none
noncomputable def evI (c : Cl) : Itx → En → Sto → Option (Sr × Sto)
  | .seq e, env, S => (ev c e env S).bind fun r => match r.1 with
    | .tup ds => some (.vs ds, r.2)
    | .lst ds => some (.vs ds, r.2)
    | .str z => some (.vs ((sgn z).map D.str), r.2)
    | .ref n => (items r.2 (.ref n)).map fun _ => (.rf n, r.2)
    | _ => none
  | .rng1 a, env, S => (ev c a env S).bind fun r => match r.1 with
    | .int j => if -(2 ^ 62) ≤ j ∧ j < 2 ^ 62 then some (.vs ((List.range j.toNat).map fun (k : Nat) => D.int (0 + (k : Int))), r.2) else none
    | _ => none
  | .rng2 a b, env, S => (ev c a env S).bind fun r => (ev c b env r.2).bind fun q => match r.1, q.1 with
    | .int i, .int j => if -(2 ^ 62) ≤ i ∧ i < 2 ^ 62 ∧ -(2 ^ 62) ≤ j ∧ j < 2 ^ 62 then some (.vs ((List.range (j - i).toNat).map fun (k : Nat) => D.int (i + (k : Int))), q.2) else none
    | _, _ => none
  | .enm e, env, S => (ev c e env S).bind fun r => match vals r.1 with
    | some ds => some (.vs (ds.mapIdx fun k d => D.tup [.int (k : Int), d]), r.2)
    | none => none
  | .zip a b, env, S => (ev c a env S).bind fun r => (ev c b env r.2).bind fun q => match vals r.1, vals q.1 with
    | some xs, some ys => some (.vs (List.zipWith (fun x y => D.tup [x, y]) xs ys), q.2)
    | _, _ => none
  | .dkeys a, env, S => (ev c a env S).bind fun r => (lsOf r.2 r.1).bind fun ds => (pairsK ds).map fun kvs => (.vs ((mergeD [] kvs).map fun kv => unkey kv.1), r.2)
end
noncomputable def evT (c : Cl) (x : Ex) (env : En) (S : Sto) : Option (Bool × Sto) := (ev c x env S).bind fun r => (truth r.2 r.1).map fun b => (b, r.2)
inductive Fl where
  | nx (env : En) (S : Sto) | rt (d : D) (S : Sto) | bk (env : En) (S : Sto) | ct (env : En) (S : Sto)
noncomputable def forL (r : Sr) (step : D → En → Sto → Option Fl) : Nat → Nat → En → Sto → Option Fl
  | 0, _, _, _ => none
  | m + 1, i, env, S => (r.nx i S).bind fun o => match o with
    | none => some (.nx env S)
    | some d => match step d env S with
      | some (.nx e1 S1) => forL r step m (i + 1) e1 S1
      | some (.ct e1 S1) => forL r step m (i + 1) e1 S1
      | some (.bk e1 S1) => some (.nx e1 S1)
      | some (.rt d S1) => some (.rt d S1)
      | none => none
noncomputable def whileL (test : En → Sto → Option (Bool × Sto)) (body : En → Sto → Option Fl) : Nat → En → Sto → Option Fl
  | 0, _, _ => none
  | n + 1, env, S => (test env S).bind fun r => if r.1 then (match body env r.2 with
    | some (.nx e1 S1) => whileL test body n e1 S1
    | some (.ct e1 S1) => whileL test body n e1 S1
    | some (.bk e1 S1) => some (.nx e1 S1)
    | some (.rt d S1) => some (.rt d S1)
    | none => none) else some (.nx env r.2)
mutual
noncomputable def evS (c : Cl) (W : Nat) : Sm → En → Sto → Option Fl
  | .asg t e, env, S => (ev c e env S).bind fun r => (asg c t r.1 env r.2).map fun q => .nx q.1 q.2
  | .par i j a b, env, S => (ev c a env S).bind fun r => (ev c b env r.2).map fun q => .nx ((env.set i (some r.1)).set j (some q.1)) q.2
  | .par3 i j l a b e, env, S => (ev c a env S).bind fun r => (ev c b env r.2).bind fun q => (ev c e env q.2).map fun p => .nx (((env.set i (some r.1)).set j (some q.1)).set l (some p.1)) p.2
  | .aug i op e, env, S => (match env[i]? with
    | some (some (.int x)) => (ev c e env S).bind fun r => (match r.1 with
      | .int y => (augI op x y).map fun d => .nx (env.set i (some (.int d))) r.2
      | _ => none)
    | _ => none)
  | .ex e, env, S => (ev c e env S).map fun r => .nx env r.2
  | .ret e, env, S => (ev c e env S).map fun r => .rt r.1 r.2
  | .retN, env, S => some (.rt .non S)
  | .ifs x a b, env, S => (evT c x env S).bind fun r => if r.1 then evSs c W a env r.2 else evSs c W b env r.2
  | .fr t it b, env, S => (evI c it env S).bind fun r => forL r.1 (fun d e1 S1 => (asg c t d e1 S1).bind fun q => evSs c W b q.1 q.2) r.1.fuel 0 env r.2
  | .whl x b, env, S => whileL (evT c x) (evSs c W b) W env S
  | .pass, env, S => some (.nx env S)
  | .brk, env, S => some (.bk env S)
  | .cnt, env, S => some (.ct env S)
  | .bad, _, _ => none
noncomputable def evSs (c : Cl) (W : Nat) : Sms → En → Sto → Option Fl
  | .nil, env, S => some (.nx env S)
  | .cons s ss, env, S => (evS c W s env S).bind fun r => match r with
    | .nx e1 S1 => evSs c W ss e1 S1
    | r => some r
end
structure FI where
  ps : Nat
  nn : Nat
  body : Sms
structure Tab where
  fns : List (Str × FI)
  gls : List (Str × D)
noncomputable def Tab.lookup (T : Tab) (f : Str) : Option FI := T.fns.lookup f
noncomputable def fin : Fl → Option (D × Sto)
  | .rt d S => some (d, S)
  | .nx _ S => some (.non, S)
  | _ => none
noncomputable def startE (n : Nat) (ds : List D) : En := ds.map some ++ List.replicate (n - ds.length) none
noncomputable def callN (T : Tab) (W : Nat) : Nat → Cl
  | 0 => ⟨fun _ _ _ => none, fun x => T.gls.lookup x⟩
  | k + 1 => ⟨fun f ds S => (T.lookup f).bind fun fi => if ds.length = fi.ps then (evSs (callN T W k) W fi.body (startE fi.nn ds) S).bind fin else none, fun x => T.gls.lookup x⟩
noncomputable def nameOk (x : Str) : Bool := !(decide (x = "__debug__") || decide (x = "__classdict__") || decide (x = "__name__"))
noncomputable def blts : List Str := ["len", "abs", "min", "max", "int", "bool", "str", "tuple", "list", "isinstance", "range", "enumerate", "zip", "all", "any", "divmod", "sorted", "set", "dict", "reversed", "sum"]
noncomputable def slot (x : Str) : List Str → Option Nat
  | [] => none
  | y :: r => if y = x then some 0 else (slot x r).map (· + 1)
theorem slot_get {x : Str} : ∀ {N : List Str} {i : Nat}, slot x N = some i → N[i]? = some x
  | [], i, h => by cases h
  | y :: r, i, h => by
    rw [slot] at h
    split at h
    · rename_i e
      cases h; simp [e]
    · obtain ⟨j, h1, rfl⟩ := Option.map_eq_some_iff.mp h
      simpa using slot_get h1
noncomputable def notStar : Expr → Bool
  | .Starred .. => false
  | _ => true
noncomputable def plainIx : Expr → Bool
  | .Slice .. => false
  | _ => true
noncomputable def locOk (nm : List (Str × NameKind)) (x : Str) : Bool := decide (nm.lookup x = some .local) || decide (nm.lookup x = some .cell)
noncomputable def isTup : Expr → Bool
  | .Tuple .. => true
  | _ => false
noncomputable def ownN (scope : Scope) : List Str := (scope.names.filter fun p => decide (p.2 = .local)).map (·.1)
noncomputable def freeN (scope : Scope) : List Str := (scope.names.filter fun p => decide (p.2 = .free)).map (·.1)
noncomputable def compN (scope : Scope) : List Str := ownN scope ++ freeN scope
noncomputable def compOk (N : List Str) (nm : List (Str × NameKind)) (scope : Scope) : Bool :=
  decide (scope.kind = .function) && scope.names.all (fun p => decide (p.2 ≠ .cell) && decide (scope.names.lookup p.1 = some p.2)) && decide (compN scope).Nodup &&
    (freeN scope).all (fun y => (decide (nm.lookup y = some .cell) || decide (nm.lookup y = some .free)) && (slot y N).isSome)
noncomputable def asL (b : Bool) (l : Lx) : Ex := if b then .lr l else .lv l
noncomputable def isOp (op : CmpOp) : Bool := decide (op = .Is) || decide (op = .IsNot)
end PF
namespace PF
open PySem PySem.Spec PyProof.Rows L2
noncomputable def tE (K : Frag) (f : En → Sto → Option (D × Sto)) : TE := fun σ H Q => ∃ mu env S, ER K mu H env σ ∧ WR K mu H S ∧ ∃ d S', f env S = some (d, S') ∧
  ∀ v mu' H', Ext mu H mu' H' → WR K mu' H' S' → RD K mu' H' d v → Q v H'
noncomputable def tT (K : Frag) (f : En → Sto → Option (Bool × Sto)) : TT := fun σ H Q => ∃ mu env S, ER K mu H env σ ∧ WR K mu H S ∧ ∃ b S', f env S = some (b, S') ∧
  ∀ mu' H', Ext mu H mu' H' → WR K mu' H' S' → Q b H'
noncomputable def tA (K : Frag) (f : En → Sto → Option (List D × Sto)) : TA := fun σ H Q => ∃ mu env S, ER K mu H env σ ∧ WR K mu H S ∧ ∃ ds S', f env S = some (ds, S') ∧
  ∀ vs mu' H', Ext mu H mu' H' → WR K mu' H' S' → RDs K mu' H' ds vs → Q vs H'
noncomputable def tO (K : Frag) (f : En → Sto → Option (Option Int × Sto)) : TO := fun σ H Q => ∃ mu env S, ER K mu H env σ ∧ WR K mu H S ∧ ∃ o S', f env S = some (o, S') ∧
  ∀ mu' H', Ext mu H mu' H' → WR K mu' H' S' → Q o H'
noncomputable def tN (K : Frag) (f : En → Sto → Option (List D × Sto)) : TE := fun σ H Q => ∃ mu env S, ER K mu H env σ ∧ WR K mu H S ∧ ∃ ds S', f env S = some (ds, S') ∧
  ∀ vs p mu' H', Ext mu H mu' H' → WR K mu' H' S' → H' p = none → RDs K mu' H' ds vs → Q (.ref p) (upd H' p (.lst vs))
noncomputable def spOf (K : Frag) (T : Tab) (W k : Nat) (f : Str) : Sp := fun vs H Q _ => ∃ mu S ds, WR K mu H S ∧ RDs K mu H ds vs ∧ (∃ fi, T.lookup f = some fi ∧ ds.length = fi.ps) ∧ ∃ d S', (callN T W k).fn f ds S = some (d, S') ∧
  ∀ v mu' H', Ext mu H mu' H' → WR K mu' H' S' → RD K mu' H' d v → Q v H'
structure XOk (X : Cx) (T : Tab) (W k : Nat) (nm : List (Str × NameKind)) : Prop where
  calm : X.calm = true
  room : Room k X.A
  nd : X.N.Nodup
  po : PassesOwn (model X.prog X.w) X.A X.env X.xe
  kv : ∀ x, (nm.lookup x = some .local ∨ nm.lookup x = some .cell ∨ nm.lookup x = some .free) → Vis X.env.scope x
  kw : ∀ x, locOk nm x = true → Loc X.env.scope x ∧ (X.fn x = true ∨ X.env.scope.names.lookup x = some .local)
  kg : ∀ x, nm.lookup x = some .globalImplicit → X.env.scope.names.lookup x = some .globalImplicit
  kl : ∀ x, nm.lookup x = some .local → X.env.scope.names.lookup x = some .local
  kc : ∀ x, (nm.lookup x = some .cell ∨ nm.lookup x = some .free) → X.env.kindOf x = some .cell
  bl : ∀ f ∈ blts, X.mg f = none
  fs : ∀ f fi, T.lookup f = some fi → ∃ (fa : Addr) (fd : FuncData) (ps : List Str), ps.length = fi.ps ∧ X.mg f = some (.ref fa) ∧ PySem.W.keepIn X.K (.ref fa) = true ∧ Binds X.K fd ps [] ∧
    FnOk X.prog X.w X.K X.mg X.base CX0 k fa fd ps (spOf X.K T W k f)
  gs : ∀ x d, T.gls.lookup x = some d → ∃ u v, X.mg x = some u ∧ RelV v u ∧ ∀ mu H, RD X.K mu H d v
section
variable {X : Cx} {pins : List (Addr × Obj)} {σ : St} {H : Hp} {s : Shared} {mu : List Addr} {S : Sto}
theorem RD.tup_at {K : Frag} {ds : List D} {v : V} (h : RD K mu H (.tup ds) v) : ∃ a xs, v = .ref a ∧ SqT K H a xs ∧ RDs K mu H ds xs := by
  rw [RD] at h
  obtain ⟨a, xs, e, h, r⟩ := h
  refine ⟨a, xs, e, ?_, r⟩
  rcases h with ⟨_, h⟩ | h
  · exact .inl h
  · exact .inr h
theorem RD.lst_at {K : Frag} {ds : List D} {v : V} (h : RD K mu H (.lst ds) v) : ∃ a xs, v = .ref a ∧ SqL K H a xs ∧ RDs K mu H ds xs := by
  rw [RD] at h
  obtain ⟨a, xs, e, h, r⟩ := h
  refine ⟨a, xs, e, ?_, r⟩
  rcases h with ⟨_, h⟩ | h
  · exact .inl h
  · exact .inr h
theorem items_at {K : Frag} {d : D} {ds : List D} {v : V} (w : WR K mu H S) (h : items S d = some ds) (r : RD K mu H d v) : ∃ a xs, v = .ref a ∧ (SqL K H a xs ∨ SqT K H a xs) ∧ RDs K mu H ds xs := by
  cases d with
  | tup es =>
    cases h
    obtain ⟨a, xs, e, h, r⟩ := r.tup_at
    exact ⟨a, xs, e, .inr h, r⟩
  | lst es =>
    cases h
    obtain ⟨a, xs, e, h, r⟩ := r.lst_at
    exact ⟨a, xs, e, .inl h, r⟩
  | ref n =>
    rw [items] at h
    rw [RD] at r
    obtain ⟨a, e, rfl⟩ := r
    cases q : S[n]? with
    | none => rw [q] at h; cases h
    | some o =>
      rw [q] at h
      cases o with
      | dk es => cases h
      | dt es => cases h
      | lst es =>
        cases h
        obtain ⟨b, e1, xs, e2, r⟩ := w.get q
        rw [e] at e1; cases e1
        exact ⟨a, xs, rfl, .inl (SqL.of e2), r⟩
  | _ => cases h
theorem int_at {K : Frag} {i : Int} {v : V} (r : RD K mu H (.int i) v) : v = .int i := by rw [RD] at r; exact r
theorem bl_at {K : Frag} {i : Bool} {v : V} (r : RD K mu H (.bl i) v) : v = .bl i := by rw [RD] at r; exact r
theorem str_at {K : Frag} {i : Str} {v : V} (r : RD K mu H (.str i) v) : v = .str i := by rw [RD] at r; exact r
theorem non_at {K : Frag} {v : V} (r : RD K mu H .non v) : v = .non := by rw [RD] at r; exact r
theorem rd_int {K : Frag} {i : Int} : RD K mu H (.int i) (.int i) := by rw [RD]
theorem rd_bl {K : Frag} {i : Bool} : RD K mu H (.bl i) (.bl i) := by rw [RD]
theorem rd_str {K : Frag} {i : Str} : RD K mu H (.str i) (.str i) := by rw [RD]
theorem rd_non {K : Frag} : RD K mu H .non .non := by rw [RD]
theorem line_eq : sizeLine = line := sizeLine_eq
theorem intBits_le {k : Int} {n : Nat} (h : k.natAbs < 2 ^ n) : Builtin.Int.intBits k ≤ n := by
  unfold Builtin.Int.intBits
  split
  · exact Nat.zero_le _
  · rename_i hk
    have h0 : k.natAbs ≠ 0 := by
      intro e
      have : k = 0 := Int.natAbs_eq_zero.mp e
      exact hk (by simpa using this)
    have : k.natAbs.log2 < n := (Nat.log2_lt h0).mpr h
    omega
theorem MulOk.ok {i j : Int} (h : MulOk i j) : IntMulOk i j := by
  rcases h with ⟨h1, h2⟩ | ⟨h1, h2⟩ | ⟨h1, h2⟩
  · exact .of_left (intBits_le_64 h1 h2)
  · exact .of_right (intBits_le_64 h1 h2)
  · have a := intBits_le h1
    have b := intBits_le h2
    exact .of_bits (Nat.le_trans a (by decide)) (Nat.le_trans b (by decide))
def OpS (X : Cx) (f : Value → Value → Sem Value) (g : Sto → D → D → Option D) : Prop :=
  ∀ (pins : List (Addr × Obj)) (s : Shared) (σ : St) (H : Hp) (mu : List Addr) (S : Sto) (x y : V) (v u : Value) (da db d : D) (Q : VK), Inv X pins σ H s → WR X.K mu H S → RelV x v → RelV y u → RD X.K mu H da x → RD X.K mu H db y → g S da db = some d →
    (∀ v' mu' H', Ext mu H mu' H' → WR X.K mu' H' S → RD X.K mu' H' d v' → Q v' H') → wpAny (model X.prog X.w) X.A (f v u) (EP X pins σ Q) X.xe s
theorem op_fdivB : OpR X (binaryOp .FloorDiv) (rI (fun _ j => 0 < j ∧ j < bigJ) fun i j => .int (i / j)) := opI fun i j _ _ _ _ _ hc q => by
  have h1 : (0 : Int) < j := hc.1
  have h2 : j < bigJ := hc.2
  refine floordiv_int (by omega) (by rw [Int.fdiv_eq_ediv_of_nonneg i (by omega)]; exact q) (.inl (PyProof.noPylong_of_log2 ?_))
  have h0 : j.natAbs ≠ 0 := by omega
  suffices z : j.natAbs < 2 ^ 4000 from Nat.lt_of_lt_of_le ((Nat.log2_lt h0).mpr z) (by decide)
  have h3 : ((j.natAbs : Nat) : Int) < ((2 ^ 4000 : Nat) : Int) := by
    have e : ((j.natAbs : Nat) : Int) = j := by omega
    rw [e]
    have e2 : ((2 ^ 4000 : Nat) : Int) = bigJ := by rfl
    rw [e2]; exact h2
  exact Int.ofNat_lt.mp h3
theorem lsOf_at {K : Frag} {d : D} {ds : List D} {v : V} (w : WR K mu H S) (h : lsOf S d = some ds) (r : RD K mu H d v) : ∃ a xs, v = .ref a ∧ SqL K H a xs ∧ RDs K mu H ds xs := by
  cases d with
  | lst es =>
    cases h
    obtain ⟨a, xs, e, h, r⟩ := r.lst_at
    exact ⟨a, xs, e, h, r⟩
  | ref n =>
    replace h : items S (.ref n) = some ds := h
    rw [items] at h
    rw [RD] at r
    obtain ⟨a, e, rfl⟩ := r
    cases q : S[n]? with
    | none => rw [q] at h; cases h
    | some o =>
      rw [q] at h
      cases o with
      | dk es => cases h
      | dt es => cases h
      | lst es =>
        cases h
        obtain ⟨b, e1, xs, e2, r⟩ := w.get q
        rw [e] at e1; cases e1
        exact ⟨a, xs, rfl, SqL.of e2, r⟩
  | _ => cases h
theorem RDs.rep {K : Frag} {ds : List D} {xs : List V} (h : RDs K mu H ds xs) : ∀ k : Nat, RDs K mu H (List.replicate k ds).flatten (List.replicate k xs).flatten
  | 0 => by simp; exact .nil
  | k + 1 => by
    rw [List.replicate_succ, List.replicate_succ, List.flatten_cons, List.flatten_cons]
    exact h.append (RDs.rep h k)
def OpN (X : Cx) (f : Value → Value → Sem Value) (g : Sto → D → D → Option (List D)) : Prop :=
  ∀ (pins : List (Addr × Obj)) (s : Shared) (σ : St) (H : Hp) (mu : List Addr) (S : Sto) (x y : V) (v u : Value) (da db : D) (ds : List D) (Q : VK), Inv X pins σ H s → WR X.K mu H S → RelV x v → RelV y u → RD X.K mu H da x → RD X.K mu H db y → g S da db = some ds →
    (∀ vs p, H p = none → RDs X.K mu H ds vs → Q (.ref p) (upd H p (.lst vs))) → wpAny (model X.prog X.w) X.A (f v u) (EP X pins σ Q) X.xe s
theorem cat_list {l b : Addr} {xs ys : List V} {Q : VK} (I : Inv X pins σ H s) (hl : SqL X.K H l xs) (hb : SqL X.K H b ys) (hz : xs.length + ys.length ≤ sizeLine) (q : ∀ p, H p = none → Q (.ref p) (upd H p (.lst (xs ++ ys)))) :
    wpAny (model X.prog X.w) X.A (binaryOp .Add (.ref l) (.ref b)) (EP X pins σ Q) X.xe s := by
  obtain ⟨i1, r1, ⟨⟨c1, d1, t1, s1⟩, n1, e1, a1, _, b1⟩, _⟩ := I.list hl
  obtain ⟨i2, r2, ⟨⟨c2, d2, t2, s2⟩, n2, e2, a2, _, b2⟩, _⟩ := I.list hb
  cases a1; cases b1; cases a2; cases b2
  refine concat_meets ⟨_, e1, rfl⟩ ⟨_, e2, rfl⟩ noFill_list_add seq_list_add PySem.F.slot_list_add PySem.F.entry_list_add (PySem.F.args_list_add_2 _ _)
    (list_addW l b i1.toArray i2.toArray n1 n2 d1 d2 s1 s2 (by rw [List.size_toArray, List.size_toArray, ← r1.length, ← r2.length]; exact hz)) ⟨e1, e2, ?_⟩
  have ea : i1.toArray ++ i2.toArray = (i1 ++ i2).toArray := by simp
  rw [ea]
  exact ⟨.ref _, _, I.lnew (t' := s.toks) (r1.append r2) (by rw [List.length_append]; exact hz), rfl, q _ I.fresh⟩
theorem rep_list {l : Addr} {xs : List V} {k : Int} {t : Tok} {Q : VK} (I : Inv X pins σ H s) (hl : SqL X.K H l xs) (h1 : -(2 ^ 62) < k) (h2 : k < 2 ^ 62) (hz : xs.length * k.toNat ≤ sizeLine) (q : ∀ p, H p = none → Q (.ref p) (upd H p (.lst (List.replicate k.toNat xs).flatten))) :
    wpAny (model X.prog X.w) X.A (binaryOp .Mult (.ref l) (.int k t)) (EP X pins σ Q) X.xe s := by
  obtain ⟨i1, r1, ⟨⟨c1, d1, t1, s1⟩, n1, e1, a1, _, b1⟩, _⟩ := I.list hl
  cases a1; cases b1
  have hsz : i1.toArray.size * k.toNat ≤ sizeLine := by rw [List.size_toArray, ← r1.length]; exact hz
  have hsl : sizeLine = 16777216 := line_eq
  have hsz2 : i1.length * k.toNat ≤ sizeLine := by rw [← r1.length]; exact hz
  refine wpAny_binaryOp_repeat_ref (T := "list") (U := "int") (by decide) ⟨_, e1, rfl⟩ (fun s' => typeIs_int s' k t) noFill_list_mul PySem.F.fills_int_mul PySem.F.slot_int_rmul repeat_list PySem.F.slot_int_index.lookup
    (call_meets PySem.F.slot_int_rmul (typeIs_int s k t) PySem.F.entry_int_rmul (PySem.F.args_int_rmul_2 _ _) (lm_int_rmul_list_any k t l i1.toArray n1 d1 s1)
      ⟨e1, rfl, ⟨_, e1, rfl⟩, call_meets PySem.F.slot_list_mul ⟨_, e1, rfl⟩ PySem.F.entry_list_mul (PySem.F.args_list_mul_2 _ _)
        (lm_list_mul_any l i1.toArray n1 d1 s1 k t (by simp [Builtin.List.listFitsIndex]; omega) (by omega) (by simp [Builtin.List.listTooLong, sizeLine]; omega)) ⟨e1, ?_⟩⟩)
  rw [listMul_foldl_if]
  exact ⟨.ref _, _, I.lnew (t' := s.toks) (ys := (List.replicate k.toNat xs).flatten) (its := (List.replicate k.toNat i1).flatten) (by simpa using r1.rep k.toNat) (by rw [len_rep, Nat.mul_comm]; exact hz), rfl, q _ I.fresh⟩
theorem binopL_ok (op : Operator) : OpN X (binaryOp op) (fun S => binopL S op) := by
  intro pins s σ H mu S x y v u da db ds Q I w rx ry ra rb h k
  have hsl := line_eq
  cases op with
  | Add =>
    replace h : ((lsOf S da).bind fun xs => (lsOf S db).bind fun ys => if xs.length + ys.length ≤ line then some (xs ++ ys) else none) = some ds := h
    obtain ⟨xs, h1, h⟩ := Option.bind_eq_some_iff.mp h
    obtain ⟨ys, h2, h⟩ := Option.bind_eq_some_iff.mp h
    split at h
    · rename_i hz
      cases h
      obtain ⟨a, vs, rfl, q1, r1⟩ := lsOf_at w h1 ra
      obtain ⟨b, us, rfl, q2, r2⟩ := lsOf_at w h2 rb
      cases rx; cases ry
      exact cat_list I q1 q2 (by rw [hsl, ← r1.length, ← r2.length]; exact hz) fun p hp => k _ p hp (r1.append r2)
    · cases h
  | Mult =>
    cases db with
    | int j =>
      replace h : ((lsOf S da).bind fun xs => if j < 2 ^ 62 ∧ -(2 ^ 62) < j ∧ xs.length * j.toNat ≤ line then some (List.replicate j.toNat xs).flatten else none) = some ds := h
      obtain ⟨xs, h1, h⟩ := Option.bind_eq_some_iff.mp h
      split at h
      · rename_i hz
        cases h
        obtain ⟨a, vs, rfl, q1, r1⟩ := lsOf_at w h1 ra
        cases rx
        cases int_at rb
        obtain ⟨t, rfl⟩ := ry
        exact rep_list I q1 hz.2.1 hz.1 (by rw [hsl, ← r1.length]; exact hz.2.2) fun p hp => k _ p hp (r1.rep _)
      · cases h
    | _ => cases da <;> cases h
  | _ => cases h
theorem RDs.cases_of_nil {K : Frag} {ds : List D} (h : RDs K mu H ds []) : ds = [] := by
  have := h.length
  cases ds with
  | nil => rfl
  | cons _ _ => simp at this
theorem cat_tups {xs ys : List D} {x y : V} {v u : Value} {Q : VK} (I : Inv X pins σ H s) (w : WR X.K mu H S) (rx : RelV x v) (ry : RelV y u) (ra : RD X.K mu H (.tup xs) x) (rb : RD X.K mu H (.tup ys) y) (hz : xs.length + ys.length ≤ line)
    (k : ∀ v' mu' H', Ext mu H mu' H' → WR X.K mu' H' S → RD X.K mu' H' (.tup (xs ++ ys)) v' → Q v' H') : wpAny (model X.prog X.w) X.A (binaryOp .Add v u) (EP X pins σ Q) X.xe s := by
  obtain ⟨a, vs, rfl, q1, r1⟩ := ra.tup_at
  obtain ⟨b, us, rfl, q2, r2⟩ := rb.tup_at
  have hsl := line_eq
  by_cases hx : vs = []
  · subst hx
    cases r1.cases_of_nil
    cases rx; cases ry
    obtain ⟨i1, v1, ⟨⟨c1, d1, t1, s1⟩, e1, a1, n1, b1⟩, _⟩ := I.tuple q1
    obtain ⟨i2, v2, ⟨⟨c2, d2, t2, s2⟩, e2, a2, n2, b2⟩, _⟩ := I.tuple q2
    cases v1
    cases a1; cases b1; cases a2; cases b2
    exact concat_meets ⟨_, e1, rfl⟩ ⟨_, e2, rfl⟩ noFill_tuple_add seq_tuple_add PySem.F.slot_tuple_add PySem.F.entry_tuple_add (PySem.F.args_tuple_add_2 _ _)
      (tuple_addW0 a b _ _ n1 n2 d1 d2 s1 s2 (by simp)) ⟨e1, e2, ⟨.ref b, H, I, rfl, k _ mu H .refl w rb⟩⟩
  · refine op_catT pins s σ H _ _ v u Q I rx ry ⟨a, b, vs, us, rfl, rfl, q1, q2, hx, by rw [hsl, ← r1.length, ← r2.length]; exact hz, fun hy => ?_, fun hy p hp => ?_⟩
    · subst hy
      cases r2.cases_of_nil
      rw [List.append_nil] at k
      exact k _ mu H .refl w ra
    · refine k _ mu _ (Ext.new w hp) (w.keep hp) ?_
      rw [RD]
      exact ⟨p, _, rfl, .inl ⟨w.fresh hp, .inl upd_same⟩, RDs.mono (Ext.new w hp) _ _ (r1.append r2)⟩
theorem PowOk.ok {i j : Int} (h : PowOk i j) : 0 ≤ j ∧ (Builtin.Int.intBits i : Int) * j ≤ 2 ^ 27 := by
  obtain ⟨h0, ⟨h1, h2⟩ | ⟨h1, h2⟩⟩ := h
  · refine ⟨h0, ?_⟩
    have b := intBits_le h2
    have : (Builtin.Int.intBits i : Int) * j ≤ 64 * 1000000 := Int.mul_le_mul (by omega) h1 h0 (by decide)
    omega
  · refine ⟨h0, ?_⟩
    have b := intBits_le h2
    have : (Builtin.Int.intBits i : Int) * j ≤ 1000 * 100000 := Int.mul_le_mul (by omega) h1 h0 (by decide)
    omega
theorem binop_ok (op : Operator) : OpS X (binaryOp op) (fun S => binop S op) := by
  intro pins s σ H mu S x y v u da db d Q I w rx ry ra rb h k
  have lst : ∀ ds, binopL S op da db = some ds → d = .lst ds → wpAny (model X.prog X.w) X.A (binaryOp op v u) (EP X pins σ Q) X.xe s := fun ds hb e => by
    refine binopL_ok op pins s σ H mu S x y v u da db ds Q I w rx ry ra rb hb fun vs p hp rs => k _ mu _ (Ext.new w hp) (w.keep hp) ?_
    rw [e, RD]
    exact ⟨p, vs, rfl, .inl ⟨w.fresh hp, .inl upd_same⟩, RDs.mono (Ext.new w hp) _ _ rs⟩
  by_cases hl : isLs da = true
  · have h' : (binopL S op da db).map D.lst = some d := by
      cases da <;> first | (exact absurd hl Bool.false_ne_true) | exact h
    obtain ⟨ds, h1, h2⟩ := Option.map_eq_some_iff.mp h'
    exact lst ds h1 h2.symm
  cases da with
  | lst _ => exact absurd rfl hl
  | ref _ => exact absurd rfl hl
  | non => cases h
  | bl _ => cases h
  | tup xs =>
    cases db with
    | tup ys =>
      cases op with
      | Add =>
        replace h : (if xs.length + ys.length ≤ line then some (D.tup (xs ++ ys)) else none) = some d := h
        split at h
        · rename_i hz
          cases h
          exact cat_tups I w rx ry ra rb hz k
        · cases h
      | _ => cases h
    | _ => cases h
  | str i =>
    cases db with
    | str j =>
      cases op with
      | Add =>
        replace h : (if i.length + j.length ≤ line then some (D.str (i ++ j)) else none) = some d := h
        split at h
        · rename_i hz
          cases h; cases str_at ra; cases str_at rb
          exact op_add_str pins s σ H _ _ v u Q I rx ry ⟨i, j, rfl, rfl, by rw [line_eq]; exact hz, k _ mu H .refl w rd_str⟩
        · cases h
      | _ => cases h
    | _ => cases h
  | int i =>
    cases db with
    | int j =>
      cases int_at ra; cases int_at rb
      cases op with
      | Add => cases h; exact op_add pins s σ H _ _ v u Q I rx ry ⟨i, j, rfl, rfl, k _ mu H .refl w rd_int⟩
      | Sub => cases h; exact op_sub pins s σ H _ _ v u Q I rx ry ⟨i, j, rfl, rfl, k _ mu H .refl w rd_int⟩
      | BitAnd => cases h; exact op_and pins s σ H _ _ v u Q I rx ry ⟨i, j, rfl, rfl, k _ mu H .refl w rd_int⟩
      | Mult =>
        replace h : (if MulOk i j then some (D.int (i * j)) else none) = some d := h
        split at h
        · rename_i hz
          cases h
          obtain ⟨t, rfl⟩ := rx
          obtain ⟨t', rfl⟩ := ry
          exact mul_int ⟨.int _, H, I.tok _, ⟨_, rfl⟩, k _ mu H .refl w rd_int⟩ hz.ok
        · cases h
      | Mod =>
        replace h : (if 0 < j then some (D.int (i % j)) else none) = some d := h
        split at h
        · rename_i hz
          cases h
          exact op_mod pins s σ H _ _ v u Q I rx ry ⟨i, j, rfl, rfl, hz, k _ mu H .refl w rd_int⟩
        · cases h
      | Pow =>
        replace h : (if PowOk i j then some (D.int (i ^ j.toNat)) else none) = some d := h
        split at h
        · rename_i hz
          cases h
          obtain ⟨t, rfl⟩ := rx
          obtain ⟨t', rfl⟩ := ry
          exact PyProof.Rows.pow_int hz.ok.1 hz.ok.2 ⟨.int _, H, I.tok _, ⟨_, rfl⟩, k _ mu H .refl w rd_int⟩
        · cases h
      | LShift =>
        replace h : (if 0 ≤ j ∧ j ≤ 1000000 ∧ i.natAbs < 2 ^ 64 then some (D.int (i * 2 ^ j.toNat)) else none) = some d := h
        split at h
        · rename_i hz
          cases h
          exact op_shl pins s σ H _ _ v u Q I rx ry ⟨i, j, rfl, rfl, hz, k _ mu H .refl w rd_int⟩
        · cases h
      | RShift =>
        replace h : (if 0 ≤ j then some (D.int (i / 2 ^ j.toNat)) else none) = some d := h
        split at h
        · rename_i hz
          cases h
          exact op_shr pins s σ H _ _ v u Q I rx ry ⟨i, j, rfl, rfl, hz, k _ mu H .refl w rd_int⟩
        · cases h
      | FloorDiv =>
        replace h : (if 0 < j ∧ j < bigJ then some (D.int (i / j)) else none) = some d := h
        split at h
        · rename_i hz
          cases h
          exact op_fdivB pins s σ H _ _ v u Q I rx ry ⟨i, j, rfl, rfl, hz, k _ mu H .refl w rd_int⟩
        · cases h
      | _ => cases h
    | _ => cases h
theorem scal_at {K : Frag} {a b : D} {x y : V} (h : scalD a b = true) (ra : RD K mu H a x) (rb : RD K mu H b y) : scal x y = true ∧ decide (x = y) = decide (a = b) := by
  cases a <;> cases b <;> first
    | (exact absurd h (show ¬ (false = true) from Bool.false_ne_true))
    | (rw [RD] at ra; rw [RD] at rb; subst ra; subst rb; exact ⟨rfl, by simp⟩)
theorem op_cmpI {op : CmpOp} {p : Int → Int → Bool} (rule : ∀ (i j : Int) (t u : Tok) (Q : Value → Shared → Prop) (s : Shared), Q (.bool (p i j)) s → wpAny (model X.prog X.w) X.A (compareOp op (.int i t) (.int j u)) Q X.xe s)
    {i j : Int} {x y : V} {v u : Value} {Q : VK} (I : Inv X pins σ H s) (w : WR X.K mu H S) (rx : RelV x v) (ry : RelV y u) (ra : RD X.K mu H (.int i) x) (rb : RD X.K mu H (.int j) y) (k : Q (.bl (p i j)) H) :
    wpAny (model X.prog X.w) X.A (compareOp op v u) (EP X pins σ Q) X.xe s := by
  cases int_at ra; cases int_at rb
  obtain ⟨t, rfl⟩ := rx
  obtain ⟨t', rfl⟩ := ry
  exact rule i j t t' _ _ ⟨.bl _, H, I, rfl, k⟩
mutual
theorem reads_of (I : Inv X pins σ H s) : ∀ (d : D) (x : V) (u : Value), RD X.K mu H d x → RelV x u → pureD d = true → ∃ as, Reads s.heap u (toP d) as
  | .non, x, u, r, rx, _ => by
    cases non_at r; cases rx; exact ⟨_, .none⟩
  | .bl b, x, u, r, rx, _ => by
    cases bl_at r; cases rx; exact ⟨_, .bool b⟩
  | .int i, x, u, r, rx, _ => by
    cases int_at r; obtain ⟨t, rfl⟩ := rx; exact ⟨_, .int i t⟩
  | .str y, x, u, r, rx, _ => by
    cases str_at r; obtain ⟨t, rfl⟩ := rx; exact ⟨_, .str y t⟩
  | .tup ds, x, u, r, rx, hp => by
    obtain ⟨a, xs, rfl, hq, rs⟩ := r.tup_at
    cases rx
    obtain ⟨its, rv, ⟨o, h1, h2, n, h3⟩, _⟩ := I.tuple hq
    obtain ⟨as, ra⟩ := reads_ofs I ds xs its rs rv (by rw [pureD] at hp; exact hp)
    exact ⟨as, .tuple h1 h2 h3 (by simpa using ra)⟩
  | .lst ds, x, u, r, rx, hp => by
    obtain ⟨a, xs, rfl, hq, rs⟩ := r.lst_at
    cases rx
    obtain ⟨its, rv, ⟨o, n, h1, h2, _, h3⟩, _⟩ := I.list hq
    obtain ⟨as, ra⟩ := reads_ofs I ds xs its rs rv (by rw [pureD] at hp; exact hp)
    exact ⟨_, .list h1 h2 h3 (by simpa using ra)⟩
  | .ref n, x, u, r, rx, hp => by rw [pureD] at hp; cases hp
theorem reads_ofs (I : Inv X pins σ H s) : ∀ (ds : List D) (xs : List V) (us : List Value), RDs X.K mu H ds xs → Vals xs us → pureDs ds = true → ∃ as, ReadsAll s.heap us (toPs ds) as
  | [], xs, us, r, rv, _ => by
    cases r.cases_nil; cases rv; exact ⟨_, .nil⟩
  | d :: ds, xs, us, r, rv, hp => by
    obtain ⟨x, xr, rfl, rd, rs⟩ := r.cases_cons
    rw [pureDs, Bool.and_eq_true] at hp
    cases rv with
    | cons r1 r2 =>
      obtain ⟨as, h1⟩ := reads_of I d x _ rd r1 hp.1
      obtain ⟨bs, h2⟩ := reads_ofs I ds xr _ rs r2 hp.2
      exact ⟨_, .cons h1 h2⟩
end
theorem okD_at {d : D} (h : okD d = true) : pureD d = true ∧ (toP d).canLay0 = true ∧ (toP d).depth ≤ 100 := by
  unfold okD at h
  rw [Bool.and_eq_true, Bool.and_eq_true] at h
  exact ⟨h.1.1, h.1.2, of_decide_eq_true h.2⟩
mutual
theorem reads_fix (I : Inv X pins σ H s) (w : WR X.K mu H S) : ∀ (n : Nat) (d d' : D) (x : V) (u : Value), RD X.K mu H d x → RelV x u → fixD S n d = some d' → ∃ as, Reads s.heap u (toP d') as
  | 0, _, _, _, _, _, _, h => by rw [fixD.eq_def] at h; cases h
  | n + 1, .non, d', x, u, r, rx, h => by
    rw [fixD.eq_def] at h; dsimp only at h; cases h
    cases non_at r; cases rx; exact ⟨_, .none⟩
  | n + 1, .bl b, d', x, u, r, rx, h => by
    rw [fixD.eq_def] at h; dsimp only at h; cases h
    cases bl_at r; cases rx; exact ⟨_, .bool b⟩
  | n + 1, .int i, d', x, u, r, rx, h => by
    rw [fixD.eq_def] at h; dsimp only at h; cases h
    cases int_at r; obtain ⟨t, rfl⟩ := rx; exact ⟨_, .int i t⟩
  | n + 1, .str y, d', x, u, r, rx, h => by
    rw [fixD.eq_def] at h; dsimp only at h; cases h
    cases str_at r; obtain ⟨t, rfl⟩ := rx; exact ⟨_, .str y t⟩
  | n + 1, .tup ds, d', x, u, r, rx, h => by
    rw [fixD.eq_def] at h; dsimp only at h
    obtain ⟨es, h1, rfl⟩ := Option.map_eq_some_iff.mp h
    obtain ⟨a, xs, rfl, hq, rs⟩ := r.tup_at
    cases rx
    obtain ⟨its, rv, ⟨o, h1', h2, m, h3⟩, _⟩ := I.tuple hq
    obtain ⟨as, ra⟩ := reads_fixs I w n ds es xs its rs rv h1
    exact ⟨as, .tuple h1' h2 h3 (by simpa using ra)⟩
  | n + 1, .lst ds, d', x, u, r, rx, h => by
    rw [fixD.eq_def] at h; dsimp only at h
    obtain ⟨es, h1, rfl⟩ := Option.map_eq_some_iff.mp h
    obtain ⟨a, xs, rfl, hq, rs⟩ := r.lst_at
    cases rx
    obtain ⟨its, rv, ⟨o, m, h1', h2, _, h3⟩, _⟩ := I.list hq
    obtain ⟨as, ra⟩ := reads_fixs I w n ds es xs its rs rv h1
    exact ⟨_, .list h1' h2 h3 (by simpa using ra)⟩
  | n + 1, .ref k, d', x, u, r, rx, h => by
    rw [fixD.eq_def] at h; dsimp only at h
    obtain ⟨ds, h0, h⟩ := Option.bind_eq_some_iff.mp h
    obtain ⟨es, h1, rfl⟩ := Option.map_eq_some_iff.mp h
    obtain ⟨a, xs, rfl, hq, rs⟩ := lsOf_at (d := .ref k) w h0 r
    cases rx
    obtain ⟨its, rv, ⟨o, m, h1', h2, _, h3⟩, _⟩ := I.list hq
    obtain ⟨as, ra⟩ := reads_fixs I w n ds es xs its rs rv h1
    exact ⟨_, .list h1' h2 h3 (by simpa using ra)⟩
theorem reads_fixs (I : Inv X pins σ H s) (w : WR X.K mu H S) : ∀ (n : Nat) (ds es : List D) (xs : List V) (us : List Value), RDs X.K mu H ds xs → Vals xs us → fixDs S n ds = some es → ∃ as, ReadsAll s.heap us (toPs es) as
  | 0, _, _, _, _, _, _, h => by rw [fixDs.eq_def] at h; cases h
  | n + 1, [], es, xs, us, r, rv, h => by
    rw [fixDs.eq_def] at h; dsimp only at h; cases h
    cases r.cases_nil; cases rv; exact ⟨_, .nil⟩
  | n + 1, d :: ds, es, xs, us, r, rv, h => by
    rw [fixDs.eq_def] at h; dsimp only at h
    obtain ⟨e, h1, h⟩ := Option.bind_eq_some_iff.mp h
    obtain ⟨es', h2, rfl⟩ := Option.map_eq_some_iff.mp h
    obtain ⟨x, xr, rfl, rd, rs⟩ := r.cases_cons
    cases rv with
    | cons r1 r2 =>
      obtain ⟨as, h3⟩ := reads_fix I w n d e x _ rd r1 h1
      obtain ⟨bs, h4⟩ := reads_fixs I w n ds es' xr _ rs r2 h2
      exact ⟨_, .cons h3 h4⟩
end
theorem flat_rd {K : Frag} {d d2 : D} {x x2 : V} (f : flatD d = true) (f2 : flatD d2 = true) (r : RD K mu H d x) (r2 : RD K mu H d2 x2) : flatV x = true ∧ eqV x x2 = eqF d d2 := by
  cases d <;> first | (exact absurd f Bool.false_ne_true) | (cases d2 <;> first | (exact absurd f2 Bool.false_ne_true) | (rw [RD] at r; rw [RD] at r2; subst r; subst r2; exact ⟨rfl, rfl⟩))
theorem flat_rds {K : Frag} {d : D} {x : V} (f : flatD d = true) (r : RD K mu H d x) : ∀ {ds : List D} {xs : List V}, RDs K mu H ds xs → ds.all flatD = true → xs.all flatV = true ∧ inV x xs = ds.any fun z => eqF z d
  | [], xs, rs, _ => by cases rs.cases_nil; exact ⟨rfl, rfl⟩
  | e :: es, xs, rs, h => by
    obtain ⟨y, ys, rfl, r1, r2⟩ := rs.cases_cons
    rw [List.all_cons, Bool.and_eq_true] at h
    obtain ⟨a, b⟩ := flat_rds f r r2 h.2
    obtain ⟨c1, c2⟩ := flat_rd h.1 f r1 r
    refine ⟨by rw [List.all_cons, c1, a]; rfl, ?_⟩
    unfold inV at b ⊢
    rw [List.any_cons, List.any_cons, b, c2]
theorem in_ok {a b : D} {t : Bool} {x y : V} {v u : Value} {Q : VK} (neg : Bool) (I : Inv X pins σ H s) (w : WR X.K mu H S) (rx : RelV x v) (ry : RelV y u) (ra : RD X.K mu H a x) (rb : RD X.K mu H b y) (h : inD S a b = some t)
    (k : Q (.bl (if neg then !t else t)) H) : wpAny (model X.prog X.w) X.A (compareOp (if neg then .NotIn else .In) v u) (EP X pins σ Q) X.xe s := by
  unfold inD at h
  obtain ⟨ds, h1, h⟩ := Option.bind_eq_some_iff.mp h
  split at h
  · rename_i hc
    rw [Bool.and_eq_true] at hc
    cases h
    obtain ⟨p, xs, rfl, hq, rs⟩ := items_at w h1 rb
    obtain ⟨f1, f2⟩ := flat_rds hc.1 ra rs hc.2
    have fx : flatV x = true := (flat_rd hc.1 hc.1 ra ra).1
    rw [← f2] at k
    cases neg with
    | false => exact op_in_seq pins s σ H x _ v u Q I rx ry ⟨p, xs, rfl, hq, fx, f1, k⟩
    | true => exact op_notIn_seq pins s σ H x _ v u Q I rx ry ⟨p, xs, rfl, hq, fx, f1, k⟩
  · cases h
theorem eq_ok (hu : X.A.units + 100 < cLine) {a b : D} {t : Bool} {x y : V} {v u : Value} {Q : VK} (neg : Bool) (I : Inv X pins σ H s) (w : WR X.K mu H S) (rx : RelV x v) (ry : RelV y u) (ra : RD X.K mu H a x) (rb : RD X.K mu H b y) (h : eqD S a b = some t)
    (k : Q (.bl (if neg then !t else t)) H) : wpAny (model X.prog X.w) X.A (compareOp (if neg then .NotEq else .Eq) v u) (EP X pins σ Q) X.xe s := by
  have units : ∀ {da db : D}, okD da = true → okD db = true → X.A.units + min (toP da).depth (toP db).depth < cLine := fun {da db} h1 h2 => by
    have a1 := (okD_at h1).2.2
    have := Nat.min_le_left (toP da).depth (toP db).depth
    omega
  unfold eqD at h
  split at h
  · rename_i hz
    cases h
    obtain ⟨h1, h2⟩ := scal_at hz ra rb
    rw [← h2] at k
    cases neg with
    | false => exact op_eq pins s σ H x y v u Q I rx ry ⟨h1, k⟩
    | true => exact op_ne pins s σ H x y v u Q I rx ry ⟨h1, k⟩
  · split at h
    · rename_i hz
      rw [Bool.and_eq_true] at hz
      cases h
      obtain ⟨as, r1⟩ := reads_of I a x v ra rx (okD_at hz.1).1
      obtain ⟨bs, r2⟩ := reads_of I b y u rb ry (okD_at hz.2).1
      cases neg with
      | false => exact SeqAt.compareEq_reads r1 r2 (okD_at hz.1).2.1 (okD_at hz.2).2.1 (units hz.1 hz.2) ⟨.bl _, H, I, rfl, k⟩
      | true => exact SeqAt.compareNe_reads r1 r2 (okD_at hz.1).2.1 (okD_at hz.2).2.1 (units hz.1 hz.2) ⟨.bl _, H, I, rfl, k⟩
    · obtain ⟨a', e1, h⟩ := Option.bind_eq_some_iff.mp h
      obtain ⟨b', e2, h⟩ := Option.bind_eq_some_iff.mp h
      split at h
      · rename_i hz
        rw [Bool.and_eq_true] at hz
        cases h
        obtain ⟨as, r1⟩ := reads_fix I w _ a a' x v ra rx e1
        obtain ⟨bs, r2⟩ := reads_fix I w _ b b' y u rb ry e2
        cases neg with
        | false => exact SeqAt.compareEq_reads r1 r2 (okD_at hz.1).2.1 (okD_at hz.2).2.1 (units hz.1 hz.2) ⟨.bl _, H, I, rfl, k⟩
        | true => exact SeqAt.compareNe_reads r1 r2 (okD_at hz.1).2.1 (okD_at hz.2).2.1 (units hz.1 hz.2) ⟨.bl _, H, I, rfl, k⟩
      · cases h
theorem op_cmpS {op : CmpOp} {p : Str → Str → Bool} (rule : ∀ (i j : Str) (t u : Tok) (Q : Value → Shared → Prop) (s : Shared), Q (.bool (p i j)) s → wpAny (model X.prog X.w) X.A (compareOp op (.str i t) (.str j u)) Q X.xe s)
    {i j : Str} {x y : V} {v u : Value} {Q : VK} (I : Inv X pins σ H s) (w : WR X.K mu H S) (rx : RelV x v) (ry : RelV y u) (ra : RD X.K mu H (.str i) x) (rb : RD X.K mu H (.str j) y) (k : Q (.bl (p i j)) H) :
    wpAny (model X.prog X.w) X.A (compareOp op v u) (EP X pins σ Q) X.xe s := by
  cases str_at ra; cases str_at rb
  obtain ⟨t, rfl⟩ := rx
  obtain ⟨t', rfl⟩ := ry
  exact rule i j t t' _ _ ⟨.bl _, H, I, rfl, k⟩
theorem strs_rd {K : Frag} : ∀ {ds : List D} {l : List Str} {xs : List V}, strsD ds = some l → RDs K mu H ds xs → xs = l.map V.str
  | [], l, xs, h, r => by cases h; rw [RDs] at r; exact r
  | d :: ds, l, xs, h, r => by
    rw [RDs] at r
    obtain ⟨x, t, rfl, rx, rt⟩ := r
    cases d with
    | str z =>
      obtain ⟨l', h1, rfl⟩ := Option.map_eq_some_iff.mp (show (strsD ds).map (z :: ·) = some l from h)
      rw [RD] at rx
      rw [rx, strs_rd h1 rt]
      rfl
    | _ => cases h
theorem op_ltT (hu : X.A.units < cLine) {xs ys : List D} {l m : List Str} {x y : V} {v u : Value} {Q : VK} (I : Inv X pins σ H s) (rx : RelV x v) (ry : RelV y u) (ra : RD X.K mu H (.tup xs) x) (rb : RD X.K mu H (.tup ys) y)
    (h1 : strsD xs = some l) (h2 : strsD ys = some m) (k : Q (.bl (TS.lexB l m)) H) : wpAny (model X.prog X.w) X.A (compareOp .Lt v u) (EP X pins σ Q) X.xe s := by
  obtain ⟨a, vs, rfl, qa, r1⟩ := ra.tup_at
  obtain ⟨b, us, rfl, qb, r2⟩ := rb.tup_at
  cases rx; cases ry
  cases strs_rd h1 r1
  cases strs_rd h2 r2
  obtain ⟨its, rv, pa, _⟩ := I.tuple qa
  obtain ⟨its2, rv2, pb, _⟩ := I.tuple qb
  exact tup_lt hu (show s.heap.IsTuple a its.toArray from pa) (show s.heap.IsTuple b its2.toArray from pb) (by simpa using txs_of rv) (by simpa using txs_of rv2) ⟨.bl _, H, I, rfl, k⟩
theorem cmpop_ok (hu : X.A.units + 100 < cLine) (op : CmpOp) : OpS X (compareOp op) (fun S a b => (cmpop S op a b).map D.bl) := by
  intro pins s σ H mu S x y v u da db d Q I w rx ry ra rb h k
  replace h : (cmpop S op da db).map D.bl = some d := h
  obtain ⟨b, h0, rfl⟩ := Option.map_eq_some_iff.mp h
  clear h
  have fin : ∀ {b' : Bool}, b' = b → Q (.bl b') H := fun e => by subst e; exact k _ mu H .refl w rd_bl
  cases op with
  | Eq =>
    replace h0 : eqD S da db = some b := h0
    exact eq_ok hu false I w rx ry ra rb h0 (fin rfl)
  | NotEq =>
    replace h0 : (eqD S da db).map not = some b := h0
    obtain ⟨c, h1, h2⟩ := Option.map_eq_some_iff.mp h0
    exact eq_ok hu true I w rx ry ra rb h1 (fin h2)
  | In =>
    replace h0 : inD S da db = some b := h0
    exact in_ok false I w rx ry ra rb h0 (fin rfl)
  | NotIn =>
    replace h0 : (inD S da db).map not = some b := h0
    obtain ⟨c, h1, h2⟩ := Option.map_eq_some_iff.mp h0
    exact in_ok true I w rx ry ra rb h1 (fin h2)
  | Lt =>
    replace h0 : ltC da db = some b := h0
    cases da <;> cases db <;> first | (cases h0; done) | skip
    · exact op_cmpI (fun _ _ _ _ _ _ h => lt_int h) I w rx ry ra rb (fin (Option.some.inj h0))
    · exact op_cmpS (p := fun x y => TS.sLt x y) (fun _ _ _ _ _ _ h => PySem.P.lt_str h) I w rx ry ra rb (fin (Option.some.inj h0))
    · obtain ⟨l, h1, h2⟩ := Option.bind_eq_some_iff.mp (show ((strsD _).bind fun l => (strsD _).map fun m => TS.lexB l m) = some b from h0)
      obtain ⟨m, h3, h4⟩ := Option.map_eq_some_iff.mp h2
      exact op_ltT (by omega) I rx ry ra rb h1 h3 (fin h4)
  | LtE =>
    replace h0 : ordC _ _ da db = some b := h0
    cases da <;> cases db <;> first | (cases h0; done) | skip
    · exact op_cmpI (fun _ _ _ _ _ _ h => le_int h) I w rx ry ra rb (fin (Option.some.inj h0))
    · exact op_cmpS (p := fun x y => !TS.sLt y x) (fun _ _ _ _ _ _ h => PySem.P.le_str h) I w rx ry ra rb (fin (Option.some.inj h0))
  | Gt =>
    replace h0 : ordC _ _ da db = some b := h0
    cases da <;> cases db <;> first | (cases h0; done) | skip
    · exact op_cmpI (fun _ _ _ _ _ _ h => gt_int h) I w rx ry ra rb (fin (Option.some.inj h0))
    · exact op_cmpS (p := fun x y => TS.sLt y x) (fun _ _ _ _ _ _ h => PySem.P.gt_str h) I w rx ry ra rb (fin (Option.some.inj h0))
  | GtE =>
    replace h0 : ordC _ _ da db = some b := h0
    cases da <;> cases db <;> first | (cases h0; done) | skip
    · exact op_cmpI (fun _ _ _ _ _ _ h => ge_int h) I w rx ry ra rb (fin (Option.some.inj h0))
    · exact op_cmpS (p := fun x y => !TS.sLt x y) (fun _ _ _ _ _ _ h => PySem.P.ge_str h) I w rx ry ra rb (fin (Option.some.inj h0))
  | Is => cases h0
  | IsNot => cases h0
theorem truth_at {K : Frag} {d : D} {b : Bool} {x : V} (w : WR K mu H S) (h : truth S d = some b) (r : RD K mu H d x) : TruV K x H b := by
  have seq : ∀ ds, items S d = some ds → b = !ds.isEmpty → TruV K x H b := fun ds hi e => by
    obtain ⟨a, xs, rfl, h, r⟩ := items_at w hi r
    have e2 : (!ds.isEmpty) = !xs.isEmpty := by
      have := r.length
      cases ds <;> cases xs <;> simp_all
    rcases h with h | h
    · exact .inl ⟨xs, h, e.trans e2⟩
    · exact .inr (.inl ⟨xs, h, e.trans e2⟩)
  cases d with
  | non => cases non_at r; exact (Option.some.inj h).symm
  | bl c => cases bl_at r; exact (Option.some.inj h).symm
  | int i => cases int_at r; exact (Option.some.inj h).symm
  | str y =>
    cases str_at r
    simp only [truth] at h
    split at h
    · rename_i hz
      exact ⟨by rw [line_eq]; exact hz, (Option.some.inj h).symm⟩
    · cases h
  | tup ds =>
    replace h : (items S (.tup ds)).map (fun ds => !ds.isEmpty) = some b := h
    obtain ⟨es, h1, h2⟩ := Option.map_eq_some_iff.mp h
    exact seq es h1 h2.symm
  | lst ds =>
    replace h : (items S (.lst ds)).map (fun ds => !ds.isEmpty) = some b := h
    obtain ⟨es, h1, h2⟩ := Option.map_eq_some_iff.mp h
    exact seq es h1 h2.symm
  | ref n =>
    obtain ⟨es, h1, h2⟩ := Option.map_eq_some_iff.mp h
    exact seq es h1 h2.symm
theorem truthy_ok {d : D} {b : Bool} {x : V} {v : Value} {Q : Bool → Hp → Prop} (I : Inv X pins σ H s) (w : WR X.K mu H S) (h : truth S d = some b) (r : RD X.K mu H d x) (rx : RelV x v) (k : Q b H) :
    wpAny (model X.prog X.w) X.A (truthy v) (TP X pins σ Q) X.xe s := tru_ok pins s σ H x v Q I rx ⟨b, truth_at w h r, k⟩
end
end PF
namespace PF
open PySem PySem.Spec PyProof.Rows L2
section
variable {X : Cx} {T : Tab} {W k : Nat} {pins : List (Addr × Obj)} {σ : St} {H : Hp} {s : Shared} {mu : List Addr} {S : Sto}
theorem two {fa fb : En → Sto → Option (D × Sto)} {env : En} {da db : D} {S1 S2 : Sto} (he : ER X.K mu H env σ) (hw : WR X.K mu H S) (h1 : fa env S = some (da, S1)) (h2 : fb env S1 = some (db, S2)) :
    tE X.K fa σ H fun x H1 => tE X.K fb σ H1 fun y H2 => ∃ mu2, Ext mu H mu2 H2 ∧ WR X.K mu2 H2 S2 ∧ RD X.K mu2 H2 da x ∧ RD X.K mu2 H2 db y :=
  ⟨mu, env, S, he, hw, da, S1, h1, fun x mu1 H1 e1 w1 r1 => ⟨mu1, env, S1, he.mono e1, w1, db, S2, h2, fun y mu2 H2 e2 w2 r2 => ⟨mu2, e1.trans e2, w2, RD.mono e2 _ _ r1, r2⟩⟩⟩
theorem s_bin {a b : Expr} {op : Operator} {pos : Pos} {xa xb : Ex} {c : Cl} (ha : PE X a (tE X.K (ev c xa))) (hb : PE X b (tE X.K (ev c xb))) : PE X (.BinOp a op b pos) (tE X.K (ev c (.bin op xa xb))) := by
  intro pins s σ H Q I ⟨mu, env, S, he, hw, d, S', hf, k⟩
  rw [ev] at hf
  obtain ⟨⟨da, S1⟩, h1, hf⟩ := Option.bind_eq_some_iff.mp hf
  obtain ⟨⟨db, S2⟩, h2, hf⟩ := Option.bind_eq_some_iff.mp hf
  obtain ⟨d', h3, e⟩ := Option.map_eq_some_iff.mp hf
  cases e
  refine wpAny_BinOp (binT ha hb I (two he hw h1 h2) fun v u s2 x y H2 I2 rx ry ⟨mu2, e2, w2, r1, r2⟩ => ?_)
  exact binop_ok op pins s2 σ H2 mu2 S2 x y v u da db d Q I2 w2 rx ry r1 r2 h3 fun v' mu' H' e w r => k v' mu' H' (e2.trans e) w r
theorem s_neg {a : Expr} {pos : Pos} {xa : Ex} {c : Cl} (ha : PE X a (tE X.K (ev c xa))) : PE X (.UnaryOp .USub a pos) (tE X.K (ev c (.neg xa))) := by
  intro pins s σ H Q I ⟨mu, env, S, he, hw, d, S', hf, k⟩
  rw [ev] at hf
  obtain ⟨⟨da, S1⟩, h1, hf⟩ := Option.bind_eq_some_iff.mp hf
  cases da with
  | int i =>
    cases hf
    refine pe_un un_neg ha pins s σ H Q I ⟨mu, env, S, he, hw, _, _, h1, fun v mu1 H1 e1 w1 r1 => ?_⟩
    cases int_at r1
    exact ⟨i, rfl, k _ mu1 H1 e1 w1 rd_int⟩
  | _ => cases hf
theorem s_truth {a : Expr} {xa : Ex} {c : Cl} (ha : PE X a (tE X.K (ev c xa))) (hp : ∀ whole, isTrue a X.env whole = (do let v ← whole; standAt a.pos; holding [v] (truthy v))) : PT X a (tT X.K (evT c xa)) := by
  intro pins s σ H Q I ⟨mu, env, S, he, hw, d, S', hf, k⟩
  rw [evT] at hf
  obtain ⟨⟨da, S1⟩, h1, hf⟩ := Option.bind_eq_some_iff.mp hf
  obtain ⟨b, h2, e⟩ := Option.map_eq_some_iff.mp hf
  cases e
  refine isTrue_plain (thn (ha pins s σ H _ I ⟨mu, env, S, he, hw, da, S1, h1, fun v mu1 H1 e1 w1 r1 => (⟨mu1, e1, w1, r1⟩ : ∃ mu1, Ext mu H mu1 H1 ∧ WR X.K mu1 H1 S1 ∧ RD X.K mu1 H1 da v)⟩) fun v s1 ⟨x, H1, I1, r1, mu1, e1, w1, r⟩ => ?_) (hp _)
  exact truthy_ok I1 w1 h2 r r1 (k mu1 H1 e1 w1)
theorem s_not {a : Expr} {pos : Pos} {xa : Ex} {c : Cl} (ha : PE X a (tE X.K (ev c xa))) : PE X (.UnaryOp .Not a pos) (tE X.K (ev c (.not xa))) := by
  intro pins s σ H Q I ⟨mu, env, S, he, hw, d, S', hf, k⟩
  rw [ev] at hf
  obtain ⟨⟨da, S1⟩, h1, hf⟩ := Option.bind_eq_some_iff.mp hf
  obtain ⟨b, h2, e⟩ := Option.map_eq_some_iff.mp hf
  cases e
  refine UnaryOp_ (thn (ha pins s σ H _ I ⟨mu, env, S, he, hw, da, S1, h1, fun v mu1 H1 e1 w1 r1 => (⟨mu1, e1, w1, r1⟩ : ∃ mu1, Ext mu H mu1 H1 ∧ WR X.K mu1 H1 S1 ∧ RD X.K mu1 H1 da v)⟩) fun v s1 ⟨x, H1, I1, r1, mu1, e1, w1, r⟩ => ?_)
  refine not_of (thn (truthy_ok (Q := fun b' H' => b' = b ∧ H' = H1) I1 w1 h2 r r1 ⟨rfl, rfl⟩) fun b' s2 ⟨H2, I2, q⟩ => ?_)
  obtain ⟨rfl, rfl⟩ := q
  exact ⟨.bl (!b'), H2, I2, rfl, k _ mu1 _ e1 w1 rd_bl⟩
theorem s_notT {a : Expr} {pos : Pos} {xa : Ex} {c : Cl} (ha : PT X a (tT X.K (evT c xa))) : PT X (.UnaryOp .Not a pos) (tT X.K (evT c (.not xa))) := by
  intro pins s σ H Q I ⟨mu, env, S, he, hw, d, S', hf, k⟩
  rw [evT, ev] at hf
  obtain ⟨⟨db, S2⟩, h1, hf⟩ := Option.bind_eq_some_iff.mp hf
  obtain ⟨⟨da, S1⟩, h0, h1⟩ := Option.bind_eq_some_iff.mp h1
  obtain ⟨b, h2, e⟩ := Option.map_eq_some_iff.mp h1
  cases e
  obtain ⟨b', h3, e⟩ := Option.map_eq_some_iff.mp hf
  cases e
  cases h3
  refine isTrue_not (ha pins s σ H _ I ⟨mu, env, S, he, hw, b, S1, ?_, fun mu1 H1 e1 w1 => k mu1 H1 e1 w1⟩)
  rw [evT, h0]
  show (truth S1 da).map _ = _
  rw [h2]
  rfl
theorem s_and {a b : Expr} {r : List Expr} {pos : Pos} {xa xb : Ex} {c : Cl} (ha : PE X a (tE X.K (ev c xa))) (hb : PE X (.BoolOp .And (b :: r) pos) (tE X.K (ev c xb))) : PE X (.BoolOp .And (a :: b :: r) pos) (tE X.K (ev c (.and xa xb))) := by
  intro pins s σ H Q I ⟨mu, env, S, he, hw, d, S', hf, k⟩
  rw [ev] at hf
  obtain ⟨⟨da, S1⟩, h1, hf⟩ := Option.bind_eq_some_iff.mp hf
  obtain ⟨t, h2, hf⟩ := Option.bind_eq_some_iff.mp hf
  refine BoolOp_and (thn (ha pins s σ H _ I ⟨mu, env, S, he, hw, da, S1, h1, fun v mu1 H1 e1 w1 r1 => (⟨mu1, e1, w1, r1⟩ : ∃ mu1, Ext mu H mu1 H1 ∧ WR X.K mu1 H1 S1 ∧ RD X.K mu1 H1 da v)⟩) fun v s1 ⟨x, H1, I1, r1, mu1, e1, w1, r⟩ => ?_)
  refine thn (truthy_ok (Q := fun b' H' => b' = t ∧ H' = H1) I1 w1 h2 r r1 ⟨rfl, rfl⟩) fun b' s2 ⟨H2, I2, q⟩ => ?_
  obtain ⟨rfl, rfl⟩ := q
  cases b' with
  | true => exact hb pins s2 σ H2 Q I2 ⟨mu1, env, S1, he.mono e1, w1, d, S', hf, fun v' mu' H' e w r => k v' mu' H' (e1.trans e) w r⟩
  | false =>
    cases hf
    exact ⟨x, H2, I2, r1, k x mu1 H2 e1 w1 r⟩
theorem s_or {a b : Expr} {r : List Expr} {pos : Pos} {xa xb : Ex} {c : Cl} (ha : PE X a (tE X.K (ev c xa))) (hb : PE X (.BoolOp .Or (b :: r) pos) (tE X.K (ev c xb))) : PE X (.BoolOp .Or (a :: b :: r) pos) (tE X.K (ev c (.or xa xb))) := by
  intro pins s σ H Q I ⟨mu, env, S, he, hw, d, S', hf, k⟩
  rw [ev] at hf
  obtain ⟨⟨da, S1⟩, h1, hf⟩ := Option.bind_eq_some_iff.mp hf
  obtain ⟨t, h2, hf⟩ := Option.bind_eq_some_iff.mp hf
  refine BoolOp_or (thn (ha pins s σ H _ I ⟨mu, env, S, he, hw, da, S1, h1, fun v mu1 H1 e1 w1 r1 => (⟨mu1, e1, w1, r1⟩ : ∃ mu1, Ext mu H mu1 H1 ∧ WR X.K mu1 H1 S1 ∧ RD X.K mu1 H1 da v)⟩) fun v s1 ⟨x, H1, I1, r1, mu1, e1, w1, r⟩ => ?_)
  refine thn (truthy_ok (Q := fun b' H' => b' = t ∧ H' = H1) I1 w1 h2 r r1 ⟨rfl, rfl⟩) fun b' s2 ⟨H2, I2, q⟩ => ?_
  obtain ⟨rfl, rfl⟩ := q
  cases b' with
  | false => exact hb pins s2 σ H2 Q I2 ⟨mu1, env, S1, he.mono e1, w1, d, S', hf, fun v' mu' H' e w r => k v' mu' H' (e1.trans e) w r⟩
  | true =>
    cases hf
    exact ⟨x, H2, I2, r1, k x mu1 H2 e1 w1 r⟩
theorem evT_of {c : Cl} {x : Ex} {env : En} {S S1 : Sto} {d : D} {b : Bool} (h : ev c x env S = some (d, S1)) (h2 : truth S1 d = some b) : evT c x env S = some (b, S1) := by
  rw [evT, h]
  show (truth S1 d).map _ = _
  rw [h2]; rfl
theorem s_andT {a b : Expr} {r : List Expr} {pos : Pos} {xa xb : Ex} {c : Cl} (ha : PT X a (tT X.K (evT c xa))) (hb : PW X (.BoolOp .And (b :: r) pos) (tT X.K (evT c xb))) : PW X (.BoolOp .And (a :: b :: r) pos) (tT X.K (evT c (.and xa xb))) := by
  intro wh pins s σ H Q I ⟨mu, env, S, he, hw, d, S', hf, k⟩
  rw [evT, ev] at hf
  obtain ⟨⟨db, S2⟩, h1, hf⟩ := Option.bind_eq_some_iff.mp hf
  obtain ⟨⟨da, S1⟩, h0, h1⟩ := Option.bind_eq_some_iff.mp h1
  obtain ⟨t, h2, h1⟩ := Option.bind_eq_some_iff.mp h1
  obtain ⟨b', h3, e⟩ := Option.map_eq_some_iff.mp hf
  cases e
  refine isTrue_and (thn (ha pins s σ H (fun b' H' => b' = t ∧ ∃ mu1, Ext mu H mu1 H' ∧ WR X.K mu1 H' S1) I ⟨mu, env, S, he, hw, t, S1, evT_of h0 h2, fun mu1 H1 e1 w1 => ⟨rfl, mu1, e1, w1⟩⟩) fun b' s1 ⟨H1, I1, q1⟩ => ?_)
  obtain ⟨rfl, mu1, e1, w1⟩ := q1
  cases b' with
  | true => exact hb wh pins s1 σ H1 Q I1 ⟨mu1, env, S1, he.mono e1, w1, d, S2, evT_of h1 h3, fun mu' H' e w => k mu' H' (e1.trans e) w⟩
  | false =>
    cases h1
    rw [h2] at h3
    cases h3
    exact ⟨H1, I1, k mu1 H1 e1 w1⟩
theorem s_orT {a b : Expr} {r : List Expr} {pos : Pos} {xa xb : Ex} {c : Cl} (ha : PT X a (tT X.K (evT c xa))) (hb : PW X (.BoolOp .Or (b :: r) pos) (tT X.K (evT c xb))) : PW X (.BoolOp .Or (a :: b :: r) pos) (tT X.K (evT c (.or xa xb))) := by
  intro wh pins s σ H Q I ⟨mu, env, S, he, hw, d, S', hf, k⟩
  rw [evT, ev] at hf
  obtain ⟨⟨db, S2⟩, h1, hf⟩ := Option.bind_eq_some_iff.mp hf
  obtain ⟨⟨da, S1⟩, h0, h1⟩ := Option.bind_eq_some_iff.mp h1
  obtain ⟨t, h2, h1⟩ := Option.bind_eq_some_iff.mp h1
  obtain ⟨b', h3, e⟩ := Option.map_eq_some_iff.mp hf
  cases e
  refine isTrue_or (thn (ha pins s σ H (fun b' H' => b' = t ∧ ∃ mu1, Ext mu H mu1 H' ∧ WR X.K mu1 H' S1) I ⟨mu, env, S, he, hw, t, S1, evT_of h0 h2, fun mu1 H1 e1 w1 => ⟨rfl, mu1, e1, w1⟩⟩) fun b' s1 ⟨H1, I1, q1⟩ => ?_)
  obtain ⟨rfl, mu1, e1, w1⟩ := q1
  cases b' with
  | false => exact hb wh pins s1 σ H1 Q I1 ⟨mu1, env, S1, he.mono e1, w1, d, S2, evT_of h1 h3, fun mu' H' e w => k mu' H' (e1.trans e) w⟩
  | true =>
    cases h1
    rw [h2] at h3
    cases h3
    exact ⟨H1, I1, k mu1 H1 e1 w1⟩
theorem cmp_at {op : CmpOp} {d : D} {b : Bool} {da db : D} {S : Sto} (h : cmpop S op da db = some b) : (cmpop S op da db).map D.bl = some (.bl b) := by rw [h]; rfl
theorem s_pc (hu : X.A.units + 100 < cLine) {a b : Expr} {op : CmpOp} {xa xb : Ex} {c : Cl} (ha : PE X a (tE X.K (ev c xa))) (hb : PE X b (tE X.K (ev c xb))) : PC X op a b (tE X.K (ev c (.cmp op xa xb))) := by
  intro pins s σ H Q I ⟨mu, env, S, he, hw, d, S', hf, k⟩
  rw [ev] at hf
  obtain ⟨⟨da, S1⟩, h1, hf⟩ := Option.bind_eq_some_iff.mp hf
  obtain ⟨⟨db, S2⟩, h2, hf⟩ := Option.bind_eq_some_iff.mp hf
  obtain ⟨b, h3, e⟩ := Option.map_eq_some_iff.mp hf
  cases e
  refine binT ha hb I (two he hw h1 h2) fun v u s2 x y H2 I2 rx ry ⟨mu2, e2, w2, r1, r2⟩ => ?_
  exact cmpop_ok hu op pins s2 σ H2 mu2 S2 x y v u da db _ Q I2 w2 rx ry r1 r2 (cmp_at (d := .non) h3) fun v' mu' H' e w r => k v' mu' H' (e2.trans e) w r
theorem s_isN {a : Expr} {j : Nat} {pos' : Pos} {xa : Ex} {c : Cl} (ha : PE X a (tE X.K (ev c xa))) : PC X .Is a (.Constant .none j pos') (tE X.K (ev c (.isN xa))) := by
  intro pins s σ H Q I ⟨mu, env, S, he, hw, d, S', hf, k⟩
  rw [ev] at hf
  obtain ⟨⟨da, S1⟩, h1, e⟩ := Option.map_eq_some_iff.mp hf
  cases e
  refine pc_isN ha pins s σ H Q I ⟨mu, env, S, he, hw, da, _, h1, fun v mu1 H1 e1 w1 r1 => ?_⟩
  have e : decide (v = .non) = decide (da = .non) := by cases da <;> rw [RD] at r1 <;> first | (subst r1; rfl) | (obtain ⟨_, _, rfl, _⟩ := r1; rfl) | (obtain ⟨_, _, rfl⟩ := r1; rfl)
  show Q (.bl (decide (v = .non))) H1
  rw [e]
  exact k _ mu1 H1 e1 w1 rd_bl
theorem s_cmpT {a b : Expr} {op : CmpOp} {pos : Pos} {x : Ex} {c : Cl} (h : PC X op a b (tE X.K (ev c x))) (hb : behindInMarks op b = false) : PT X (.Compare a [op] [b] pos) (tT X.K (evT c x)) := by
  intro pins s σ H Q I ⟨mu, env, S, he, hw, d, S', hf, k⟩
  rw [evT] at hf
  obtain ⟨⟨da, S1⟩, h1, hf⟩ := Option.bind_eq_some_iff.mp hf
  obtain ⟨b', h2, e⟩ := Option.map_eq_some_iff.mp hf
  cases e
  refine wpAny_isTrue_Compare1 (thn (h pins s σ H _ I ⟨mu, env, S, he, hw, da, S1, h1, fun v mu1 H1 e1 w1 r1 => (⟨mu1, e1, w1, r1⟩ : ∃ mu1, Ext mu H mu1 H1 ∧ WR X.K mu1 H1 S1 ∧ RD X.K mu1 H1 da v)⟩) fun v s1 q1 => thn q1 fun u s2 q2 => thn q2 fun c s3 ⟨x, H1, I1, r1, mu1, e1, w1, r⟩ => ?_) hb
  exact truthy_ok I1 w1 h2 r r1 (k mu1 H1 e1 w1)
end
end PF
namespace PF
open PySem PySem.Spec PyProof.Rows L2
section
variable {X : Cx} {T : Tab} {W k : Nat} {pins : List (Addr × Obj)} {σ : St} {H : Hp} {s : Shared} {mu : List Addr} {S : Sto} {c : Cl}
theorem nameOk_d {x : Str} (h : nameOk x = true) : (x == ("__debug__" : Str)) = false ∧ (x == ("__classdict__" : Str)) = false ∧ x ≠ "__name__" := by
  unfold nameOk at h
  simp only [Bool.not_eq_true', Bool.or_eq_false_iff, decide_eq_false_iff_not] at h
  refine ⟨?_, ?_, h.2⟩
  · exact beq_eq_false_iff_ne.mpr h.1.1
  · exact beq_eq_false_iff_ne.mpr h.1.2
theorem s_var {x : Str} {pos : Pos} {i : Nat} (hn : nameOk x = true) (hi : slot x X.N = some i) (hv : Vis X.env.scope x) : PE X (.Name x pos) (tE X.K (ev c (.var i))) := by
  intro pins s σ H Q I ⟨mu, env, S, he, hw, d, S', hf, k⟩
  rw [ev] at hf
  obtain ⟨h1, h2, _⟩ := nameOk_d hn
  refine pe_var (slot_get hi) hv h1 h2 pins s σ H Q I ?_
  cases q : env[i]? with
  | none => rw [q] at hf; cases hf
  | some o =>
    rw [q] at hf
    cases o with
    | none => cases hf
    | some d' =>
      cases hf
      obtain ⟨v, h1, h2⟩ := he.get i _ q
      exact ⟨v, h1, k v mu H .refl hw h2⟩
theorem s_const {cc : Const} {j : Nat} {pos : Pos} {x : Ex} (h : (match cc with
        | .none => some Ex.non
        | .bool b => some (.bl b)
        | .int i => some (.int i)
        | .str x => some (.str x)
        | _ => none) = some x) : PE X (.Constant cc j pos) (tE X.K (ev c x)) := by
  intro pins s σ H Q I ⟨mu, env, S, he, hw, d, S', hf, k⟩
  cases cc <;> first | contradiction | skip
  · cases h; rw [ev] at hf; cases hf
    exact pe_non pins s σ H Q I (k _ mu H .refl hw rd_non)
  · cases h; rw [ev] at hf; cases hf
    exact pe_bl pins s σ H Q I (k _ mu H .refl hw rd_bl)
  · cases h; rw [ev] at hf; cases hf
    exact pe_int pins s σ H Q I (k _ mu H .refl hw rd_int)
  · cases h; rw [ev] at hf; cases hf
    exact pe_str pins s σ H Q I (k _ mu H .refl hw rd_str)
theorem s_cmp2 (hu : X.A.units + 100 < cLine) {a b e : Expr} {op op' : CmpOp} {pos : Pos} {xa xb xe : Ex} (ha : PE X a (tE X.K (ev c xa))) (hb : PE X b (tE X.K (ev c xb))) (he' : PE X e (tE X.K (ev c xe)))
    (hm : lastMarks [op, op'] [b, e] = false) : PE X (.Compare a [op, op'] [b, e] pos) (tE X.K (ev c (.cmp2 op op' xa xb xe))) := by
  intro pins s σ H Q I ⟨mu, env, S, he, hw, d, S', hf, k⟩
  rw [ev] at hf
  obtain ⟨⟨da, S1⟩, h1, hf⟩ := Option.bind_eq_some_iff.mp hf
  obtain ⟨⟨db, S2⟩, h2, hf⟩ := Option.bind_eq_some_iff.mp hf
  obtain ⟨t, h3, hf⟩ := Option.bind_eq_some_iff.mp hf
  refine Compare_chain (thn (ha pins s σ H _ I (two he hw h1 h2)) fun v s1 ⟨x, H1, I1, r1, q1⟩ => chain_link (thn (hb pins s1 σ H1 _ I1 q1) fun u s2 ⟨y, H2, I2, r2, mu2, e2, w2, ra, rb⟩ =>
    thn (cmpop_ok hu op pins s2 σ H2 mu2 S2 x y v u da db _ (fun z H3 => z = .bl t ∧ ∃ mu3, Ext mu2 H2 mu3 H3 ∧ WR X.K mu3 H3 S2) I2 w2 r1 r2 ra rb (cmp_at (d := .non) h3) fun v' mu' H' e w r => ⟨bl_at r, mu', e, w⟩) fun d s3 ⟨z, H3, I3, r3, ez, mu3, e3, w3⟩ => ?_)) hm
  subst ez
  cases r3
  refine wpAny_truthy_bool ?_
  cases t with
  | false =>
    cases hf
    exact ite_ff ⟨.bl false, H3, I3, rfl, k _ mu3 H3 (e2.trans e3) w3 rd_bl⟩
  | true =>
    rw [if_pos rfl] at hf
    obtain ⟨⟨dc, S3⟩, h4, hf⟩ := Option.bind_eq_some_iff.mp hf
    obtain ⟨b', h5, e⟩ := Option.map_eq_some_iff.mp hf
    cases e
    refine ite_tt (chain_last (thn (he' pins s3 σ H3 _ I3 ⟨mu3, env, S2, he.mono (e2.trans e3), w3, dc, S3, h4, fun v mu4 H4 e4 w4 r4 => (⟨mu4, e4, w4, r4⟩ : ∃ mu4, Ext mu3 H3 mu4 H4 ∧ WR X.K mu4 H4 S3 ∧ RD X.K mu4 H4 dc v)⟩) fun w' s4 ⟨z', H4, I4, r4, mu4, e4, w4, rc⟩ => ?_))
    exact cmpop_ok hu op' pins s4 σ H4 mu4 S3 y z' u w' db dc _ Q I4 w4 r2 r4 (RD.mono (e3.trans e4) _ _ rb) rc (cmp_at (d := .non) h5) fun v' mu' H' e w r => k v' mu' H' ((e2.trans e3).trans (e4.trans e)) w r
theorem s_cmp2T (hu : X.A.units + 100 < cLine) {a b e : Expr} {op op' : CmpOp} {pos : Pos} {xa xb xe : Ex} (ha : PE X a (tE X.K (ev c xa))) (hb : PE X b (tE X.K (ev c xb))) (he' : PE X e (tE X.K (ev c xe)))
    (hm : lastMarks [op, op'] [b, e] = false) : PT X (.Compare a [op, op'] [b, e] pos) (tT X.K (evT c (.cmp2 op op' xa xb xe))) := by
  intro pins s σ H Q I ⟨mu, env, S, he, hw, d, S', hf, k⟩
  rw [evT, ev] at hf
  obtain ⟨⟨dz, S5⟩, hf, hz⟩ := Option.bind_eq_some_iff.mp hf
  obtain ⟨⟨da, S1⟩, h1, hf⟩ := Option.bind_eq_some_iff.mp hf
  obtain ⟨⟨db, S2⟩, h2, hf⟩ := Option.bind_eq_some_iff.mp hf
  obtain ⟨t, h3, hf⟩ := Option.bind_eq_some_iff.mp hf
  obtain ⟨b9, hz, e⟩ := Option.map_eq_some_iff.mp hz
  cases e
  refine isTrue_chain (thn (ha pins s σ H _ I (two he hw h1 h2)) fun v s1 ⟨x, H1, I1, r1, q1⟩ => test_link (thn (hb pins s1 σ H1 _ I1 q1) fun u s2 ⟨y, H2, I2, r2, mu2, e2, w2, ra, rb⟩ =>
    thn (cmpop_ok hu op pins s2 σ H2 mu2 S2 x y v u da db _ (fun z H3 => z = .bl t ∧ ∃ mu3, Ext mu2 H2 mu3 H3 ∧ WR X.K mu3 H3 S2) I2 w2 r1 r2 ra rb (cmp_at (d := .non) h3) fun v' mu' H' e w r => ⟨bl_at r, mu', e, w⟩) fun d s3 ⟨z, H3, I3, r3, ez, mu3, e3, w3⟩ => ?_)) hm
  subst ez
  cases r3
  refine wpAny_truthy_bool ?_
  cases t with
  | false =>
    cases hf
    cases hz
    exact ite_ff ⟨H3, I3, k mu3 H3 (e2.trans e3) w3⟩
  | true =>
    rw [if_pos rfl] at hf
    obtain ⟨⟨dc, S3⟩, h4, hf⟩ := Option.bind_eq_some_iff.mp hf
    obtain ⟨b', h5, e⟩ := Option.map_eq_some_iff.mp hf
    cases e
    cases hz
    refine ite_tt (test_last (thn (he' pins s3 σ H3 _ I3 ⟨mu3, env, S2, he.mono (e2.trans e3), w3, dc, S3, h4, fun v mu4 H4 e4 w4 r4 => (⟨mu4, e4, w4, r4⟩ : ∃ mu4, Ext mu3 H3 mu4 H4 ∧ WR X.K mu4 H4 S3 ∧ RD X.K mu4 H4 dc v)⟩) fun w' s4 ⟨z', H4, I4, r4, mu4, e4, w4, rc⟩ =>
      thn (cmpop_ok hu op' pins s4 σ H4 mu4 S3 y z' u w' db dc _ (fun z H5 => z = .bl d ∧ ∃ mu5, Ext mu4 H4 mu5 H5 ∧ WR X.K mu5 H5 S3) I4 w4 r2 r4 (RD.mono (e3.trans e4) _ _ rb) rc (cmp_at (d := .non) h5) fun v' mu' H' e w r => ⟨bl_at r, mu', e, w⟩) fun d' s5 ⟨z2, H5, I5, r5, ez, mu5, e5, w5⟩ => ?_))
    subst ez
    cases r5
    exact wpAny_truthy_bool ⟨H5, I5, k mu5 H5 ((e2.trans e3).trans (e4.trans e5)) w5⟩
theorem atI_rd {K : Frag} {ds : List D} {xs : List V} {i : Int} {d : D} (r : RDs K mu H ds xs) (h : atI ds i = some d) : ∃ v, atI xs i = some v ∧ RD K mu H d v := by
  unfold atI at h ⊢
  obtain ⟨j, h1, h2⟩ := Option.bind_eq_some_iff.mp h
  obtain ⟨v, h3, h4⟩ := r.get h2
  exact ⟨v, by rw [← r.length, h1]; exact h3, h4⟩
theorem plainIx_ok {i : Expr} (h : plainIx i = true) : PlainIx i := by
  intro o v
  cases i <;> first | rfl | (exact absurd h (show ¬ (false = true) from Bool.false_ne_true))
theorem s_sub {a i : Expr} {pos : Pos} {xa xi : Ex} (ha : PE X a (tE X.K (ev c xa))) (hi : PE X i (tE X.K (ev c xi))) (hp : plainIx i = true) : PE X (.Subscript a i pos) (tE X.K (ev c (.sub xa xi))) := by
  intro pins s σ H Q I ⟨mu, env, S, he, hw, d, S', hf, k⟩
  rw [ev] at hf
  obtain ⟨⟨da, S1⟩, h1, hf⟩ := Option.bind_eq_some_iff.mp hf
  obtain ⟨⟨db, S2⟩, h2, hf⟩ := Option.bind_eq_some_iff.mp hf
  obtain ⟨d', h3, e⟩ := Option.map_eq_some_iff.mp hf
  cases e
  refine Subscript_ (binT ha hi I (two he hw h1 h2) fun v u s2 x y H2 I2 rx ry ⟨mu2, e2, w2, r1, r2⟩ => ?_)
  cases db with
  | int i0 =>
    by_cases hst : ∃ z, da = .str z
    · obtain ⟨z, rfl⟩ := hst
      replace h3 : (if z.length ≤ line then (L2.atI z.cps.toList i0).map fun c => D.str ⟨#[c]⟩ else none) = some d := h3
      split at h3
      · rename_i hz
        obtain ⟨cc, h4, rfl⟩ := Option.map_eq_some_iff.mp h3
        cases str_at r1
        cases int_at r2
        exact ix_str a i pins s2 σ H2 _ _ v u Q I2 rx ry ⟨z, i0, cc, rfl, rfl, by rw [line_eq]; exact hz, h4, k _ mu2 H2 e2 w2 (by rw [RD])⟩ (plainIx_ok hp _ _)
      · cases h3
    have h3' : (items S2 da).bind (fun ds => L2.atI ds i0) = some d := by
      cases da with
      | str z => exact absurd ⟨z, rfl⟩ hst
      | _ => exact h3
    obtain ⟨ds, h4, h5⟩ := Option.bind_eq_some_iff.mp h3'
    obtain ⟨p, xs, rfl, hq, rs⟩ := items_at w2 h4 r1
    obtain ⟨z, h6, h7⟩ := atI_rd rs h5
    cases int_at r2
    rcases hq with hq | hq
    · exact ix_list a i pins s2 σ H2 _ _ v u Q I2 rx ry ⟨p, xs, i0, z, rfl, rfl, hq, h6, k z mu2 H2 e2 w2 h7⟩ (plainIx_ok hp _ _)
    · exact ix_tup a i pins s2 σ H2 _ _ v u Q I2 rx ry ⟨p, xs, i0, z, rfl, rfl, hq, h6, k z mu2 H2 e2 w2 h7⟩ (plainIx_ok hp _ _)
  | _ => cases h3
theorem rd_tup {p : Addr} {ds : List D} {xs : List V} (w : WR X.K mu H S) (hp : H p = none) (r : RDs X.K mu H ds xs) : RD X.K mu (upd H p (.tup xs)) (.tup ds) (.ref p) := by
  rw [RD]
  exact ⟨p, xs, rfl, .inl ⟨w.fresh hp, .inl upd_same⟩, RDs.mono (Ext.new w hp) _ _ r⟩
theorem rd_lst {p : Addr} {ds : List D} {xs : List V} (w : WR X.K mu H S) (hp : H p = none) (r : RDs X.K mu H ds xs) : RD X.K mu (upd H p (.lst xs)) (.lst ds) (.ref p) := by
  rw [RD]
  exact ⟨p, xs, rfl, .inl ⟨w.fresh hp, .inl upd_same⟩, RDs.mono (Ext.new w hp) _ _ r⟩
theorem rd_ref {p : Addr} {o : HO} (w : WR X.K mu H S) : RD X.K (mu ++ [p]) (upd H p o) (.ref S.length) (.ref p) := by
  rw [RD]
  exact ⟨p, by rw [← w.len]; simp, rfl⟩
theorem cut_rd {K : Frag} {ds : List D} {xs : List V} (lo hi : Option Int) (r : RDs K mu H ds xs) : RDs K mu H (cutD ds lo hi) (cutV xs lo hi) := by
  unfold cutD cutV
  rw [r.length]
  exact (r.drop _).take _
theorem s_tup {es : List Expr} {x1 : Nat} {pos : Pos} {xs : Exs} (h : PA X es (tA X.K (evs c xs))) : PE X (.Tuple es x1 pos) (tE X.K (ev c (.tup xs))) := by
  intro pins s σ H Q I ⟨mu, env, S, he, hw, d, S', hf, k⟩
  rw [ev] at hf
  obtain ⟨⟨ds, S1⟩, h1, hf⟩ := Option.bind_eq_some_iff.mp hf
  split at hf
  · rename_i hz
    cases hf
    refine pe_tup h pins s σ H Q I ⟨mu, env, S, he, hw, ds, _, h1, fun vs mu1 H1 e1 w1 r1 => ⟨by rw [line_eq, ← r1.length]; exact hz, fun p hp => ?_⟩⟩
    exact k _ mu1 _ (e1.trans (Ext.new w1 hp)) (w1.keep hp) (rd_tup w1 hp r1)
  · cases hf
theorem s_lv {e : Expr} {f : En → Sto → Option (List D × Sto)} (h : PE X e (tN X.K f)) : PE X e (tE X.K (fun env S => (f env S).map fun r => (.lst r.1, r.2))) := by
  intro pins s σ H Q I ⟨mu, env, S, he, hw, d, S', hf, k⟩
  obtain ⟨⟨ds, S1⟩, h1, e'⟩ := Option.map_eq_some_iff.mp hf
  cases e'
  exact h pins s σ H Q I ⟨mu, env, S, he, hw, ds, _, h1, fun vs p mu1 H1 e1 w1 hp r1 => k _ mu1 _ (e1.trans (Ext.new w1 hp)) (w1.keep hp) (rd_lst w1 hp r1)⟩
theorem s_lr {e : Expr} {f : En → Sto → Option (List D × Sto)} (h : PE X e (tN X.K f)) : PE X e (tE X.K (fun env S => (f env S).map fun r => (.ref r.2.length, r.2 ++ [.lst r.1]))) := by
  intro pins s σ H Q I ⟨mu, env, S, he, hw, d, S', hf, k⟩
  obtain ⟨⟨ds, S1⟩, h1, e'⟩ := Option.map_eq_some_iff.mp hf
  cases e'
  exact h pins s σ H Q I ⟨mu, env, S, he, hw, ds, _, h1, fun vs p mu1 H1 e1 w1 hp r1 => k _ _ _ (e1.trans (Ext.alloc w1 hp)) (w1.alloc hp r1) (rd_ref w1)⟩
theorem s_asL {e : Expr} {l : Lx} (b : Bool) (h : PE X e (tN X.K (evL c l))) : PE X e (tE X.K (ev c (asL b l))) := by
  cases b with
  | false =>
    have e1 : (fun env S => (evL c l env S).map fun r => (D.lst r.1, r.2)) = ev c (asL false l) := by funext env S; show _ = ev c (.lv l) env S; rw [ev]
    rw [← e1]; exact s_lv h
  | true =>
    have e1 : (fun env S => (evL c l env S).map fun r => (D.ref r.2.length, r.2 ++ [Ob.lst r.1])) = ev c (asL true l) := by funext env S; show _ = ev c (.lr l) env S; rw [ev]
    rw [← e1]; exact s_lr h
theorem s_dsp {es : List Expr} {pos : Pos} {xs : Exs} (h : PA X es (tA X.K (evs c xs))) : PE X (.List es pos) (tN X.K (evL c (.dsp xs))) := by
  intro pins s σ H Q I ⟨mu, env, S, he, hw, ds, S', hf, k⟩
  rw [evL] at hf
  obtain ⟨⟨ds, S1⟩, h1, hf⟩ := Option.bind_eq_some_iff.mp hf
  split at hf
  · rename_i hz
    cases hf
    exact pe_lst h pins s σ H Q I ⟨mu, env, S, he, hw, ds, _, h1, fun vs mu1 H1 e1 w1 r1 => ⟨by rw [line_eq, ← r1.length]; exact hz, fun p hp => k vs p mu1 H1 e1 w1 hp r1⟩⟩
  · cases hf
theorem s_gl {x : Str} {pos : Pos} {d : D} {u : Value} {v : V} (hn : nameOk x = true) (hg : X.env.scope.names.lookup x = some .globalImplicit) (hm : X.mg x = some u) (rv : RelV v u) (rd : ∀ mu H, RD X.K mu H d v) (hc : c.gl x = some d) : PE X (.Name x pos) (tE X.K (ev c (.gl x))) := by
  intro pins s σ H Q I ⟨mu, env, S, he, hw, d', S', hf, k⟩
  rw [ev, hc] at hf
  cases hf
  have nm := nameOk_d hn
  exact ld_glob I hg hm ⟨v, H, I, rv, k v mu H .refl hw (rd mu H)⟩ nm.1
theorem star_ok {e : Expr} {es : List Expr} {env : Env} (h : notStar e = true) : starEach (e :: es) env = (false, eval e env) :: starEach es env := by
  cases e <;> first | rfl | (exact absurd h (show ¬ (false = true) from Bool.false_ne_true))
theorem s_nil : PA X [] (tA X.K (evs c .nil)) := by
  intro pos pins s σ H Q I ⟨mu, env, S, he, hw, d, S', hf, k⟩
  rw [evs] at hf
  cases hf
  exact pa_nil pos pins s σ H Q I (k _ mu H .refl hw .nil)
theorem s_cons {e : Expr} {es : List Expr} {x : Ex} {xs : Exs} (ha : PE X e (tE X.K (ev c x))) (hb : PA X es (tA X.K (evs c xs))) (hs : notStar e = true) : PA X (e :: es) (tA X.K (evs c (.cons x xs))) := by
  intro pos pins s σ H Q I ⟨mu, env, S, he, hw, d, S', hf, k⟩
  rw [evs] at hf
  obtain ⟨⟨da, S1⟩, h1, hf⟩ := Option.bind_eq_some_iff.mp hf
  obtain ⟨⟨ds, S2⟩, h2, e⟩ := Option.map_eq_some_iff.mp hf
  cases e
  exact pa_cons ha hb (star_ok hs) pos pins s σ H Q I ⟨mu, env, S, he, hw, da, S1, h1, fun x mu1 H1 e1 w1 r1 => ⟨mu1, env, S1, he.mono e1, w1, ds, S2, h2, fun vs mu2 H2 e2 w2 r2 => k _ mu2 H2 (e1.trans e2) w2 (.cons (RD.mono e2 _ _ r1) r2)⟩⟩
theorem s_no : PO X none (tO X.K (evO c .no)) := by
  intro pins s σ H Q I ⟨mu, env, S, he, hw, d, S', hf, k⟩
  rw [evO] at hf
  cases hf
  exact po_none pins s σ H Q I (k mu H .refl hw)
theorem s_yes {e : Expr} {x : Ex} (ha : PE X e (tE X.K (ev c x))) : PO X (some e) (tO X.K (evO c (.yes x))) := by
  intro pins s σ H Q I ⟨mu, env, S, he, hw, d, S', hf, k⟩
  rw [evO] at hf
  obtain ⟨⟨da, S1⟩, h1, hf⟩ := Option.bind_eq_some_iff.mp hf
  cases da with
  | int i =>
    cases hf
    refine po_some ha pins s σ H Q I ⟨mu, env, S, he, hw, _, _, h1, fun x mu1 H1 e1 w1 r1 => ?_⟩
    cases int_at r1
    exact ⟨i, rfl, k mu1 H1 e1 w1⟩
  | _ => cases hf
theorem star_plain {pos : Pos} {env : Env} : ∀ {es : List Expr}, es.all notStar = true → (backTo pos (starEach es env)).any (·.1) = false
  | [], _ => rfl
  | e :: es, h => by
    rw [List.all_cons, Bool.and_eq_true] at h
    rw [star_ok h.1]
    have := star_plain (pos := pos) (env := env) h.2
    simpa [backTo] using this
end
end PF
namespace PF
open PySem PySem.Spec PyProof.Rows L2
section
variable {X : Cx} {T : Tab} {W k : Nat} {nm : List (Str × NameKind)} {pins : List (Addr × Obj)} {σ : St} {H : Hp} {s : Shared} {mu : List Addr} {S : Sto} {c : Cl}
theorem kit_of (K : Frag) {t u : String} (ht : t = "NoneType" ∨ t = "bool" ∨ t = "int" ∨ t = "str" ∨ t = "tuple" ∨ t = "list" ∨ t = "dict") (hu : u = "int" ∨ u = "bool" ∨ u = "str" ∨ u = "tuple" ∨ u = "list") :
    PySem.W.kitOne K (.type t) (.type u) = some (decide (t = u) || (decide (t = "bool") && decide (u = "int"))) := by
  rcases ht with rfl | rfl | rfl | rfl | rfl | rfl | rfl <;> rcases hu with rfl | rfl | rfl | rfl | rfl <;> first | rfl | (with_unfolding_all rfl)
theorem isi_ok {d : D} {t u : String} {x : V} {v : Value} {Q : VK} (I : Inv X pins σ H s) (w : WR X.K mu H S) (h : tyD S d = some t) (r : RD X.K mu H d x) (rx : RelV x v) (hu : u = "int" ∨ u = "bool" ∨ u = "str" ∨ u = "tuple" ∨ u = "list")
    (k : Q (.bl (decide (t = u) || (decide (t = "bool") && decide (u = "int")))) H) : wpAny (model X.prog X.w) X.A (call (.builtin "isinstance") [v, .type u]) (EP X pins σ Q) X.xe s := by
  have fin : ∀ {b : Bool}, b = (decide (t = u) || (decide (t = "bool") && decide (u = "int"))) → ∀ tk, EP X pins σ Q (.bool b) { s with toks := tk } := fun e tk => by subst e; exact ⟨.bl _, H, I.tok _, rfl, k⟩
  cases d with
  | non => cases h; cases non_at r; exact isinst_ok I rx .non (kit_of X.K (by decide) hu) (fin rfl)
  | bl y => cases h; cases bl_at r; exact isinst_ok I rx (.bl y) (kit_of X.K (by decide) hu) (fin rfl)
  | int y => cases h; cases int_at r; exact isinst_ok I rx (.int y) (kit_of X.K (by decide) hu) (fin rfl)
  | str y => cases h; cases str_at r; exact isinst_ok I rx (.str y) (kit_of X.K (by decide) hu) (fin rfl)
  | tup ds =>
    cases h
    obtain ⟨a, xs, rfl, hq, _⟩ := r.tup_at
    cases (show v = Value.ref a from rx)
    obtain ⟨its, _, ⟨o, h1, h2, _⟩, _⟩ := I.tuple hq
    exact PySem.W.kia_one PySem.W.kitx_tuple I.kIn ⟨o, h1, h2⟩ (kit_of X.K (by decide) hu) (fun z => nomatch z) (fin rfl)
  | lst ds =>
    cases h
    obtain ⟨a, xs, rfl, hq, _⟩ := r.lst_at
    cases (show v = Value.ref a from rx)
    obtain ⟨its, _, ⟨o, n, h1, h2, _, _⟩, _⟩ := I.list hq
    exact PySem.W.kia_one PySem.W.kitx_list I.kIn ⟨o, h1, h2⟩ (kit_of X.K (by decide) hu) (fun z => nomatch z) (fin rfl)
  | ref n =>
    rw [tyD] at h
    cases q : S[n]? with
    | none => rw [q] at h; cases h
    | some o =>
      rw [q] at h
      cases o with
      | dk es =>
        cases h
        obtain ⟨a, e1, xs, e2, _⟩ := w.get q
        rw [RD] at r
        obtain ⟨b, e3, rfl⟩ := r
        rw [e1] at e3; cases e3
        exact isinst_ok I rx (.dK e2) (kit_of X.K (by decide) hu) (fin rfl)
      | dt es =>
        cases h
        obtain ⟨a, e1, xs, e2, _⟩ := w.get q
        rw [RD] at r
        obtain ⟨b, e3, rfl⟩ := r
        rw [e1] at e3; cases e3
        exact isinst_ok I rx (.dT e2) (kit_of X.K (by decide) hu) (fin rfl)
      | lst es =>
        cases h
        obtain ⟨a, e1, xs, e2, _⟩ := w.get q
        rw [RD] at r
        obtain ⟨b, e3, rfl⟩ := r
        rw [e1] at e3; cases e3
        cases (show v = Value.ref a from rx)
        obtain ⟨its, _, ⟨o, n, h1, h2, _, _⟩, _⟩ := I.list (SqL.of e2)
        exact PySem.W.kia_one PySem.W.kitx_list I.kIn ⟨o, h1, h2⟩ (kit_of X.K (by decide) hu) (fun z => nomatch z) (fin rfl)
theorem blt_gl {x : Str} {u : Value} {pos : Pos} {Q : Value → Shared → Prop} (I : Inv X pins σ H s) (hn : nameOk x = true) (hg : X.env.scope.names.lookup x = some .globalImplicit) (hm : X.mg x = none) (hv : bootBuiltins x = some u) (h : Q u s) :
    wpAny (model X.prog X.w) X.A (eval (.Name x pos) X.env) Q X.xe s := ld_blt I hg hm hv h (nameOk_d hn).2.2 (nameOk_d hn).1
theorem boot_isinstance' : bootBuiltins "isinstance" = some (.builtin "isinstance") := by decide +kernel
theorem boot_ty : bootBuiltins "int" = some (.type "int") ∧ bootBuiltins "bool" = some (.type "bool") ∧ bootBuiltins "str" = some (.type "str") ∧ bootBuiltins "tuple" = some (.type "tuple") ∧ bootBuiltins "list" = some (.type "list") := by
  refine ⟨?_, ?_, ?_, ?_, ?_⟩ <;> decide +kernel
theorem isiTy_mem {ty : Str} {u : String} (h : isiTys.lookup ty = some u) : ty ∈ blts ∧ nameOk ty = true ∧ bootBuiltins ty = some (.type u) ∧ (u = "int" ∨ u = "bool" ∨ u = "str" ∨ u = "tuple" ∨ u = "list") := by
  have hm := PySem.mem_of_lookup h
  obtain ⟨b1, b2, b3, b4, b5⟩ := boot_ty
  simp only [isiTys, List.mem_cons, Prod.mk.injEq, List.not_mem_nil, or_false] at hm
  rcases hm with ⟨rfl, rfl⟩ | ⟨rfl, rfl⟩ | ⟨rfl, rfl⟩ | ⟨rfl, rfl⟩ | ⟨rfl, rfl⟩
  · exact ⟨by decide +kernel, by decide +kernel, b1, by decide⟩
  · exact ⟨by decide +kernel, by decide +kernel, b2, by decide⟩
  · exact ⟨by decide +kernel, by decide +kernel, b3, by decide⟩
  · exact ⟨by decide +kernel, by decide +kernel, b4, by decide⟩
  · exact ⟨by decide +kernel, by decide +kernel, b5, by decide⟩
theorem s_isi {a : Expr} {ty : Str} {p p2 pos : Pos} {xa : Ex} {u : String} (ok : XOk X T W k nm) (ha : PE X a (tE X.K (ev c xa))) (hs : notStar a = true) (hg : X.env.scope.names.lookup ("isinstance" : Str) = some .globalImplicit)
    (hg2 : X.env.scope.names.lookup ty = some .globalImplicit) (hu : isiTys.lookup ty = some u) : PE X (.Call (.Name "isinstance" p) [a, .Name ty p2] [] pos) (tE X.K (ev c (.isi xa ty))) := by
  obtain ⟨h1, h2, h3, h4⟩ := isiTy_mem hu
  have pty : PE X (.Name ty p2) (fun _ H Q => Q (.ty u) H) := fun pins s σ H Q I q => blt_gl I h2 hg2 (ok.bl ty h1) h3 ⟨.ty u, H, I, rfl, q⟩
  intro pins s σ H Q I ⟨mu, env, S, he, hw, d, S', hf, k⟩
  rw [ev] at hf
  obtain ⟨⟨da, S1⟩, e1, hf⟩ := Option.bind_eq_some_iff.mp hf
  obtain ⟨b, e2, e⟩ := Option.map_eq_some_iff.mp hf
  cases e
  rw [isiD, hu] at e2
  obtain ⟨t, e2, e3⟩ := Option.map_eq_some_iff.mp (show (tyD S1 da).map _ = some b from e2)
  have cr : CallR X (.builtin "isinstance") (fun xs H Q => ∃ x mu1, xs = [x, .ty u] ∧ WR X.K mu1 H S1 ∧ RD X.K mu1 H da x ∧ Q (.bl b) H) := by
    intro pins s σ H xs us Q I r q
    obtain ⟨x, mu1, rfl, w1, r1, q⟩ := q
    obtain ⟨v, w', rfl, rx, rt⟩ := vals2 r
    cases (show w' = Value.type u from rt)
    exact isi_ok I w1 e2 r1 rx h4 (by rw [e3]; exact q)
  refine pe_callB cr hg (ok.bl _ (by decide +kernel)) boot_isinstance' (pa_cons ha (pa_cons pty pa_nil rfl) (star_ok hs)) (by decide) (by decide) (star_ok hs) rfl pins s σ H Q I ?_
  exact ⟨mu, env, S, he, hw, da, S1, e1, fun x mu1 H1 x1 w1 r1 => ⟨x, mu1, rfl, w1, r1, k _ mu1 H1 x1 w1 rd_bl⟩⟩
theorem leastI_is : ∀ (r : List Int) (i : Int), leastI i r ∈ i :: r ∧ ∀ a ∈ i :: r, leastI i r ≤ a
  | [], i => ⟨by simp [leastI], by simp [leastI]⟩
  | b :: r, i => by
    have e : leastI i (b :: r) = leastI (if b < i then b else i) r := rfl
    obtain ⟨h1, h2⟩ := leastI_is r (if b < i then b else i)
    rw [e]
    refine ⟨?_, fun a ha => ?_⟩
    · rcases List.mem_cons.mp h1 with h | h
      · rw [h]; split <;> simp
      · exact List.mem_cons_of_mem _ (List.mem_cons_of_mem _ h)
    · have h3 := h2 _ (List.mem_cons_self)
      have h4 : (if b < i then b else i) ≤ i ∧ (if b < i then b else i) ≤ b := by split <;> omega
      rcases List.mem_cons.mp ha with h | h
      · subst h; exact Int.le_trans h3 h4.1
      · rcases List.mem_cons.mp h with h | h
        · subst h; exact Int.le_trans h3 h4.2
        · exact h2 a (List.mem_cons_of_mem _ h)
theorem least_one {i M : Int} {r : List Int} (h : M ∈ i :: r) (h2 : ∀ a ∈ i :: r, M ≤ a) : M = leastI i r := by
  obtain ⟨a, b⟩ := leastI_is r i
  have := h2 _ a
  have := b _ h
  omega
theorem intsD_rd {K : Frag} : ∀ {ds : List D} {is : List Int} {xs : List V}, intsD ds = some is → RDs K mu H ds xs → xs = is.map V.int
  | [], is, xs, h, r => by cases h; rw [r.cases_nil]; rfl
  | d :: ds, is, xs, h, r => by
    obtain ⟨x, xr, rfl, r1, r2⟩ := r.cases_cons
    cases d with
    | int i =>
      obtain ⟨js, h1, rfl⟩ := Option.map_eq_some_iff.mp h
      cases int_at r1
      rw [intsD_rd h1 r2]; rfl
    | _ => cases h
theorem boolsD_rd {K : Frag} : ∀ {ds : List D} {bs : List Bool} {xs : List V}, boolsD ds = some bs → RDs K mu H ds xs → xs = bs.map V.bl
  | [], is, xs, h, r => by cases h; rw [r.cases_nil]; rfl
  | d :: ds, is, xs, h, r => by
    obtain ⟨x, xr, rfl, r1, r2⟩ := r.cases_cons
    cases d with
    | bl i =>
      obtain ⟨js, h1, rfl⟩ := Option.map_eq_some_iff.mp h
      cases bl_at r1
      rw [boolsD_rd h1 r2]; rfl
    | _ => cases h
theorem vals_bools : ∀ {bs : List Bool} {us : List Value}, Vals (bs.map V.bl) us → us = bs.map Value.bool
  | [], _, h => by cases h; rfl
  | b :: bs, _, h => by
    cases h with
    | cons r t => rw [vals_bools t]; cases r; rfl
theorem all_range (bs : List Bool) : ∀ (g : Nat → Bool), (∀ (i : Nat) (h : i < bs.length), g i = bs[i]) → (List.range bs.length).all g = bs.all id ∧ (List.range bs.length).any g = bs.any id := by
  intro g hg
  have e : (List.range bs.length).map g = bs := by
    apply List.ext_getElem
    · simp
    · intro i h1 h2; simp at h1 ⊢; exact hg i h1
  constructor
  · have : ((List.range bs.length).map g).all id = (List.range bs.length).all g := by rw [List.all_map]; rfl
    rw [← this, e]
  · have : ((List.range bs.length).map g).any id = (List.range bs.length).any g := by rw [List.any_map]; rfl
    rw [← this, e]
theorem call_allany (calm : X.calm = true) {l : Addr} {bs : List Bool} {Q : VK} (I : Inv X pins σ H s) (hq : SqL X.K H l (bs.map V.bl)) :
    (Q (.bl (bs.all id)) H → wpAny (model X.prog X.w) X.A (call (.builtin "all") [.ref l]) (EP X pins σ Q) X.xe s) ∧ (Q (.bl (bs.any id)) H → wpAny (model X.prog X.w) X.A (call (.builtin "any") [.ref l]) (EP X pins σ Q) X.xe s) := by
  obtain ⟨its, rv, pl, hz⟩ := I.list hq
  have ei := vals_bools rv
  subst ei
  have hl := pl.isList
  have hne : l ≠ s.heap.objs.size := by obtain ⟨o, e, _⟩ := hl; exact Nat.ne_of_lt (Heap.lt_size e)
  have hlen : (bs.map Value.bool).toArray.size = bs.length := by simp
  have old : ∀ h' : Heap, (∀ b o, b ∉ [s.heap.objs.size] → (s.heap.push { cls := .type "list_iterator", data := .fields #[.ref l, .int 0 0] }).get? b = some o → h'.get? b = some o) → ∀ b o, s.heap.get? b = some o → h'.get? b = some o :=
    fun h' hk b o e => hk b o (by simpa using Nat.ne_of_lt (Heap.lt_size e)) (Heap.get?_push_of_some _ e)
  have tr : TruthOf X.prog X.w X.A.in1 (fun i v => (bs.map Value.bool).toArray[i]? = some v) (fun i => (bs[i]?).getD false) := fun i v s Q E hp hQ => by
    simp only [List.getElem?_toArray, List.getElem?_map] at hp
    obtain ⟨b, h1, h2⟩ := Option.map_eq_some_iff.mp hp
    subst h2
    have e : (fun i => (bs[i]?).getD false) i = b := by show (bs[i]?).getD false = b; rw [h1]; rfl
    rw [e] at hQ
    exact wpAny_truthy_bool hQ
  obtain ⟨r1, r2⟩ := all_range bs (fun i => (bs[i]?).getD false) (fun i h => by simp [h])
  have st0 : (s.heap.push { cls := .type "list_iterator", data := .fields #[.ref l, .int 0 0] }).IsListIter s.heap.objs.size l 0 ∧ (s.heap.push { cls := .type "list_iterator", data := .fields #[.ref l, .int 0 0] }).IsList l (bs.map Value.bool).toArray := ⟨⟨_, Heap.get?_push_size _ rfl, rfl, rfl⟩, hl.push _⟩
  refine ⟨fun q => ?_, fun q => ?_⟩
  · refine call_all_walk (wpAny_pyIter_list hl ⟨_, _, _, _, _, _, _, rfl, Walks.list (A := X.A.in1) (I.ok.hd calm) _ l hne _, st0, tr, fun h' tk hk => ?_⟩)
    rw [hlen, r1]
    exact ⟨.bl _, H, I.kept (old h' hk), rfl, q⟩
  · refine call_any_walk (wpAny_pyIter_list hl ⟨_, _, _, _, _, _, _, rfl, Walks.list (A := X.A.in1) (I.ok.hd calm) _ l hne _, st0, tr, fun h' tk hk => ?_⟩)
    rw [hlen, r2]
    exact ⟨.bl _, H, I.kept (old h' hk), rfl, q⟩
theorem call_minL (calm : X.calm = true) {l : Addr} {i : Int} {r : List Int} {Q : VK} (I : Inv X pins σ H s) (hq : SqL X.K H l ((i :: r).map V.int)) (q : Q (.int (leastI i r)) H) : wpAny (model X.prog X.w) X.A (call (.builtin "min") [.ref l]) (EP X pins σ Q) X.xe s := by
  obtain ⟨its, rv, pl, hz⟩ := I.list hq
  have hi : IntsAre its (i :: r) := intsAre_of rv
  obtain ⟨xs, e⟩ := hi.allInts.items
  have hns : (i :: r) = xs.toList.map (·.1) := by rw [← hi.numsOf, ← nums_intItems, ← e]
  have hsz : 0 < xs.size := by
    have h3 := congrArg List.length hns
    rw [List.length_cons, List.length_map] at h3; simp only [Array.length_toList] at h3; omega
  have hl := pl.isList
  rw [e] at hl
  refine min_intList (I.ok.hd calm) hl hsz fun v h' tk hv hk => ?_
  obtain ⟨t, rfl⟩ := intItems_at hv
  obtain ⟨h1, h2⟩ := argBest_lt (numAt xs) (xs.size - 1)
  refine ⟨.int _, H, I.kept (t' := tk) hk, ⟨t, rfl⟩, ?_⟩
  have key : numAt xs (argBest (fun i j => decide (numAt xs i < numAt xs j)) (xs.size - 1)) = leastI i r := by
   refine least_one (i := i) (r := r) ?_ fun a ha => ?_
   · rw [hns, numAt_eq]; exact getD_mem (by rw [List.length_map, Array.length_toList]; omega)
   · rw [hns] at ha
     obtain ⟨j, hj, rfl⟩ := mem_getD ha
     rw [List.length_map, Array.length_toList] at hj
     rw [← numAt_eq]; exact h2 j (by omega)
  rw [key]
  exact q
noncomputable def biV : Bi → Value
  | .len => .builtin "len"
  | .abs => .builtin "abs"
  | .min => .builtin "min"
  | .max => .builtin "max"
  | .int => .type "int"
  | .tuple => .type "tuple"
  | .all => .builtin "all"
  | .any => .builtin "any"
  | .divmod => .builtin "divmod"
  | .bool => .type "bool"
  | .str => .type "str"
theorem bi_boot {f : Str} {b : Bi} (h : biOf.lookup f = some b) : bootBuiltins f = some (biV b) ∧ f ∈ blts := by
  have hm := PySem.mem_of_lookup h
  simp only [biOf, List.mem_cons, Prod.mk.injEq, List.not_mem_nil, or_false] at hm
  rcases hm with ⟨rfl, rfl⟩ | ⟨rfl, rfl⟩ | ⟨rfl, rfl⟩ | ⟨rfl, rfl⟩ | ⟨rfl, rfl⟩ | ⟨rfl, rfl⟩ | ⟨rfl, rfl⟩ | ⟨rfl, rfl⟩ | ⟨rfl, rfl⟩ | ⟨rfl, rfl⟩ | ⟨rfl, rfl⟩ <;> exact ⟨by decide +kernel, by decide +kernel⟩
theorem bi_fn (b : Bi) : (∃ i, biV b = .builtin i) ∨ ∃ t, biV b = .type t := by
  cases b <;> first | exact .inl ⟨_, rfl⟩ | exact .inr ⟨_, rfl⟩
theorem blt_ok (calm : X.calm = true) {b : Bi} {ds : List D} {d : D} (h : bltD S b ds = some d) :
    CallR X (biV b) (fun xs H Q => ∃ mu1, WR X.K mu1 H S ∧ RDs X.K mu1 H ds xs ∧ ∀ v mu' H', Ext mu1 H mu' H' → WR X.K mu' H' S → RD X.K mu' H' d v → Q v H') := by
  intro pins s σ H xs us Q I r ⟨mu1, w, rs, q⟩
  have q0 : ∀ v, RD X.K mu1 H d v → Q v H := fun v rv => q v mu1 H .refl w rv
  have lenS : ∀ {d0 : D} {ls : List D}, ds = [d0] → items S d0 = some ls → d = .int ls.length → wpAny (model X.prog X.w) X.A (call (.builtin "len") us) (EP X pins σ Q) X.xe s := fun {d0 ls} e0 hi e => by
    subst e0
    obtain ⟨x, r', rfl, rx, rn⟩ := rs.cases_cons
    cases rn.cases_nil
    obtain ⟨a, ys, rfl, hq, r2⟩ := items_at w hi rx
    refine call_len_seq pins s σ H _ us Q I r ⟨a, ys, rfl, hq, q0 _ ?_⟩
    rw [e, r2.length]; exact rd_int
  have one : ∀ {d0 : D}, ds = [d0] → ∃ x u, xs = [x] ∧ us = [u] ∧ RD X.K mu1 H d0 x ∧ RelV x u := fun {d0} e => by
    subst e
    obtain ⟨x, r', rfl, rx, rn⟩ := rs.cases_cons
    cases rn.cases_nil
    obtain ⟨u, rfl, ru⟩ := vals1 r
    exact ⟨x, u, rfl, rfl, rx, ru⟩
  have ints2 : ∀ {i j : Int}, ds = [.int i, .int j] → xs = [.int i, .int j] := fun {i j} e => by
    subst e
    obtain ⟨x, r', rfl, rx, rn⟩ := rs.cases_cons
    obtain ⟨y, r', rfl, ry, rn⟩ := rn.cases_cons
    cases rn.cases_nil
    cases int_at rx
    cases int_at ry
    rfl
  match ds with
  | [] => cases h
  | [d0, d1] =>
    match d0, d1 with
    | .int i, .int j =>
      cases ints2 rfl
      cases b <;> first | (exfalso; cases h; done) | skip
      · cases h; exact call_min2 calm pins s σ H _ us Q I r ⟨i, j, rfl, q0 _ rd_int⟩
      · cases h; exact call_max2 calm pins s σ H _ us Q I r ⟨i, j, rfl, q0 _ rd_int⟩
      · replace h : (if 0 < j ∧ j < 1073741824 then some (D.tup [.int (i / j), .int (i % j)]) else none) = some d := h
        split at h
        · rename_i hz
          cases h
          exact call_divmod pins s σ H _ us Q I r ⟨i, j, rfl, hz, fun p hp => q _ mu1 _ (Ext.new w hp) (w.keep hp) (rd_tup w hp (.cons rd_int (.cons rd_int .nil)))⟩
        · cases h
    | .int i, .non => cases h
    | .int i, .bl _ => cases h
    | .int i, .str _ => cases h
    | .int i, .tup _ => cases h
    | .int i, .lst _ => cases h
    | .int i, .ref _ => cases h
    | .non, _ => cases h
    | .bl _, _ => cases h
    | .str _, _ => cases h
    | .tup _, _ => cases h
    | .lst _, _ => cases h
    | .ref _, _ => cases h
  | d0 :: d1 :: d2 :: r3 => cases h
  | [d0] =>
    obtain ⟨x, u, rfl, rfl, rx, ru⟩ := one rfl
    cases b with
    | len =>
      cases d0 with
      | str y =>
        replace h : (if y.length ≤ line then some (D.int y.length) else none) = some d := h
        cases str_at rx
        split at h
        · rename_i hz
          cases h
          exact call_len_str pins s σ H _ _ Q I r ⟨y, rfl, by rw [line_eq]; exact hz, q0 _ rd_int⟩
        · cases h
      | tup l => cases h; exact lenS rfl rfl rfl
      | lst l => cases h; exact lenS rfl rfl rfl
      | ref l =>
        replace h : (match S[l]? with
          | some (.lst ds) => some (D.int ds.length)
          | some (.dt kvs) => some (D.int kvs.length)
          | _ => none) = some d := h
        cases q9 : S[l]? with
        | none => rw [q9] at h; cases h
        | some ob =>
          rw [q9] at h
          cases ob with
          | lst ls =>
            cases h
            exact lenS rfl (by rw [items, q9]) rfl
          | dt kvs =>
            cases h
            obtain ⟨a, e3, us, e4, ek, _⟩ := w.get q9
            rw [RD] at rx
            obtain ⟨a', e5, rfl⟩ := rx
            rw [e3] at e5; cases e5
            cases ru
            have hl : us.length = kvs.length := by have := congrArg List.length ek; simpa using this
            refine len_dt I e4 (fun t s' I' => ⟨.int us.length, H, I', ⟨t, rfl⟩, ?_⟩)
            rw [hl]
            exact q0 _ rd_int
          | dk kvs => cases h
      | _ => cases h
    | abs =>
      cases d0 with
      | int i =>
        cases h
        cases int_at rx
        exact call_abs pins s σ H _ _ Q I r ⟨i, rfl, q0 _ rd_int⟩
      | _ => cases h
    | max => cases d0 <;> cases h
    | divmod => cases d0 <;> cases h
    | str =>
      cases d0 with
      | int i =>
        replace h : (if i.natAbs < 2 ^ 1900 then some (D.str (toString i)) else none) = some d := h
        cases int_at rx
        split at h
        · rename_i hz
          cases h
          refine call_str_int pins s σ H _ _ Q I r ⟨i, rfl, ?_, q0 _ rd_str⟩
          by_cases h0 : i.natAbs = 0
          · rw [h0]; decide
          · have := (Nat.log2_lt h0).mpr hz
            omega
        · cases h
      | _ => cases h
    | int =>
      cases d0 with
      | int i =>
        cases h
        cases int_at rx
        exact call_int1 pins s σ H _ _ Q I r (.inl ⟨i, rfl, q0 _ rd_int⟩)
      | bl i =>
        cases h
        cases bl_at rx
        exact call_int1 pins s σ H _ _ Q I r (.inr ⟨i, rfl, q0 _ rd_int⟩)
      | _ => cases h
    | bool =>
      cases d0 with
      | int i =>
        cases h
        cases int_at rx
        exact call_bool1 pins s σ H _ _ Q I r (.inl ⟨i, rfl, q0 _ rd_bl⟩)
      | bl i =>
        cases h
        cases bl_at rx
        exact call_bool1 pins s σ H _ _ Q I r (.inr ⟨i, rfl, q0 _ rd_bl⟩)
      | _ => cases h
    | tuple =>
      by_cases ht : ∃ es, d0 = .tup es
      · obtain ⟨es, rfl⟩ := ht
        cases h
        obtain ⟨a, ys, rfl, hq, r2⟩ := id rx.tup_at
        exact call_tuple_of pins s σ H _ _ Q I r ⟨a, ys, rfl, .inr ⟨hq, q0 _ rx⟩⟩
      · replace h : (lsOf S d0).map D.tup = some d := by
          cases d0 <;> first | exact h | (exact absurd ⟨_, rfl⟩ ht)
        obtain ⟨ls, h1, h2⟩ := Option.map_eq_some_iff.mp h
        subst h2
        obtain ⟨a, ys, rfl, hq, r2⟩ := lsOf_at w h1 rx
        exact call_tuple_of pins s σ H _ _ Q I r ⟨a, ys, rfl, .inl ⟨hq, fun l hl => q _ mu1 _ (Ext.new w hl) (w.keep hl) (rd_tup w hl r2)⟩⟩
    | min =>
      replace h : ((lsOf S d0).bind fun ds => (intsD ds).bind fun is => match is with
        | [] => none
        | i :: r => some (D.int (leastI i r))) = some d := by cases d0 <;> exact h
      obtain ⟨ls, h1, h⟩ := Option.bind_eq_some_iff.mp h
      obtain ⟨is, h2, h⟩ := Option.bind_eq_some_iff.mp h
      obtain ⟨a, ys, rfl, hq, r2⟩ := lsOf_at w h1 rx
      cases ru
      rw [intsD_rd h2 r2] at hq
      cases is with
      | nil => cases h
      | cons i r => cases h; exact call_minL calm I hq (q0 _ rd_int)
    | all =>
      replace h : ((lsOf S d0).bind fun ds => (boolsD ds).map fun bs => D.bl (bs.all id)) = some d := by cases d0 <;> exact h
      obtain ⟨ls, h1, h⟩ := Option.bind_eq_some_iff.mp h
      obtain ⟨bs, h2, h3⟩ := Option.map_eq_some_iff.mp h
      rw [← h3] at q0
      obtain ⟨a, ys, rfl, hq, r2⟩ := lsOf_at w h1 rx
      cases ru
      rw [boolsD_rd h2 r2] at hq
      exact (call_allany calm I hq).1 (q0 _ rd_bl)
    | any =>
      replace h : ((lsOf S d0).bind fun ds => (boolsD ds).map fun bs => D.bl (bs.any id)) = some d := by cases d0 <;> exact h
      obtain ⟨ls, h1, h⟩ := Option.bind_eq_some_iff.mp h
      obtain ⟨bs, h2, h3⟩ := Option.map_eq_some_iff.mp h
      rw [← h3] at q0
      obtain ⟨a, ys, rfl, hq, r2⟩ := lsOf_at w h1 rx
      cases ru
      rw [boolsD_rd h2 r2] at hq
      exact (call_allany calm I hq).2 (q0 _ rd_bl)
noncomputable def blV : Bl → Value
  | .list => .type "list"
  | .sorted => .builtin "sorted"
theorem bl_boot {f : Str} {b : Bl} (h : blOf.lookup f = some b) : bootBuiltins f = some (blV b) ∧ f ∈ blts := by
  have hm := PySem.mem_of_lookup h
  simp only [blOf, List.mem_cons, Prod.mk.injEq, List.not_mem_nil, or_false] at hm
  rcases hm with ⟨rfl, rfl⟩ | ⟨rfl, rfl⟩ <;> exact ⟨by decide +kernel, by decide +kernel⟩
theorem insI_perm (x : Int) : ∀ l : List Int, (insI x l).Perm (x :: l)
  | [] => .refl _
  | y :: r => by
    rw [insI]
    split
    · exact .refl _
    · exact ((insI_perm x r).cons y).trans (.swap x y r)
theorem isort_perm : ∀ l : List Int, (isort l).Perm l
  | [] => .refl _
  | x :: r => by
    rw [isort]
    exact (insI_perm x _).trans ((isort_perm r).cons x)
theorem insI_sorted (x : Int) : ∀ l : List Int, l.Pairwise (· ≤ ·) → (insI x l).Pairwise (· ≤ ·)
  | [], _ => by rw [insI]; simp
  | y :: r, h => by
    rw [insI]
    rw [List.pairwise_cons] at h
    split
    · rename_i hx
      rw [List.pairwise_cons, List.pairwise_cons]
      refine ⟨fun z hz => ?_, h⟩
      rcases List.mem_cons.mp hz with rfl | hz
      · exact hx
      · exact Int.le_trans hx (h.1 z hz)
    · rename_i hx
      rw [List.pairwise_cons]
      refine ⟨fun z hz => ?_, insI_sorted x r h.2⟩
      have := (insI_perm x r).mem_iff.mp hz
      rcases List.mem_cons.mp this with rfl | hz
      · omega
      · exact h.1 z hz
theorem isort_sorted : ∀ l : List Int, (isort l).Pairwise (· ≤ ·)
  | [] => .nil
  | x :: r => by rw [isort]; exact insI_sorted x _ (isort_sorted r)
theorem ints_rds {K : Frag} : ∀ l : List Int, RDs K mu H (l.map D.int) (l.map V.int)
  | [] => .nil
  | x :: l => .cons rd_int (ints_rds l)
theorem insR_perm (x : List Str) : ∀ l, (insR x l).Perm (x :: l)
  | [] => .refl _
  | y :: r => by
    rw [insR]
    split
    · exact ((insR_perm x r).cons y).trans (List.Perm.swap x y r)
    · exact .refl _
theorem sortR_perm : ∀ l, (sortR l).Perm l
  | [] => .refl _
  | x :: r => by rw [sortR]; exact (insR_perm x _).trans ((sortR_perm r).cons x)
theorem insR_sorted (x : List Str) : ∀ l : List (List Str), (l.Pairwise fun a b => TS.lexB b a = false) → (insR x l).Pairwise fun a b => TS.lexB b a = false
  | [], _ => by rw [insR]; exact List.pairwise_singleton _ _
  | y :: r, h => by
    rw [insR]
    rw [List.pairwise_cons] at h
    split
    · rename_i hy
      rw [List.pairwise_cons]
      refine ⟨fun z hz => ?_, insR_sorted x r h.2⟩
      rcases List.mem_cons.mp ((insR_perm x r).mem_iff.mp hz) with rfl | hz
      · cases q : TS.lexB z y with
        | false => rfl
        | true => have := TS.lex_tr hy q; rw [TS.lex_irr] at this; cases this
      · exact h.1 z hz
    · rename_i hy
      have hy' : TS.lexB y x = false := by simpa using hy
      rw [List.pairwise_cons, List.pairwise_cons]
      refine ⟨fun z hz => ?_, h.1, h.2⟩
      rcases List.mem_cons.mp hz with rfl | hz
      · exact hy'
      · cases q : TS.lexB z x with
        | false => rfl
        | true =>
          have hzy := h.1 z hz
          cases q2 : TS.lexB x y with
          | true => rw [TS.lex_tr q q2] at hzy; cases hzy
          | false => rw [TS.lex_tri hy' q2, q] at hzy; cases hzy
theorem sortR_sorted : ∀ l, (sortR l).Pairwise fun a b => TS.lexB b a = false
  | [] => List.Pairwise.nil
  | x :: r => by rw [sortR]; exact insR_sorted x _ (sortR_sorted r)
theorem rows_same : ∀ {l m : List (List Str)}, l.Perm m → (l.Pairwise fun a b => TS.lexB b a = false) → (m.Pairwise fun a b => TS.lexB b a = false) → l = m
  | [], m, p, _, _ => (List.Perm.nil_eq p)
  | x :: l, [], p, _, _ => absurd p.length_eq (by simp)
  | x :: l, y :: m, p, h, g => by
    rw [List.pairwise_cons] at h g
    have e : x = y := by
      have hx : x ∈ y :: m := p.mem_iff.mp (List.mem_cons_self ..)
      have hy : y ∈ x :: l := p.mem_iff.mpr (List.mem_cons_self ..)
      rcases List.mem_cons.mp hx with e | hx
      · exact e
      · rcases List.mem_cons.mp hy with e | hy
        · exact e.symm
        · exact TS.lex_tri (g.1 x hx) (h.1 y hy)
    subst e
    rw [rows_same (List.Perm.cons_inv p) h.2 g.2]
theorem strsD_rd {K : Frag} : ∀ {ds : List D} {l : List Str} {xs : List V}, strsD ds = some l → RDs K mu H ds xs → xs = l.map V.str ∧ ds = l.map D.str
  | [], l, xs, h, r => by cases h; rw [r.cases_nil]; exact ⟨rfl, rfl⟩
  | d :: ds, l, xs, h, r => by
    obtain ⟨x, t, rfl, rx, rt⟩ := r.cases_cons
    cases d with
    | str z =>
      obtain ⟨l', h1, rfl⟩ := Option.map_eq_some_iff.mp (show (strsD ds).map (z :: ·) = some l from h)
      obtain ⟨e1, e2⟩ := strsD_rd h1 rt
      rw [RD] at rx
      rw [rx, e1, e2]
      exact ⟨rfl, rfl⟩
    | _ => cases h
theorem rowsD_rd {K : Frag} : ∀ {ds : List D} {ls : List (List Str)} {xs : List V}, rowsD ds = some ls → RDs K mu H ds xs → Rows (fun p l => SqT K H p (l.map V.str) ∧ RD K mu H (rowD l) (.ref p)) xs ls
  | [], ls, xs, h, r => by cases h; rw [r.cases_nil]; exact .nil
  | d :: ds, ls, xs, h, r => by
    obtain ⟨x, t, rfl, rx, rt⟩ := r.cases_cons
    cases d with
    | tup es =>
      obtain ⟨l, h1, h⟩ := Option.bind_eq_some_iff.mp (show ((strsD es).bind fun l => if l.isEmpty then none else (rowsD ds).map (l :: ·)) = some ls from h)
      split at h
      · cases h
      · rename_i hne
        obtain ⟨ls', h2, rfl⟩ := Option.map_eq_some_iff.mp h
        obtain ⟨a, xs', e, hq, rs⟩ := rx.tup_at
        obtain ⟨e1, e2⟩ := strsD_rd h1 rs
        subst e e1 e2
        exact .cons ⟨hq, rx⟩ (fun z => hne (by rw [z]; rfl)) (rowsD_rd h2 rt)
    | _ => cases h
theorem rows_len {G : Addr → List Str → Prop} : ∀ {xs : List V} {ls : List (List Str)}, Rows G xs ls → xs.length = ls.length
  | _, _, .nil => rfl
  | _, _, .cons _ _ t => by rw [List.length_cons, List.length_cons, rows_len t]
theorem rows_rds {K : Frag} : ∀ {xs : List V} {ls : List (List Str)}, Rows (fun p l => SqT K H p (l.map V.str) ∧ RD K mu H (rowD l) (.ref p)) xs ls → RDs K mu H (ls.map rowD) xs
  | _, _, .nil => .nil
  | _, _, .cons a _ t => .cons a.2 (rows_rds t)
theorem bltL_ok {b : Bl} {ds es : List D} (h : bltL S b ds = some es) :
    CallR X (blV b) (fun xs H Q => ∃ mu1, WR X.K mu1 H S ∧ RDs X.K mu1 H ds xs ∧ ∀ vs p, H p = none → RDs X.K mu1 H es vs → Q (.ref p) (upd H p (.lst vs))) := by
  intro pins s σ H xs us Q I r ⟨mu1, w, rs, q⟩
  cases b with
  | list =>
    match ds with
    | [] => cases h
    | _ :: _ :: _ => cases h
    | [d0] =>
      obtain ⟨x, r', rfl, rx, rn⟩ := rs.cases_cons
      cases rn.cases_nil
      obtain ⟨a, ys, rfl, hq, r2⟩ := items_at w (show items S d0 = some es from h) rx
      exact call_list_of pins s σ H _ us Q I r ⟨a, ys, rfl, hq, fun l hl => q _ l hl r2⟩
  | sorted =>
    match ds with
    | [] => cases h
    | _ :: _ :: _ => cases h
    | [d0] =>
      obtain ⟨x, r', rfl, rx, rn⟩ := rs.cases_cons
      cases rn.cases_nil
      obtain ⟨ls, h1, h⟩ := Option.bind_eq_some_iff.mp (show ((lsOf S d0).bind fun ds => match intsD ds with
        | some is => if is.length < 64 then some ((isort is).map D.int) else none
        | none => (rowsD ds).bind fun ls => if ls.length < 128 then some ((sortR ls).map rowD) else none) = some es from h)
      obtain ⟨a, ys, rfl, hq, r2⟩ := lsOf_at w h1 rx
      obtain ⟨u, rfl, ru⟩ := vals1 r
      cases ru
      cases h2 : intsD ls with
      | some is =>
        rw [h2] at h
        dsimp only at h
        split at h
        · rename_i hz
          cases h
          rw [intsD_rd h2 r2] at hq
          exact sorted_ok I hq hz (fun p hp => q _ p hp (ints_rds _)) (isort_perm is) (isort_sorted is)
        · cases h
      | none =>
        rw [h2] at h
        dsimp only at h
        obtain ⟨ms, h3, h⟩ := Option.bind_eq_some_iff.mp h
        split at h
        · rename_i hz
          cases h
          have rr := rowsD_rd h3 r2
          refine sortedT_ok (fun p l g => g.1) I hq rr (by rw [rows_len rr]; exact hz) (fun p zs ns hp e1 e2 e3 e4 => q zs p hp ?_)
          rw [← rows_same (e3.trans (sortR_perm ms).symm) e4 (sortR_sorted ms)]
          exact rows_rds e2
        · cases h
end
end PF
namespace HT
open PySem PyProof.Rows
section
variable {prog : Program} {w : World} {A : Around} {E : Value → Shared → Prop} {s : Shared}
theorem tupleIsExact_ {t : Addr} {items : Array Value} {Q : Bool → Shared → Prop} (ht : IsTup s.heap t items) (h : Q true s) : wpAny (model prog w) A (Builtin.Tuple.tupleIsExact (.ref t)) Q E s := by
  unfold Builtin.Tuple.tupleIsExact
  exact wpAny_bind (wpAny_typeOf ht.typeIs (wpAny_pure h))
theorem getItem_tuple_whole {t sl : Addr} {items : Array Value} {vl vu : Value} {lo hi : Option Int} {Q : Value → Shared → Prop} (ht : IsTup s.heap t items) (hs : s.heap.IsSliceOf sl vl vu .none) (pl : IsPart vl lo) (pu : IsPart vu hi)
    (hw : sIx items.size 0 lo = 0 ∧ sIx items.size items.size hi = items.size) (h : Q (.ref t) s) : wpAny (model prog w) A (getItem (.ref t) (.ref sl)) Q E s := by
  obtain ⟨os, hos, hcs, hds⟩ := id hs
  have hTs : s.TypeIs (.ref sl) "slice" := ⟨os, hos, hcs⟩
  unfold getItem
  try with_reducible refine wpAny_holding ?_
  first | refine wpAny_bind (wpAny_pure ?_) | skip
  refine wpAny_bind (wpAny_sequenceKey ht.typeIs (by decide) ?_)
  refine wpAny_bind (wpAny_callSpecial?_slot (name := Str.ofString "__getitem__") ht.typeIs PyProof.Rows.slot_tuple_getitem
    (wpAny_call_entry PyProof.Rows.slot_tuple_getitem ht.typeIs entry_tuple_getitem ?_ (args_tuple_getitem _ _)))
  show wpAny _ _ (Builtin.Tuple.tupleItemsOf (.ref t) >>= _) _ _ s
  refine wpAny_bind (tupleItemsOf_ ht ?_)
  refine wpAny_bind (wpAny_typeOf hTs ?_)
  rw [if_pos (by decide)]
  refine wpAny_bind (sliceApplied_gen hs pl pu ?_)
  have hyes : (((sIx items.size 0 lo : Nat) : Int) == 0 && (1 : Int) == 1 && (sIx items.size items.size hi - sIx items.size 0 lo) == items.size) = true := by
    rw [hw.1, hw.2]; simp
  show wpAny _ _ (if (((sIx items.size 0 lo : Nat) : Int) == 0 && (1 : Int) == 1 && (sIx items.size items.size hi - sIx items.size 0 lo) == items.size) = true then _ else _) _ _ s
  rw [if_pos hyes]
  refine wpAny_bind (tupleIsExact_ ht ?_)
  rw [if_pos rfl]
  exact wpAny_bind (wpAny_rule (wpAny_pure ⟨_, rfl, wpAny_pure h⟩))
end
end HT
namespace PF
open PySem PySem.Spec PyProof.Rows L2
section
variable {X : Cx} {T : Tab} {W k : Nat} {nm : List (Str × NameKind)} {pins : List (Addr × Obj)} {σ : St} {H : Hp} {s : Shared} {mu : List Addr} {S : Sto} {c : Cl}
theorem slice_ok {da d : D} : SlR X (fun x lo hi H Q => ∃ mu1, WR X.K mu1 H S ∧ RD X.K mu1 H da x ∧ sliceD S da lo hi = some d ∧ ∀ v mu' H', Ext mu1 H mu' H' → WR X.K mu' H' S → RD X.K mu' H' d v → Q v H') := by
  intro pins s σ H x v vl vu lo hi sl Q I rx hs pl pu ⟨mu1, w, r, h, q⟩
  have lst : ∀ {a : Addr} {xs : List V} {ds : List D}, x = .ref a → SqL X.K H a xs → RDs X.K mu1 H ds xs → d = .lst (cutD ds lo hi) → ∃ T id, typeLookup (.type T) "__getitem__" = pure (some (.builtin id)) ∧ s.TypeIs v T ∧ wpAny (model X.prog X.w) X.A (getItem v (.ref sl)) (EP X pins σ Q) X.xe s := fun {a xs ds} ex hq rs ed => by
    refine sl_list pins s σ H x v vl vu lo hi sl Q I rx hs pl pu ⟨a, xs, ex, hq, fun p hp => ?_⟩
    subst ed
    exact q _ mu1 _ (Ext.new w hp) (w.keep hp) (rd_lst w hp (cut_rd lo hi rs))
  cases da with
  | lst ds =>
    obtain ⟨a, xs, e, hq, rs⟩ := r.lst_at
    exact lst e hq rs (Option.some.inj h).symm
  | ref n =>
    obtain ⟨ds, h1, h2⟩ := Option.map_eq_some_iff.mp (show (items S (.ref n)).map _ = some d from h)
    obtain ⟨a, xs, e, hq, rs⟩ := items_at w h1 r
    rcases hq with hq | hq
    · exact lst e hq rs h2.symm
    · -- a list of the store is no tuple
      rw [RD] at r
      obtain ⟨b, e1, e2⟩ := r
      rw [e] at e2; cases e2
      rw [items] at h1
      cases q9 : S[n]? with
      | none => rw [q9] at h1; cases h1
      | some o =>
        rw [q9] at h1
        cases o with
        | dk es => cases h1
        | dt es => cases h1
        | lst es =>
          cases h1
          obtain ⟨b, e3, ys, e4, rs'⟩ := w.get q9
          rw [e1] at e3; cases e3
          exact lst e (SqL.of e4) rs' h2.symm
  | tup ds =>
    obtain ⟨a, xs, e, hq, rs⟩ := r.tup_at
    simp only [sliceD] at h
    split at h
    · rename_i hz
      cases h
      subst e
      cases rx
      obtain ⟨its, rv, ht, hz2⟩ := I.tuple hq
      have hlen : its.toArray.size = ds.length := by rw [List.size_toArray, rs.length]; exact rv.length.symm
      refine ⟨"tuple", _, PyProof.Rows.slot_tuple_getitem.lookup, ht.typeIs, ?_⟩
      refine HT.getItem_tuple_whole ht hs pl pu (by rw [hlen]; exact hz) ?_
      exact ⟨.ref a, H, I, rfl, q _ mu1 H .refl w r⟩
    · rename_i hz
      cases h
      refine sl_tup pins s σ H x v vl vu lo hi sl Q I rx hs pl pu ⟨a, xs, e, hq, by rw [← rs.length]; exact hz, fun p hp => ?_⟩
      exact q _ mu1 _ (Ext.new w hp) (w.keep hp) (rd_tup w hp (cut_rd lo hi rs))
  | _ => cases h
theorem s_slc {a : Expr} {lo hi : Option Expr} {pos p2 : Pos} {xa : Ex} {xl xh : Ox} (ha : PE X a (tE X.K (ev c xa))) (hl : PO X lo (tO X.K (evO c xl))) (hh : PO X hi (tO X.K (evO c xh))) :
    PE X (.Subscript a (.Slice lo hi none p2) pos) (tE X.K (ev c (.slc xa xl xh))) := by
  intro pins s σ H Q I ⟨mu, env, S, he, hw, d, S', hf, k⟩
  rw [ev] at hf
  obtain ⟨⟨da, S1⟩, h1, hf⟩ := Option.bind_eq_some_iff.mp hf
  obtain ⟨⟨l, S2⟩, h2, hf⟩ := Option.bind_eq_some_iff.mp hf
  obtain ⟨⟨u, S3⟩, h3, hf⟩ := Option.bind_eq_some_iff.mp hf
  obtain ⟨d', h4, e⟩ := Option.map_eq_some_iff.mp hf
  cases e
  refine pe_slice (slice_ok (S := S3) (da := da) (d := d)) ha hl hh pins s σ H Q I ?_
  exact ⟨mu, env, S, he, hw, da, S1, h1, fun x mu1 H1 e1 w1 r1 => ⟨mu1, env, S1, he.mono e1, w1, l, S2, h2, fun mu2 H2 e2 w2 => ⟨mu2, env, S2, he.mono (e1.trans e2), w2, u, S3, h3, fun mu3 H3 e3 w3 =>
    ⟨mu3, w3, RD.mono (e2.trans e3) _ _ r1, h4, fun v mu' H' e w r => k v mu' H' ((e1.trans e2).trans (e3.trans e)) w r⟩⟩⟩⟩
theorem s_blt {f : Str} {b : Bi} {e : Expr} {es : List Expr} {p pos : Pos} {xs : Exs} (ok : XOk X T W k nm) (hn : nameOk f = true) (hg : X.env.scope.names.lookup f = some .globalImplicit) (hf : biOf.lookup f = some b) (hs : (e :: es).all notStar = true)
    (ha : PA X (e :: es) (tA X.K (evs c xs))) : PE X (.Call (.Name f p) (e :: es) [] pos) (tE X.K (ev c (.blt b xs))) := by
  intro pins s σ H Q I ⟨mu, env, S, he, hw, d, S', h, k⟩
  rw [ev] at h
  obtain ⟨⟨ds, S1⟩, h1, h⟩ := Option.bind_eq_some_iff.mp h
  obtain ⟨d', h2, e'⟩ := Option.map_eq_some_iff.mp h
  cases e'
  have hs1 : notStar e = true := by rw [List.all_cons, Bool.and_eq_true] at hs; exact hs.1
  have hs2 : es.all notStar = true := by rw [List.all_cons, Bool.and_eq_true] at hs; exact hs.2
  obtain ⟨hb, hm⟩ := bi_boot hf
  have cr := blt_ok (X := X) ok.calm h2
  have arg : tA X.K (evs c xs) σ H fun vs H1 => ∃ mu1, WR X.K mu1 H1 S1 ∧ RDs X.K mu1 H1 ds vs ∧ ∀ v mu' H', Ext mu1 H1 mu' H' → WR X.K mu' H' S1 → RD X.K mu' H' d v → Q v H' :=
    ⟨mu, env, S, he, hw, ds, S1, h1, fun vs mu1 H1 e1 w1 r1 => ⟨mu1, w1, r1, fun v mu' H' e2 w2 r => k v mu' H' (e1.trans e2) w2 r⟩⟩
  have nm := nameOk_d hn
  rcases bi_fn b with ⟨i, hv⟩ | ⟨t, hv⟩
  · rw [hv] at cr hb
    exact pe_callB cr hg (ok.bl f hm) hb ha nm.2.2 nm.1 (star_ok hs1) (star_plain hs2) pins s σ H Q I arg
  · rw [hv] at cr hb
    exact pe_callTy cr hg (ok.bl f hm) hb ha nm.2.2 nm.1 (star_ok hs1) (star_plain hs2) pins s σ H Q I arg
theorem s_bltL {f : Str} {b : Bl} {e : Expr} {es : List Expr} {p pos : Pos} {xs : Exs} (ok : XOk X T W k nm) (hn : nameOk f = true) (hg : X.env.scope.names.lookup f = some .globalImplicit) (hf : blOf.lookup f = some b) (hs : (e :: es).all notStar = true)
    (ha : PA X (e :: es) (tA X.K (evs c xs))) : PE X (.Call (.Name f p) (e :: es) [] pos) (tN X.K (evL c (.blt b xs))) := by
  intro pins s σ H Q I ⟨mu, env, S, he, hw, ds', S', h, k⟩
  rw [evL] at h
  obtain ⟨⟨ds, S1⟩, h1, h⟩ := Option.bind_eq_some_iff.mp h
  obtain ⟨d', h2, e'⟩ := Option.map_eq_some_iff.mp h
  cases e'
  have hs1 : notStar e = true := by rw [List.all_cons, Bool.and_eq_true] at hs; exact hs.1
  have hs2 : es.all notStar = true := by rw [List.all_cons, Bool.and_eq_true] at hs; exact hs.2
  obtain ⟨hb, hm⟩ := bl_boot hf
  have cr := bltL_ok (X := X) h2
  have arg : tA X.K (evs c xs) σ H fun vs H1 => ∃ mu1, WR X.K mu1 H1 S1 ∧ RDs X.K mu1 H1 ds vs ∧ ∀ us p, H1 p = none → RDs X.K mu1 H1 ds' us → Q (.ref p) (upd H1 p (.lst us)) :=
    ⟨mu, env, S, he, hw, ds, S1, h1, fun vs mu1 H1 e1 w1 r1 => ⟨mu1, w1, r1, fun us p hp r => k us p mu1 H1 e1 w1 hp r⟩⟩
  have nm := nameOk_d hn
  cases b with
  | list => exact pe_callTy cr hg (ok.bl f hm) hb ha nm.2.2 nm.1 (star_ok hs1) (star_plain hs2) pins s σ H Q I arg
  | sorted => exact pe_callB cr hg (ok.bl f hm) hb ha nm.2.2 nm.1 (star_ok hs1) (star_plain hs2) pins s σ H Q I arg
noncomputable def mtId : Mt → String
  | .append => "list.append"
  | .extend => "list.extend"
  | .pop => "list.pop"
  | .index => "list.index"
theorem WR.lst_at {n : Nat} {ds : List D} {v : V} (w : WR X.K mu H S) (h : items S (.ref n) = some ds) (r : RD X.K mu H (.ref n) v) : ∃ a xs, v = .ref a ∧ mu[n]? = some a ∧ H a = some (.lst xs) ∧ RDs X.K mu H ds xs := by
  rw [items] at h
  rw [RD] at r
  obtain ⟨a, e, rfl⟩ := r
  cases q : S[n]? with
  | none => rw [q] at h; cases h
  | some o =>
    rw [q] at h
    cases o with
    | dk es => cases h
    | dt es => cases h
    | lst es =>
      cases h
      obtain ⟨b, e1, xs, e2, r⟩ := w.get q
      rw [e] at e1; cases e1
      exact ⟨a, xs, rfl, e, e2, r⟩
theorem list_extendW (l b : Addr) (cb : Value) (its its2 : Array Value) (n n2 : Nat) (db : Option Addr) (sb : Array (Option Value)) (hcb : cb = .type "list" ∨ cb = .type "tuple") (hlong : ¬(!its.isEmpty && Builtin.List.listTooLong (its.size + its2.size)) = true) (hz : its.size ≤ sizeLine) (hz2 : (its ++ its2).size ≤ sizeLine + 1) :
    Meets (Builtin.«list.extend» ⟨[.ref l, .ref b], []⟩) (fun _ R s => s.heap.get? l = some { cls := .type "list", dict := none, data := .seq its n, slots := #[] } ∧ s.heap.get? b = some { cls := cb, dict := db, data := .seq its2 n2, slots := sb } ∧
      R (.ok (.ret Value.none)) { s with heap := s.heap.update l (Obj.mapSeq fun x => x ++ its2), toks := s.toks }) :=
  .of_wp fun prog w A R s h => by
    obtain ⟨hp, g, d, tk, os⟩ := s
    obtain ⟨hl, hb, h⟩ := h
    have f1 := AutoSeq1.idx_int
    have f2 := AutoSeq1.sub_tuple_tuple
    have f3 := AutoSeq1.sub_list_list
    have f4 := AutoSeq1.sub_tuple_list
    have f5 := AutoSeq1.sub_list_tuple
    rcases hcb with rfl | rfl
    · wp_walk using (wpAny_updateSeq hl rfl (hz := hz) (_hz' := hz2)), wpAny_loadPart' hl, wpAny_loadPart' hb
      exact ⟨_, rfl, h⟩
    · wp_walk using (wpAny_updateSeq hl rfl (hz := hz) (_hz' := hz2)), wpAny_loadPart' hl, wpAny_loadPart' hb
      exact ⟨_, rfl, h⟩
theorem extend_ok {l b : Addr} {xs ys : List V} {Q : VK} (I : Inv X pins σ H s) (hl : H l = some (.lst xs)) (hb : SqL X.K H b ys ∨ SqT X.K H b ys) (hz : xs.length + ys.length ≤ sizeLine) (q : Q .non (upd H l (.lst (xs ++ ys)))) :
    wpAny (model X.prog X.w) X.A (call (.builtin "list.extend") [.ref l, .ref b]) (EP X pins σ Q) X.xe s := by
  obtain ⟨z, its, n, r, hlen, e⟩ := I.lstM hl
  obtain ⟨i2, r2, ob, n2, e2, hc2, hd2⟩ : ∃ (i2 : List Value) (_ : Vals ys i2) (ob : Obj) (n2 : Nat), s.heap.get? b = some ob ∧ (ob.cls = .type "list" ∨ ob.cls = .type "tuple") ∧ ob.data = .seq i2.toArray n2 := by
    rcases hb with hb | hb
    · obtain ⟨i2, r2, ⟨o, m, a1, a2, _, a3⟩, _⟩ := I.list hb
      exact ⟨i2, r2, o, m, a1, .inl a2, a3⟩
    · obtain ⟨i2, r2, ⟨o, a1, a2, m, a3⟩, _⟩ := I.tuple hb
      exact ⟨i2, r2, o, m, a1, .inr a2, a3⟩
  obtain ⟨cb, db, tb, sb⟩ := ob
  cases hd2
  have hl2 := r2.length
  have hsz : its.toArray.size + i2.toArray.size ≤ sizeLine := by rw [List.size_toArray, List.size_toArray]; omega
  have hlong : ¬ (!its.toArray.isEmpty && Builtin.List.listTooLong (its.toArray.size + i2.toArray.size)) = true := by
    rw [notLongL hsz, Bool.and_false]
    exact Bool.false_ne_true
  refine call_meets PySem.F.slot_list_extend ⟨_, e, rfl⟩ PySem.F.entry_list_extend (PySem.F.args_list_extend_2 _ _)
    (list_extendW l b cb its.toArray i2.toArray n n2 db sb hc2 hlong (by rw [List.size_toArray]; omega) (by rw [Array.size_append]; omega)) ⟨e, e2, ?_⟩
  refine ⟨.non, _, I.lset (its' := its ++ i2) hl e (by simp) (r.append r2) ?_, rfl, q⟩
  rw [List.length_append]
  omega
theorem RDs.dropLast {K : Frag} {ds : List D} {xs : List V} (h : RDs K mu H ds xs) : RDs K mu H ds.dropLast xs.dropLast := by
  rw [List.dropLast_eq_take, List.dropLast_eq_take, h.length]
  exact h.take _
theorem seqIx0 {n : Nat} (h : 0 < n) : seqIndex? (0 : Int) n = some 0 := by
  unfold seqIndex?
  simp [h]
theorem idx_at : ∀ {l : List Int} {i : Int} {j : Nat}, idxI l i = some j → l[j]? = some i ∧ ∀ m x, m < j → l[m]? = some x → x ≠ i
  | [], i, j, h => by cases h
  | x :: r, i, j, h => by
    rw [idxI] at h
    split at h
    · rename_i e
      cases h
      exact ⟨by rw [e]; rfl, fun m x hm => by omega⟩
    · rename_i hne
      obtain ⟨j', h1, rfl⟩ := Option.map_eq_some_iff.mp h
      obtain ⟨a, b⟩ := idx_at h1
      refine ⟨by simpa using a, fun m y hm hy => ?_⟩
      cases m with
      | zero =>
        have : x = y := by simpa using hy
        rw [← this]; exact hne
      | succ m => exact b m y (by omega) (by simpa using hy)
theorem mth_ok {m : Mt} {o : D} {ds : List D} {d : D} {S' : Sto} (h : mthD S m o ds = some (d, S')) : MtM X (mtId m) (fun x xs H Q => ∃ mu1, WR X.K mu1 H S ∧ RD X.K mu1 H o x ∧ RDs X.K mu1 H ds xs ∧ ∀ v mu' H', Ext mu1 H mu' H' → WR X.K mu' H' S' → RD X.K mu' H' d v → Q v H') := by
  intro pins s σ H x xs v us Q I rx rs ⟨mu1, w, ro, rds, q⟩
  have hsl := line_eq
  by_cases hmi : m = .index
  · subst hmi
    obtain ⟨i, rfl⟩ : ∃ i, ds = [.int i] := by
      match ds with
      | [] => cases o <;> cases h
      | [.int i] => exact ⟨i, rfl⟩
      | [.non] => cases o <;> cases h
      | [.bl _] => cases o <;> cases h
      | [.str _] => cases o <;> cases h
      | [.tup _] => cases o <;> cases h
      | [.lst _] => cases o <;> cases h
      | [.ref _] => cases o <;> cases h
      | d0 :: _ :: _ => cases o <;> cases d0 <;> cases h
    replace h : ((lsOf S o).bind fun ds => (intsD ds).bind fun is => (idxI is i).map fun (j : Nat) => (D.int (j : Int), S)) = some (d, S') := by
      cases o <;> exact h
    obtain ⟨ls, h1, h⟩ := Option.bind_eq_some_iff.mp h
    obtain ⟨is, h2, h⟩ := Option.bind_eq_some_iff.mp h
    obtain ⟨j, h3, e⟩ := Option.map_eq_some_iff.mp h
    cases e
    obtain ⟨a, ys, rfl, hq, r2⟩ := lsOf_at w h1 ro
    cases rx
    obtain ⟨y, r', rfl, ry, rn⟩ := rds.cases_cons
    cases rn.cases_nil
    cases int_at ry
    obtain ⟨u, rfl, t, rfl⟩ := rs.one
    rw [intsD_rd h2 r2] at hq
    refine index_ok I hq (j := j) (idx_at h3).1 (idx_at h3).2 (fun t' s' I' => ⟨.int (j : Int), H, I', ⟨t', rfl⟩, q _ mu1 H .refl w rd_int⟩)
  cases o with
  | ref n =>
    cases m with
    | index => exact absurd rfl hmi
    | append =>
      match ds with
      | [] => cases h
      | _ :: _ :: _ => cases h
      | [d0] =>
        replace h : ((items S (.ref n)).bind fun es => if es.length < line then some (D.non, S.set n (.lst (es ++ [d0]))) else none) = some (d, S') := h
        obtain ⟨es, h1, h⟩ := Option.bind_eq_some_iff.mp h
        split at h
        · rename_i hz
          cases h
          obtain ⟨a, ys, rfl, hm, ha, r2⟩ := w.lst_at h1 ro
          obtain ⟨y, r', rfl, ry, rn⟩ := rds.cases_cons
          cases rn.cases_nil
          refine mt_append pins s σ H _ _ v us Q I rx rs ⟨a, ys, y, rfl, rfl, ha, by rw [hsl, ← r2.length]; exact hz, ?_⟩
          exact q _ mu1 _ (Ext.write w hm) (w.write hm (r2.append (.cons ry .nil))) rd_non
        · cases h
    | extend =>
      match ds with
      | [] => cases h
      | _ :: _ :: _ => cases h
      | [d0] =>
        replace h : ((items S (.ref n)).bind fun es => (items S d0).bind fun fs => if es.length + fs.length ≤ line ∧ d0 ≠ .ref n then some (D.non, S.set n (.lst (es ++ fs))) else none) = some (d, S') := h
        obtain ⟨es, h1, h⟩ := Option.bind_eq_some_iff.mp h
        obtain ⟨fs, h2, h⟩ := Option.bind_eq_some_iff.mp h
        split at h
        · rename_i hz
          cases h
          obtain ⟨a, ys, rfl, hm, ha, r2⟩ := w.lst_at h1 ro
          obtain ⟨y, r', rfl, ry, rn⟩ := rds.cases_cons
          cases rn.cases_nil
          obtain ⟨b, zs, rfl, hb, r3⟩ := items_at w h2 ry
          cases rx
          obtain ⟨u, rfl, ru⟩ := rs.one
          cases ru
          refine extend_ok I ha hb (by rw [hsl, ← r2.length, ← r3.length]; exact hz.1) ?_
          exact q _ mu1 _ (Ext.write w hm) (w.write hm (r2.append r3)) rd_non
        · cases h
    | pop =>
      match ds with
      | d0 :: _ :: _ => cases d0 <;> cases h
      | [] =>
        replace h : ((items S (.ref n)).bind fun es => match es[es.length - 1]? with
          | some d => some (d, S.set n (.lst es.dropLast))
          | none => none) = some (d, S') := h
        obtain ⟨es, h1, h⟩ := Option.bind_eq_some_iff.mp h
        cases hl : es[es.length - 1]? with
        | none => rw [hl] at h; cases h
        | some d1 =>
          rw [hl] at h
          cases h
          obtain ⟨a, ys, rfl, hm, ha, r2⟩ := w.lst_at h1 ro
          cases rds.cases_nil
          obtain ⟨y, hy, ry⟩ := r2.get hl
          refine mt_pop pins s σ H _ _ v us Q I rx rs ⟨a, ys, y, rfl, rfl, ha, by rw [← r2.length]; exact hy, ?_⟩
          exact q _ mu1 _ (Ext.write w hm) (w.write hm r2.dropLast) (RD.mono (Ext.write w hm) _ _ ry)
      | [d0] =>
        obtain ⟨i, rfl⟩ : ∃ i, d0 = .int i := by
          cases d0 with
          | int i => exact ⟨i, rfl⟩
          | _ => cases h
        replace h : (if i = 0 then (items S (.ref n)).bind fun es => match es with
          | d :: r => some (d, S.set n (.lst r))
          | [] => none else none) = some (d, S') := h
        split at h
        case isFalse => cases h
        rename_i hi0
        subst hi0
        obtain ⟨es, h1, h⟩ := Option.bind_eq_some_iff.mp h
        cases es with
        | nil => cases h
        | cons d1 r1 =>
          cases h
          obtain ⟨a, ys, rfl, hm, ha, r2⟩ := w.lst_at h1 ro
          obtain ⟨z, r', rfl, rz, rn⟩ := rds.cases_cons
          cases rn.cases_nil
          cases int_at rz
          obtain ⟨y, yr, rfl, ry, ryr⟩ := r2.cases_cons
          refine mt_popAt pins s σ H _ _ v us Q I rx rs ⟨a, y :: yr, 0, 0, y, rfl, rfl, ha, by decide, by decide, seqIx0 (by simp), rfl, ?_⟩
          exact q _ mu1 _ (Ext.write w hm) (w.write hm ryr) (RD.mono (Ext.write w hm) _ _ ry)
  | _ => cases m <;> first | (exact absurd rfl hmi) | (cases ds <;> cases h)
theorem mt_facts {m : Str} {t : Mt} (h : mtOf.lookup m = some t) : Slot "list" m (mtId t) ∧ typeOf (.builtin (mtId t)) = pure (.type "method_descriptor") := by
  have hm := PySem.mem_of_lookup h
  simp only [mtOf, List.mem_cons, Prod.mk.injEq, List.not_mem_nil, or_false] at hm
  rcases hm with ⟨rfl, rfl⟩ | ⟨rfl, rfl⟩ | ⟨rfl, rfl⟩ | ⟨rfl, rfl⟩
  · exact ⟨PySem.F.slot_list_append, PySem.F.type_list_append⟩
  · exact ⟨PySem.F.slot_list_extend, PySem.F.type_list_extend⟩
  · exact ⟨PySem.F.slot_list_pop, PySem.F.type_list_pop⟩
  · exact ⟨PySem.F.slot_list_index, PySem.F.type_list_index⟩
theorem MtM.toR {id : String} {r : V → List V → Hp → VK → Prop} (h : MtM X id r) : MtR X id r := fun pins s σ H x xs v us Q I rx rs q => h pins s σ H x xs v us Q I rx rs q
theorem base_list {o : Expr} {m : Str} (h : baseOk o = true) : attributeBase o m X.env (eval o X.env) = eval o X.env := by
  cases o with
  | Call f es ks p => cases f <;> first | rfl | (exact absurd h Bool.false_ne_true)
  | _ => rfl
theorem s_mth {o : Expr} {m : Str} {t : Mt} {es : List Expr} {ap pos : Pos} {xo : Ex} {xs : Exs} (hm : mtOf.lookup m = some t) (ho : PE X o (tE X.K (ev c xo))) (ha : PA X es (tA X.K (evs c xs))) (hx : es = [] → xs = .nil) (hs : es.all notStar = true) (hl : lineOk ap pos = true) (hn : es.length ≤ 8) (hbo : baseOk o = true) :
    PE X (.Call (.Attribute o m ap) es [] pos) (tE X.K (ev c (.mth xo t xs))) := by
  intro pins s σ H Q I ⟨mu, env, S, he, hw, d, S', hf, k⟩
  rw [ev] at hf
  obtain ⟨⟨do', S1⟩, h1, hf⟩ := Option.bind_eq_some_iff.mp hf
  dsimp only at hf
  split at hf
  · rename_i hls
    obtain ⟨⟨ds, S2⟩, h2, hf⟩ := Option.bind_eq_some_iff.mp hf
    dsimp only at hf
    obtain ⟨sl, ty⟩ := mt_facts hm
    have tyl : ∀ {mu1 : List Addr} {H1 : Hp} {x : V}, WR X.K mu1 H1 S1 → RD X.K mu1 H1 do' x → tyV X.K "list" x H1 := fun {mu1 H1 x} w r => by
      obtain ⟨es, hes⟩ := Option.isSome_iff_exists.mp (show (lsOf S1 do').isSome = true from hls)
      obtain ⟨a, ys, rfl, hq, _⟩ := lsOf_at w hes r
      exact .inl ⟨rfl, ys, hq⟩
    have hb := base_list (X := X) (o := o) (m := m) hbo
    cases es with
    | nil =>
      cases hx rfl
      rw [evs] at h2
      cases h2
      refine pe_bm0 PySem.F.plainAttrs_list sl ty (MtM.toR (mth_ok (X := X) hf)) ho hb hl pins s σ H Q I ⟨mu, env, S, he, hw, do', S1, h1, fun x mu1 H1 e1 w1 r1 => ⟨tyl w1 r1, mu1, w1, r1, .nil, fun v mu' H' e w r => k v mu' H' (e1.trans e) w r⟩⟩
    | cons e es =>
      have hs1 : notStar e = true := by rw [List.all_cons, Bool.and_eq_true] at hs; exact hs.1
      have hs2 : es.all notStar = true := by rw [List.all_cons, Bool.and_eq_true] at hs; exact hs.2
      refine pe_bm PySem.F.plainAttrs_list sl ty (MtM.toR (mth_ok (X := X) hf)) ho ha hb ?_ hl (star_ok hs1) (star_plain hs2) pins s σ H Q I ⟨mu, env, S, he, hw, do', S1, h1, fun x mu1 H1 e1 w1 r1 => ⟨tyl w1 r1,
        mu1, env, S1, he.mono e1, w1, ds, S2, h2, fun vs mu2 H2 e2 w2 r2 => ⟨mu2, w2, RD.mono e2 _ _ r1, r2, fun v mu' H' e w r => k v mu' H' ((e1.trans e2).trans e) w r⟩⟩⟩
      have a1 : (backTo pos (starEach (e :: es) X.env)).all (fun x => !x.1) = true := by
        have := star_plain (pos := pos) (env := X.env) hs
        rw [List.all_eq_not_any_not]
        simpa using this
      rw [a1]
      show (true && true && decide ((e :: es).length + 0 + 0 < 30)) = true
      simp only [Bool.true_and, decide_eq_true_eq]
      omega
  · cases hf
theorem callN_has {f : Str} {ds : List D} {S : Sto} {r : D × Sto} (h : (callN T W k).fn f ds S = some r) : ∃ fi, T.lookup f = some fi ∧ ds.length = fi.ps := by
  cases k with
  | zero => cases h
  | succ k =>
    obtain ⟨fi, h1, h2⟩ := Option.bind_eq_some_iff.mp (show ((T.lookup f).bind fun fi => if ds.length = fi.ps then (evSs (callN T W k) W fi.body (startE fi.nn ds) S).bind fin else none) = some r from h)
    split at h2
    · rename_i hl
      exact ⟨fi, h1, hl⟩
    · cases h2
theorem s_call {f : Str} {es : List Expr} {p pos : Pos} {xs : Exs} (ok : XOk X T W k nm) (hn : nameOk f = true) (hg : X.env.scope.names.lookup f = some .globalImplicit) (hs : es.all notStar = true) (hx : es = [] → xs = .nil)
    (ha : PA X es (tA X.K (evs (callN T W k) xs))) : PE X (.Call (.Name f p) es [] pos) (tE X.K (ev (callN T W k) (.call f xs))) := by
  intro pins s σ H Q I ⟨mu, env, S, he, hw, d, S', h, q⟩
  rw [ev] at h
  obtain ⟨⟨ds, S1⟩, h1, h⟩ := Option.bind_eq_some_iff.mp h
  obtain ⟨fi, hl, hd⟩ := callN_has h
  obtain ⟨fa, fd, ps, hps, hm, hk, hb, F⟩ := ok.fs f fi hl
  have nm := nameOk_d hn
  have arg : tA X.K (evs (callN T W k) xs) σ H fun vs H1 => spOf X.K T W k f (vs ++ []) H1 Q E0 :=
    ⟨mu, env, S, he, hw, ds, S1, h1, fun vs mu1 H1 e1 w1 r1 => ⟨mu1, S1, ds, w1, by rw [List.append_nil]; exact r1, ⟨fi, hl, hd⟩, d, S', h, fun v mu' H' e w r => q v mu' H' (e1.trans e) w r⟩⟩
  cases es with
  | nil =>
    obtain ⟨mu', env', S2, he', hw', ds', S3, h1', k'⟩ := arg
    refine pe_call0 F ok.room hg hm hk hb .nil pass0 nm.1 pins s σ H Q I ?_
    rw [hx rfl, evs] at h1'
    cases h1'
    exact k' [] mu' H .refl hw' .nil
  | cons e es =>
    have hs1 : notStar e = true := by rw [List.all_cons, Bool.and_eq_true] at hs; exact hs.1
    have hs2 : es.all notStar = true := by rw [List.all_cons, Bool.and_eq_true] at hs; exact hs.2
    exact pe_call F ok.room hg hm hk hb .nil pass0 ha nm.1 (star_ok hs1) (star_plain hs2) pins s σ H Q I arg
end
end PF
namespace PF
open PySem PySem.Spec PyProof.Rows L2
section
variable {X : Cx} {T : Tab} {W k : Nat} {nm : List (Str × NameKind)} {pins : List (Addr × Obj)} {σ : St} {H : Hp} {s : Shared} {mu : List Addr} {S : Sto} {c : Cl}
theorem isnot_bool {v : Value} {a b : Bool} {Q : Value → Shared → Prop} {M : Model} {A : Around} {E : Value → Shared → Prop} (h : Q (.bool (!(a == b))) s) : wpAny M A (compareOp .IsNot (.bool a) (.bool b)) Q E s := by
  show wpAny M A (isSame (.bool a) (.bool b) >>= fun r => pure (.bool !r)) Q E s
  refine wpAny_bind ?_
  show wpAny M A (pure (Value.bool a == Value.bool b)) _ E s
  refine wpAny_pure (wpAny_pure ?_)
  have e : (Value.bool a == Value.bool b) = (a == b) := by cases a <;> cases b <;> rfl
  rw [e]; exact h
theorem s_notB {a : Expr} {b : Bool} {j : Nat} {pos' : Pos} {xa : Ex} (ha : PE X a (tE X.K (ev c xa))) : PC X .IsNot a (.Constant (.bool b) j pos') (tE X.K (ev c (.notB xa b))) := by
  intro pins s σ H Q I ⟨mu, env, S, he, hw, d, S', hf, k⟩
  rw [ev] at hf
  obtain ⟨⟨da, S1⟩, h1, hf⟩ := Option.bind_eq_some_iff.mp hf
  cases da with
  | bl y =>
    cases hf
    refine thn (ha pins s σ H _ I ⟨mu, env, S, he, hw, _, _, h1, fun v mu1 H1 e1 w1 r1 => (⟨mu1, e1, w1, r1⟩ : ∃ mu1, Ext mu H mu1 H1 ∧ WR X.K mu1 H1 S1 ∧ RD X.K mu1 H1 (.bl y) v)⟩) fun v s1 ⟨x, H1, I1, r1, mu1, e1, w1, rb⟩ => ?_
    cases bl_at rb
    cases r1
    exact Constant_bool (isnot_bool (v := .none) ⟨.bl _, H1, I1, rfl, k _ mu1 H1 e1 w1 rd_bl⟩)
  | _ => cases hf
end
end PF
namespace PFZ
open PySem PySem.Spec PyProof.Rows
section
variable {prog : Program} {w : World} {A : Around} {E : Value → Shared → Prop} {s : Shared}
theorem tupNext {j c : Addr} {k : Nat} {its : Array Value} {x : Value} {Q : Value → Shared → Prop} (a : s.heap.IsTupleIter j c k) (b : s.heap.IsTuple c its) (e : its[k]? = some x)
    (q : ∀ g, g.IsTupleIter j c (k + 1) → Heap.SameBut j s.heap g → Q x { s with heap := g }) : wpAny (model prog w) A (Builtin.SmallTypes.nextOf (.ref j)) Q E s := by
  obtain ⟨oj, gj, cj, dj⟩ := id a
  obtain ⟨oc, gc, _, nc, dc⟩ := b
  unfold Builtin.SmallTypes.nextOf
  refine wpAny_bind (wpAny_callSpecial?_slot (name := Str.ofString "__next__") a.typeIs PySem.F.slot_tuple_iterator_next (wpAny_call_entry PySem.F.slot_tuple_iterator_next a.typeIs PySem.F.entry_tuple_iterator_next ?_ (PySem.F.args_tuple_iterator_next_1 _)))
  show wpAny _ _ (field (.ref j) 0 >>= _) _ _ s
  refine wpAny_bind (wpAny_field gj dj (x := .ref c) rfl ?_)
  show wpAny _ _ (if (Value.ref c == Value.none) = true then _ else _) _ _ s
  rw [if_neg (show ¬ ((Value.ref c == Value.none) = true) by exact Bool.false_ne_true)]
  show wpAny _ _ (field (.ref j) 1 >>= _) _ _ s
  refine wpAny_bind (wpAny_field gj dj (x := .int k 0) rfl ?_)
  show wpAny _ _ (seqItems? (.ref c) >>= _) _ _ s
  refine wpAny_bind (wpAny_seqItems gc dc ?_)
  simp only [Int.toNat_natCast, e]
  refine wpAny_bind (wpAny_setField gj dj (by simp) (wpAny_pure ⟨x, rfl, wpAny_pure (q _ ⟨_, Heap.get?_update_self _ gj (Obj.isFreed_of_fields (Obj.data_mapFields dj _)), (Obj.cls_mapFields ..).trans cj, ?_⟩ (Heap.SameBut.update ..))⟩))
  rw [Obj.data_mapFields dj]; simp [rawInt]
theorem tupEnd {j c : Addr} {k : Nat} {its : Array Value} {Q : Value → Shared → Prop} (hh : A.handled = none) (a : s.heap.IsTupleIter j c k) (b : s.heap.IsTuple c its) (e : its[k]? = none)
    (q : ∀ g x, Heap.ExtBut j s.heap g → (∃ o, g.get? x = some o ∧ o.cls = .type "StopIteration") → E (.ref x) { s with heap := g }) : wpAny (model prog w) A (Builtin.SmallTypes.nextOf (.ref j)) Q E s := by
  obtain ⟨oj, gj, cj, dj⟩ := id a
  obtain ⟨oc, gc, _, nc, dc⟩ := b
  unfold Builtin.SmallTypes.nextOf
  refine wpAny_bind (wpAny_callSpecial?_slot (name := Str.ofString "__next__") a.typeIs PySem.F.slot_tuple_iterator_next (wpAny_call_entry PySem.F.slot_tuple_iterator_next a.typeIs PySem.F.entry_tuple_iterator_next ?_ (PySem.F.args_tuple_iterator_next_1 _)))
  show wpAny _ _ (field (.ref j) 0 >>= _) _ _ s
  refine wpAny_bind (wpAny_field gj dj (x := .ref c) rfl ?_)
  show wpAny _ _ (if (Value.ref c == Value.none) = true then _ else _) _ _ s
  rw [if_neg (show ¬ ((Value.ref c == Value.none) = true) by exact Bool.false_ne_true)]
  show wpAny _ _ (field (.ref j) 1 >>= _) _ _ s
  refine wpAny_bind (wpAny_field gj dj (x := .int k 0) rfl ?_)
  show wpAny _ _ (seqItems? (.ref c) >>= _) _ _ s
  refine wpAny_bind (wpAny_seqItems gc dc ?_)
  simp only [Int.toNat_natCast, e]
  refine wpAny_bind (wpAny_rule (wpAny_bind (wpAny_setField gj dj (by simp) ?_)))
  show wpAny _ _ (newExc (.type "StopIteration") [] >>= _) _ _ _
  refine wpAny_bind ?_
  simp only [newExc, newTuple]
  refine wpAny_bind (wpAny_newObj_type ?_ (by size_fits))
  refine wpAny_bind (m := firstArgMember _ _) (wpAny_of_eq (a := Value.none) (by first | rfl | (simp only [firstArgMember]; rfl)) ?_)
  refine wpAny_newObj_type ?_ (by size_fits)
  simp only [raiseNew]
  refine wpAny_bind (wpAny_handled ?_)
  first | rw [show A.in1.handled = none from hh] | rw [hh]
  exact wpAny_bind (wpAny_pure (wpAny_throw (q _ _ (((Heap.SameBut.update ..).extBut.push _).push _) ⟨_, Heap.get?_push_size _ rfl, rfl⟩)))
end
theorem drawsTup {prog : Program} {w : World} {A : Around} (hh : A.handled = none) (j c : Addr) (hne : c ≠ j) (its : Array Value) :
    Draws prog w A j [j, c] its.size (fun i v => its[i]? = some v) (fun i h => h.IsTupleIter j c i ∧ h.IsTuple c its) where
  live := fun _ _ st => by obtain ⟨o, ho, _⟩ := st.1; exact ⟨o, ho⟩
  frame := fun _ _ _ st k => ⟨by obtain ⟨o, a, r⟩ := st.1; exact ⟨o, k j (by simp) o a, r⟩, by obtain ⟨o, a, r⟩ := st.2; exact ⟨o, k c (by simp) o a, r⟩⟩
  item := fun i s Q E hi st q => tupNext st.1 st.2 (x := its[i]) (by simp [hi]) fun g a b => q _ g s.toks (by simp [hi]) ⟨a, by obtain ⟨o, e, r⟩ := st.2; exact ⟨o, (b.2 c hne).trans e, r⟩⟩ b
  done := fun s Q E st q => tupEnd hh st.1 st.2 (by simp) fun g x a b => q g x a b
structure Zap (z TI TO i1 i2 : Addr) (f1 f2 : List Addr) : Prop where
  a1 : i1 ∈ f1
  a2 : i2 ∈ f2
  z1 : z ∉ f1
  z2 : z ∉ f2
  o1 : TO ∉ f1
  o2 : TO ∉ f2
  x1 : i1 ∉ f2
  x2 : i2 ∉ f1
  tz : TI ≠ z
  tO : TI ≠ TO
  t1 : TI ≠ i1
  t2 : TI ≠ i2
  oz : TO ≠ z
theorem mem_ne {α : Type} {a b : α} {l : List α} (h : a ∈ l) (n : b ∉ l) : a ≠ b := fun e => n (e ▸ h)
section
variable {prog : Program} {w : World} {A : Around} {E : Value → Shared → Prop} {s : Shared}
variable {z TI TO i1 i2 : Addr} {f1 f2 : List Addr} {n1 n2 : Nat} {P1 P2 : Nat → Value → Prop} {S1 S2 : Nat → Heap → Prop}
theorem Draws.at {prog : Program} {w : World} {A : Around} {it : Addr} {fp : List Addr} {n : Nat} {P : Nat → Value → Prop} {St : Nat → Heap → Prop} (D : Draws prog w A it fp n P St) {i : Nat} {b : Addr} {h h' : Heap} (st : St i h) (hs : Heap.ExtBut b h h') (nb : b ∉ fp) : St i h' :=
  D.frame i h h' st fun c hc o e => hs c o (mem_ne hc nb) e
theorem zipItem (Z : Zap z TI TO i1 i2 f1 f2) (D1 : Draws prog w A i1 f1 n1 P1 S1) (D2 : Draws prog w A i2 f2 n2 P2 S2) {k : Nat} {a b : Value} {Q : Value → Shared → Prop} (hz : IsZip s.heap z TI TO .none) (hi : IsPair s.heap TI (.ref i1) (.ref i2)) (ho : IsPair s.heap TO a b)
    (st1 : S1 k s.heap) (st2 : S2 k s.heap) (l1 : k < n1) (l2 : k < n2)
    (q : ∀ g tk x y, P1 k x → P2 k y → IsZip g z TI TO (rawInt s.heap.objs.size) → IsPair g TO x y → S1 (k + 1) g → S2 (k + 1) g → IsPair g s.heap.objs.size x y → g.objs.size = s.heap.objs.size + 1 →
      (∀ c o, c ≠ z → c ≠ TO → c ≠ i1 → c ≠ i2 → s.heap.get? c = some o → g.get? c = some o) → Q (.ref s.heap.objs.size) { s with heap := g, toks := tk }) :
    wpAny (model prog w) A (Builtin.«zip.__next__» ⟨[.ref z], []⟩) (fun fin s' => ∃ v, fin = .done (.ret v) ∧ Q v s') E s := by
  show wpAny _ _ (field (.ref z) 2 >>= _) _ _ _
  refine wpAny_bind (wpAny_field hz rfl (x := .bool false) rfl ?_)
  show wpAny _ _ (field (.ref z) 3 >>= _) _ _ _
  refine wpAny_bind (wpAny_field hz rfl (x := .ref TI) rfl (wpAny_bind (wpAny_seqItems hi rfl ?_)))
  show wpAny _ _ (Builtin.SmallTypes.ownedTupleIsFree (.ref z) >>= _) _ _ _
  refine wpAny_bind ?_
  unfold Builtin.SmallTypes.ownedTupleIsFree
  refine wpAny_bind (wpAny_field hz rfl (x := .none) rfl (wpAny_pure ?_))
  simp only [if_true]
  refine wpAny_bind (wpAny_rule (wpAny_bind (wpAny_field hz rfl (x := .ref TO) rfl ?_)))
  refine wpAny_bind (wpAny_setField_rec hz (by simp) fun g1 y1 m1 => ?_)
  replace y1 : IsZip g1 z TI TO .ellipsis := y1
  refine wpAny_bind ?_
  simp only [List.zipIdx_cons, List.zipIdx_nil, List.forIn_cons, List.forIn_nil]
  refine wpAny_bind (wpAny_bind (wpAny_onRaise ?_))
  show wpAny _ _ (Builtin.SmallTypes.nextOf (.ref i1) >>= _) _ _ _
  have zi1 : i1 ≠ z := mem_ne Z.a1 Z.z1
  have zi2 : i2 ≠ z := mem_ne Z.a2 Z.z2
  have oi1 : TO ≠ i1 := (mem_ne Z.a1 Z.o1).symm
  have oi2 : TO ≠ i2 := (mem_ne Z.a2 Z.o2).symm
  have i12 : i1 ≠ i2 := fun e => Z.x1 (e ▸ Z.a2)
  refine wpAny_bind (D1.item k _ _ _ l1 (Draws.at D1 st1 m1.extBut Z.z1) fun x g2 tk2 p1 u2 m2 => wpAny_pure ?_)
  have v2 : IsPair g2 TO a b := m2.extBut _ _ oi1 (m1.extBut _ _ Z.oz ho)
  refine wpAny_bind (wpAny_seqItems v2 rfl (wpAny_bind (wpAny_updateSeq_pair v2 fun g3 v3 m3 => ?_)))
  replace v3 : IsPair g3 TO x b := v3
  refine wpAny_bind (wpAny_letGo (wpAny_pure (wpAny_bind (wpAny_bind (wpAny_onRaise ?_)))))
  show wpAny _ _ (Builtin.SmallTypes.nextOf (.ref i2) >>= _) _ _ _
  refine wpAny_bind (D2.item k _ _ _ l2 (Draws.at D2 (Draws.at D2 (Draws.at D2 st2 m1.extBut Z.z2) m2.extBut Z.x1) m3.extBut Z.o2) fun y g4 tk4 p2 u4 m4 => wpAny_pure ?_)
  have v4 : IsPair g4 TO x b := m4.extBut _ _ oi2 v3
  refine wpAny_bind (wpAny_seqItems v4 rfl (wpAny_bind (wpAny_updateSeq_pair v4 fun g5 v5 m5 => ?_)))
  replace v5 : IsPair g5 TO x y := v5
  refine wpAny_bind (wpAny_letGo (wpAny_pure (wpAny_pure (wpAny_bind (wpAny_seqItems v5 rfl (wpAny_bind (wpAny_newTuple ?_)))))))
  have ez : g5.objs.size = s.heap.objs.size := by rw [m5.1, m4.1, m3.1, m2.1, m1.1]
  have y5 : IsZip g5 z TI TO .ellipsis := m5.extBut _ _ Z.oz.symm (m4.extBut _ _ zi2.symm (m3.extBut _ _ Z.oz.symm (m2.extBut _ _ zi1.symm y1)))
  have k5 : ∀ c o, c ≠ z → c ≠ TO → c ≠ i1 → c ≠ i2 → s.heap.get? c = some o → g5.get? c = some o := fun c o c1 c2 c3 c4 e => m5.extBut _ _ c2 (m4.extBut _ _ c4 (m3.extBut _ _ c2 (m2.extBut _ _ c3 (m1.extBut _ _ c1 e))))
  have u5 : S1 (k + 1) g5 := Draws.at D1 (Draws.at D1 (Draws.at D1 u2 m3.extBut Z.o1) m4.extBut Z.x2) m5.extBut Z.o1
  have t5 : S2 (k + 1) g5 := Draws.at D2 u4 m5.extBut Z.o2
  have zl : z < g5.objs.size := Heap.lt_size y5
  show wpAny _ _ (Builtin.SmallTypes.ownedTupleHandOut (.ref z) (.ref g5.objs.size) >>= _) _ _ _
  refine wpAny_bind ?_
  unfold Builtin.SmallTypes.ownedTupleHandOut
  have y6 : IsZip (g5.push { cls := .type "tuple", data := .seq #[x, y] }) z TI TO .ellipsis := Heap.get?_push_of_some _ y5
  refine wpAny_bind (wpAny_setField_rec y6 (by simp) fun g7 y7 m7 => ?_)
  replace y7 : IsZip g7 z TI TO (rawInt g5.objs.size) := y7
  refine wpAny_setField_rec y7 (by simp) fun g8 y8 m8 => ?_
  replace y8 : IsZip g8 z TI TO (rawInt g5.objs.size) := y8
  have up : ∀ c o, c ≠ z → g5.get? c = some o → g8.get? c = some o := fun c o c1 e => m8.extBut _ _ c1 (m7.extBut _ _ c1 (Heap.get?_push_of_some _ e))
  have T8 : IsPair g8 g5.objs.size x y := m8.extBut _ _ (Nat.ne_of_gt zl) (m7.extBut _ _ (Nat.ne_of_gt zl) (Heap.get?_push_size _ rfl))
  have s8 : g8.objs.size = g5.objs.size + 1 := by rw [m8.1, m7.1, Heap.size_push]
  rw [ez] at y8 T8 s8
  refine wpAny_pure ⟨_, rfl, ?_⟩
  show Q (.ref g5.objs.size) _
  rw [ez]
  exact q g8 tk4 x y p1 p2 y8 (up _ _ Z.oz v5) (D1.frame _ _ _ u5 fun c hc o e => up c o (mem_ne hc Z.z1) e) (D2.frame _ _ _ t5 fun c hc o e => up c o (mem_ne hc Z.z2) e) T8 s8 fun c o c1 c2 c3 c4 e => up c o c1 (k5 c o c1 c2 c3 c4 e)
theorem zipEnd (Z : Zap z TI TO i1 i2 f1 f2) (D1 : Draws prog w A i1 f1 n1 P1 S1) (D2 : Draws prog w A i2 f2 n2 P2 S2) {k : Nat} {a b : Value} {Q : Fin → Shared → Prop} (hz : IsZip s.heap z TI TO .none) (hi : IsPair s.heap TI (.ref i1) (.ref i2)) (ho : IsPair s.heap TO a b)
    (st1 : S1 k s.heap) (st2 : S2 k s.heap) (l : k = n1 ∨ (k < n1 ∧ k = n2))
    (q : ∀ g e tk, (∀ c o, c ≠ z → c ≠ TO → c ≠ i1 → c ≠ i2 → s.heap.get? c = some o → g.get? c = some o) → (∃ o, g.get? e = some o ∧ o.cls = .type "StopIteration") → E (.ref e) { s with heap := g, toks := tk }) :
    wpAny (model prog w) A (Builtin.«zip.__next__» ⟨[.ref z], []⟩) Q E s := by
  show wpAny _ _ (field (.ref z) 2 >>= _) _ _ _
  refine wpAny_bind (wpAny_field hz rfl (x := .bool false) rfl ?_)
  show wpAny _ _ (field (.ref z) 3 >>= _) _ _ _
  refine wpAny_bind (wpAny_field hz rfl (x := .ref TI) rfl (wpAny_bind (wpAny_seqItems hi rfl ?_)))
  show wpAny _ _ (Builtin.SmallTypes.ownedTupleIsFree (.ref z) >>= _) _ _ _
  refine wpAny_bind ?_
  unfold Builtin.SmallTypes.ownedTupleIsFree
  refine wpAny_bind (wpAny_field hz rfl (x := .none) rfl (wpAny_pure ?_))
  simp only [if_true]
  refine wpAny_bind (wpAny_rule (wpAny_bind (wpAny_field hz rfl (x := .ref TO) rfl ?_)))
  refine wpAny_bind (wpAny_setField_rec hz (by simp) fun g1 y1 m1 => ?_)
  replace y1 : IsZip g1 z TI TO .ellipsis := y1
  refine wpAny_bind ?_
  simp only [List.zipIdx_cons, List.zipIdx_nil, List.forIn_cons, List.forIn_nil]
  refine wpAny_bind (wpAny_bind (wpAny_onRaise ?_))
  show wpAny _ _ (Builtin.SmallTypes.nextOf (.ref i1) >>= _) _ _ _
  have zi1 : i1 ≠ z := mem_ne Z.a1 Z.z1
  have zi2 : i2 ≠ z := mem_ne Z.a2 Z.z2
  have oi1 : TO ≠ i1 := (mem_ne Z.a1 Z.o1).symm
  rcases l with l | ⟨l1, l2⟩
  · subst l
    refine wpAny_bind (D1.done _ _ _ (Draws.at D1 st1 m1.extBut Z.z1) fun g2 e m2 he => ?_)
    obtain ⟨oe, hoe, hce⟩ := he
    have y2 : IsZip g2 z TI TO .ellipsis := m2 _ _ zi1.symm y1
    have hez : e ≠ z := fun x => by subst x; rw [y2] at hoe; cases hoe; simp at hce
    refine wpAny_setField_rec y2 (by simp) fun g3 _ m3 => q g3 e s.toks (fun c o c1 _ c3 _ x => m3.extBut _ _ c1 (m2 _ _ c3 (m1.extBut _ _ c1 x))) ⟨oe, m3.extBut _ _ hez hoe, hce⟩
  · subst l2
    refine wpAny_bind (D1.item k _ _ _ l1 (Draws.at D1 st1 m1.extBut Z.z1) fun x g2 tk2 p1 u2 m2 => wpAny_pure ?_)
    have v2 : IsPair g2 TO a b := m2.extBut _ _ oi1 (m1.extBut _ _ Z.oz ho)
    refine wpAny_bind (wpAny_seqItems v2 rfl (wpAny_bind (wpAny_updateSeq_pair v2 fun g3 v3 m3 => ?_)))
    refine wpAny_bind (wpAny_letGo (wpAny_pure (wpAny_bind (wpAny_bind (wpAny_onRaise ?_)))))
    show wpAny _ _ (Builtin.SmallTypes.nextOf (.ref i2) >>= _) _ _ _
    refine wpAny_bind (D2.done _ _ _ (Draws.at D2 (Draws.at D2 (Draws.at D2 st2 m1.extBut Z.z2) m2.extBut Z.x1) m3.extBut Z.o2) fun g4 e m4 he => ?_)
    obtain ⟨oe, hoe, hce⟩ := he
    have y4 : IsZip g4 z TI TO .ellipsis := m4 _ _ zi2.symm (m3.extBut _ _ Z.oz.symm (m2.extBut _ _ zi1.symm y1))
    have hez : e ≠ z := fun x => by subst x; rw [y4] at hoe; cases hoe; simp at hce
    refine wpAny_setField_rec y4 (by simp) fun g5 _ m5 => q g5 e tk2 (fun c o c1 c2 c3 c4 x => m5.extBut _ _ c1 (m4 _ _ c4 (m3.extBut _ _ c2 (m2.extBut _ _ c3 (m1.extBut _ _ c1 x))))) ⟨oe, m5.extBut _ _ hez hoe, hce⟩
theorem walksZip (Z : Zap z TI TO i1 i2 f1 f2) (D1 : Draws prog w A.in1 i1 f1 n1 P1 S1) (D2 : Draws prog w A.in1 i2 f2 n2 P2 S2) :
    WalksT prog w A z (z :: TI :: TO :: (f1 ++ f2)) [z, TO, i1, i2] (min n1 n2) (fun i vals => ∃ x y, P1 i x ∧ P2 i y ∧ vals = #[x, y])
      (fun i h => IsZip h z TI TO .none ∧ IsPair h TI (.ref i1) (.ref i2) ∧ (∃ a b, IsPair h TO a b) ∧ S1 i h ∧ S2 i h)
      (fun i T h => IsZip h z TI TO (rawInt T) ∧ IsPair h TI (.ref i1) (.ref i2) ∧ (∃ a b, IsPair h TO a b) ∧ S1 (i + 1) h ∧ S2 (i + 1) h ∧ T ≠ z ∧ T ≠ TO ∧ T ≠ i1 ∧ T ≠ i2) where
  sub := fun c hc => by
    simp only [List.mem_cons, List.not_mem_nil, or_false] at hc
    rcases hc with rfl | rfl | rfl | rfl <;> simp [Z.a1, Z.a2]
  frame := fun i h h' hst k => by
    obtain ⟨a1, a2, ⟨x, y, a3⟩, a4, a5⟩ := hst
    exact ⟨k z (by simp) _ a1, k TI (by simp) _ a2, ⟨x, y, k TO (by simp) _ a3⟩, D1.frame _ _ _ a4 fun b hb o e => k b (by simp [hb]) o e, D2.frame _ _ _ a5 fun b hb o e => k b (by simp [hb]) o e⟩
  item := fun i s Q E hi hst q => by
    obtain ⟨a1, a2, ⟨x, y, a3⟩, a4, a5⟩ := hst
    have hT : s.TypeIs (.ref z) "zip" := ⟨_, a1, rfl⟩
    unfold pyNext
    refine wpAny_bind (wpAny_attempt (wpAny_callSpecial?_slot (name := Str.ofString "__next__") hT PySem.F.slot_zip_next (wpAny_call_entry PySem.F.slot_zip_next hT PySem.F.entry_zip_next (zipItem Z D1 D2 a1 a2 a3 a4 a5 (by omega) (by omega) fun g tk u v p1 p2 b1 b2 b3 b4 b5 b6 b7 => wpAny_pure ?_) (PySem.F.args_zip_next_1 _))))
    have lt : ∀ {c o}, s.heap.get? c = some o → s.heap.objs.size ≠ c := fun e => Nat.ne_of_gt (Heap.lt_size e)
    obtain ⟨o1, e1⟩ := D1.live _ _ a4
    obtain ⟨o2, e2⟩ := D2.live _ _ a5
    exact q s.heap.objs.size #[u, v] g tk ⟨u, v, p1, p2, rfl⟩ (Nat.le_refl _) ⟨_, b5, rfl, _, rfl⟩ ⟨b1, b7 _ _ Z.tz Z.tO Z.t1 Z.t2 a2, ⟨_, _, b2⟩, b3, b4, lt a1, lt a3, lt e1, lt e2⟩
      fun c o hc e => b7 c o (fun x => hc (by simp [x])) (fun x => hc (by simp [x])) (fun x => hc (by simp [x])) (fun x => hc (by simp [x])) e
  go := fun elts k pos i T s Q E hm q => by
    obtain ⟨a1, a2, ⟨x, y, a3⟩, a4, a5, _⟩ := hm
    exact wpAny_letOwnedTupleGo_zip a1 fun g b1 m => q g ⟨b1, m.extBut _ _ Z.tz a2, ⟨x, y, m.extBut _ _ Z.oz a3⟩, Draws.at D1 a4 m.extBut Z.z1, Draws.at D2 a5 m.extBut Z.z2⟩ fun c o hc e => m.extBut _ _ (fun x => hc (by simp [x])) e
  apart := fun i T h hm hT => by
    obtain ⟨_, _, _, _, _, t1, t2, t3, t4⟩ := hm
    simp only [List.mem_cons, List.not_mem_nil, or_false] at hT
    rcases hT with h | h | h | h
    · exact t1 h
    · exact t2 h
    · exact t3 h
    · exact t4 h
  done := fun s Q E hst q => by
    obtain ⟨a1, a2, ⟨x, y, a3⟩, a4, a5⟩ := hst
    have hT : s.TypeIs (.ref z) "zip" := ⟨_, a1, rfl⟩
    unfold pyNext
    refine wpAny_bind (wpAny_attempt (wpAny_callSpecial?_slot (name := Str.ofString "__next__") hT PySem.F.slot_zip_next (wpAny_call_entry PySem.F.slot_zip_next hT PySem.F.entry_zip_next (zipEnd Z D1 D2 a1 a2 a3 a4 a5 (by omega) fun g e tk hk he => ?_) (PySem.F.args_zip_next_1 _))))
    obtain ⟨o, ho, hc⟩ := he
    refine wpAny_bind (wpAny_isInstance (T := "StopIteration") (b := true) ⟨o, ho, hc⟩ isSubtype_stop (wpAny_pure (q _ tk fun c o hc e => ?_)))
    exact hk c o (fun x => hc (by simp [x])) (fun x => hc (by simp [x])) (fun x => hc (by simp [x])) (fun x => hc (by simp [x])) e
  self := fun i s Q E hst q => wpAny_pyIter_zip hst.1 q
end
noncomputable def ItO (k : Bool) (l : Addr) : Obj := { cls := .type (if k then "tuple_iterator" else "list_iterator"), data := .fields #[.ref l, .int 0 0] }
def Sq (k : Bool) (h : Heap) (l : Addr) (its : Array Value) : Prop := match k with
  | true => h.IsTuple l its
  | false => h.IsList l its
def It (k : Bool) (h : Heap) (j l : Addr) (i : Nat) : Prop := match k with
  | true => h.IsTupleIter j l i
  | false => h.IsListIter j l i
theorem Sq.keep {k : Bool} {h h' : Heap} {l : Addr} {its : Array Value} (a : Sq k h l its) (e : ∀ o, h.get? l = some o → h'.get? l = some o) : Sq k h' l its := by
  cases k <;> (obtain ⟨o, x, r⟩ := a; exact ⟨o, e o x, r⟩)
theorem Sq.lt {k : Bool} {h : Heap} {l : Addr} {its : Array Value} (a : Sq k h l its) : l < h.objs.size := by
  cases k <;> (obtain ⟨o, x, r⟩ := a; exact Heap.lt_size x)
theorem drawsSq {prog : Program} {w : World} {A : Around} (hh : A.handled = none) (k : Bool) (j c : Addr) (hne : c ≠ j) (its : Array Value) : Draws prog w A j [j, c] its.size (fun i v => its[i]? = some v) (fun i h => It k h j c i ∧ Sq k h c its) := by
  cases k with
  | true => exact drawsTup hh j c hne its
  | false => exact Draws.list hh j c hne its
section
variable {prog : Program} {w : World} {A : Around} {E : Value → Shared → Prop} {s : Shared}
theorem iterSq {k : Bool} {l : Addr} {its : Array Value} {Q : Value → Shared → Prop} (a : Sq k s.heap l its) (q : Q (.ref s.heap.objs.size) { s with heap := s.heap.push (ItO k l) }) : wpAny (model prog w) A (pyIter (.ref l)) Q E s := by
  cases k with
  | true => exact wpAny_pyIter_tuple a q
  | false => exact wpAny_pyIter_list a q
theorem it0 {k : Bool} {h : Heap} {l : Addr} : It k (h.push (ItO k l)) h.objs.size l 0 := by
  cases k <;> exact ⟨_, Heap.get?_push_size _ rfl, rfl, rfl⟩
theorem It.keep {k : Bool} {h h' : Heap} {j l : Addr} {i : Nat} (a : It k h j l i) (e : ∀ o, h.get? j = some o → h'.get? j = some o) : It k h' j l i := by
  cases k <;> (obtain ⟨o, x, r⟩ := a; exact ⟨o, e o x, r⟩)
end
noncomputable def zh (h : Heap) (k1 k2 : Bool) (l1 l2 : Addr) : Heap :=
  ((((h.push (ItO k1 l1)).push (ItO k2 l2)).push { cls := .type "tuple", data := .seq #[.ref h.objs.size, .ref (h.push (ItO k1 l1)).objs.size] }).push { cls := .type "tuple", data := .seq #[.none, .none] }).push
    { cls := .type "zip", data := .fields #[.none, .bool false, .bool false, .ref ((h.push (ItO k1 l1)).push (ItO k2 l2)).objs.size, .ref (((h.push (ItO k1 l1)).push (ItO k2 l2)).push { cls := .type "tuple", data := .seq #[.ref h.objs.size, .ref (h.push (ItO k1 l1)).objs.size] }).objs.size] }
theorem zipNew (k1 k2 : Bool) (l1 l2 : Addr) (xs ys : Array Value) : Meets (Builtin.«zip.__new__» ⟨[.type "zip", .ref l1, .ref l2], []⟩) (fun _ R s => Sq k1 s.heap l1 xs ∧ Sq k2 s.heap l2 ys ∧
      R (.ok (.ret (.ref (s.heap.objs.size + 4)))) { s with heap := zh s.heap k1 k2 l1 l2 }) :=
  .of_wp fun prog w A R s h => by
    obtain ⟨hp, g, d, tk, os⟩ := s
    obtain ⟨b1, b2, h⟩ := h
    have hsub := sub_zip
    have c1 : Sq k1 (Shared.heap ⟨hp, g, d, tk, os⟩) l1 xs := b1
    have c2 : Sq k2 (Shared.heap ⟨hp.push (ItO k1 l1), g, d, tk, os⟩) l2 ys := b2.keep fun o e => Heap.get?_push_of_some _ e
    wp_walk using iterSq c1, iterSq c2
    refine ⟨_, rfl, ?_⟩
    have e : ∀ (h : Heap) (o : Obj), (h.push o).objs.size = h.objs.size + 1 := fun h o => Heap.size_push ..
    simp only [zh, e] at h ⊢
    exact h
section
variable {prog : Program} {w : World} {A : Around} {E : Value → Shared → Prop} {s : Shared}
theorem callZip {k1 k2 : Bool} {l1 l2 : Addr} {xs ys : Array Value} {Q : Value → Shared → Prop} (a1 : Sq k1 s.heap l1 xs) (a2 : Sq k2 s.heap l2 ys)
    (q : ∀ g, IsZip g (s.heap.objs.size + 4) (s.heap.objs.size + 2) (s.heap.objs.size + 3) .none → IsPair g (s.heap.objs.size + 2) (.ref s.heap.objs.size) (.ref (s.heap.objs.size + 1)) → IsPair g (s.heap.objs.size + 3) .none .none →
      It k1 g s.heap.objs.size l1 0 → It k2 g (s.heap.objs.size + 1) l2 0 → (∀ c o, s.heap.get? c = some o → g.get? c = some o) → Q (.ref (s.heap.objs.size + 4)) { s with heap := g }) :
    wpAny (model prog w) A (call (.type "zip") [.ref l1, .ref l2]) Q E s := by
  refine callType_new PySem.F.called_zip (by decide) (PySem.F.typeCall_zip_2 _ _) (PySem.F.newCall_zip_2 _ _) (fun obj => PySem.F.args_object_init_3 obj _ _) PySem.F.entry_zip_new (zipNew k1 k2 l1 l2 xs ys) ⟨a1, a2, ?_⟩
  have e : ∀ (h : Heap) (o : Obj), (h.push o).objs.size = h.objs.size + 1 := fun h o => Heap.size_push ..
  have up : ∀ c o, s.heap.get? c = some o → (zh s.heap k1 k2 l1 l2).get? c = some o := fun c o x => Heap.get?_push_of_some _ (Heap.get?_push_of_some _ (Heap.get?_push_of_some _ (Heap.get?_push_of_some _ (Heap.get?_push_of_some _ x))))
  have b5 : (zh s.heap k1 k2 l1 l2).get? (s.heap.objs.size + 4) = some { cls := .type "zip", data := .fields #[.none, .bool false, .bool false, .ref (s.heap.objs.size + 2), .ref (s.heap.objs.size + 3)] } := by
    unfold zh; simp only [e]
    have := Heap.get?_push_size ((((s.heap.push (ItO k1 l1)).push (ItO k2 l2)).push { cls := .type "tuple", data := .seq #[.ref s.heap.objs.size, .ref (s.heap.objs.size + 1)] }).push { cls := .type "tuple", data := .seq #[.none, .none] }) (o := { cls := .type "zip", data := .fields #[.none, .bool false, .bool false, .ref (s.heap.objs.size + 2), .ref (s.heap.objs.size + 3)] }) rfl
    simp only [e] at this
    exact this
  have b4 : (zh s.heap k1 k2 l1 l2).get? (s.heap.objs.size + 3) = some { cls := .type "tuple", data := .seq #[.none, .none] } := by
    unfold zh; simp only [e]
    refine Heap.get?_push_of_some _ ?_
    have := Heap.get?_push_size (((s.heap.push (ItO k1 l1)).push (ItO k2 l2)).push { cls := .type "tuple", data := .seq #[.ref s.heap.objs.size, .ref (s.heap.objs.size + 1)] }) (o := { cls := .type "tuple", data := .seq #[.none, .none] }) rfl
    simp only [e] at this
    exact this
  have b3 : (zh s.heap k1 k2 l1 l2).get? (s.heap.objs.size + 2) = some { cls := .type "tuple", data := .seq #[.ref s.heap.objs.size, .ref (s.heap.objs.size + 1)] } := by
    unfold zh; simp only [e]
    refine Heap.get?_push_of_some _ (Heap.get?_push_of_some _ ?_)
    have := Heap.get?_push_size ((s.heap.push (ItO k1 l1)).push (ItO k2 l2)) (o := { cls := .type "tuple", data := .seq #[.ref s.heap.objs.size, .ref (s.heap.objs.size + 1)] }) rfl
    simp only [e] at this
    exact this
  have b2 : It k2 (zh s.heap k1 k2 l1 l2) (s.heap.objs.size + 1) l2 0 := by
    have := it0 (k := k2) (h := s.heap.push (ItO k1 l1)) (l := l2)
    rw [e] at this
    exact this.keep fun o x => Heap.get?_push_of_some _ (Heap.get?_push_of_some _ (Heap.get?_push_of_some _ x))
  have b1 : It k1 (zh s.heap k1 k2 l1 l2) s.heap.objs.size l1 0 := (it0 (k := k1) (h := s.heap) (l := l1)).keep fun o x => Heap.get?_push_of_some _ (Heap.get?_push_of_some _ (Heap.get?_push_of_some _ (Heap.get?_push_of_some _ x)))
  exact ⟨⟨_, b5, rfl⟩, q _ b5 b3 b4 b1 b2 up⟩
end
noncomputable def eh (h : Heap) (k : Bool) (l : Addr) : Heap := (h.push (ItO k l)).push { cls := .type "enumerate", data := .fields #[.none, .bool false, .ref h.objs.size, rawInt 0, .none, .none] }
theorem enumNew (k : Bool) (l : Addr) (its : Array Value) : Meets (Builtin.«enumerate.__new__» ⟨[.type "enumerate", .ref l], []⟩) (fun _ R s => Sq k s.heap l its ∧ R (.ok (.ret (.ref (s.heap.objs.size + 1)))) { s with heap := eh s.heap k l }) :=
  .of_wp fun prog w A R s h => by
    obtain ⟨hp, g, d, tk, os⟩ := s
    obtain ⟨b1, h⟩ := h
    have c1 : Sq k (Shared.heap ⟨hp, g, d, tk, os⟩) l its := b1
    have e : (hp.push (ItO k l)).objs.size = hp.objs.size + 1 := Heap.size_push ..
    have sub := sub_enumerate
    rw [show (Shared.heap ⟨hp, g, d, tk, os⟩) = hp from rfl, ← e] at h
    have key : ∀ {kk : Bool}, kk = k → ∃ (cl : Value) (dd : Option Addr) (n : Nat) (sl : Array (Option Value)), hp.get? l = some { cls := cl, dict := dd, data := .seq its n, slots := sl } ∧ cl = .type (if kk then "tuple" else "list") := fun {kk} ek => by
      subst ek
      cases kk with
      | false => obtain ⟨⟨c, dd, dt, sl⟩, hl, hc, n, hd⟩ := id c1; cases hc; cases hd; exact ⟨_, dd, n, sl, hl, rfl⟩
      | true => obtain ⟨⟨c, dd, dt, sl⟩, hl, hc, n, hd⟩ := id c1; cases hc; cases hd; exact ⟨_, dd, n, sl, hl, rfl⟩
    obtain ⟨cl, dd, n, sl, hl, ec⟩ := key rfl
    subst ec
    cases k with
    | false =>
      wp_walk using wpAny_loadPart' hl
      refine wpAny_stack_any fun st => wpAny_pure ?_
      split
      · rename_i c _ _ _ _ _
        cases (c == Value.type "enumerate") <;> (wp_walk using wpAny_loadPart' hl, iterSq c1; exact ⟨_, rfl, h⟩)
      · wp_walk using wpAny_loadPart' hl, iterSq c1
        exact ⟨_, rfl, h⟩
    | true =>
      wp_walk using wpAny_loadPart' hl
      refine wpAny_stack_any fun st => wpAny_pure ?_
      split
      · rename_i c _ _ _ _ _
        cases (c == Value.type "enumerate") <;> (wp_walk using wpAny_loadPart' hl, iterSq c1; exact ⟨_, rfl, h⟩)
      · wp_walk using wpAny_loadPart' hl, iterSq c1
        exact ⟨_, rfl, h⟩
section
variable {prog : Program} {w : World} {A : Around} {E : Value → Shared → Prop} {s : Shared}
theorem callEnum {k : Bool} {l : Addr} {its : Array Value} {Q : Value → Shared → Prop} (a : Sq k s.heap l its)
    (q : ∀ g, IsEnum g (s.heap.objs.size + 1) s.heap.objs.size 0 .none → It k g s.heap.objs.size l 0 → (∀ c o, s.heap.get? c = some o → g.get? c = some o) → Q (.ref (s.heap.objs.size + 1)) { s with heap := g }) :
    wpAny (model prog w) A (call (.type "enumerate") [.ref l]) Q E s := by
  refine callType_new PySem.F.called_enumerate (by decide) (PySem.F.typeCall_enumerate_1 _) (PySem.F.newCall_enumerate_1 _) (fun obj => PySem.F.args_object_init_2 obj _) PySem.F.entry_enumerate_new (enumNew k l its) ⟨a, ?_⟩
  have e : (s.heap.push (ItO k l)).objs.size = s.heap.objs.size + 1 := Heap.size_push ..
  have b2 : (eh s.heap k l).get? (s.heap.objs.size + 1) = some { cls := .type "enumerate", data := .fields #[.none, .bool false, .ref s.heap.objs.size, rawInt 0, .none, .none] } := by
    unfold eh
    rw [← e]
    exact Heap.get?_push_size _ rfl
  have b1 : It k (eh s.heap k l) s.heap.objs.size l 0 := (it0 (k := k) (h := s.heap) (l := l)).keep fun o x => Heap.get?_push_of_some _ x
  exact ⟨⟨_, b2, rfl⟩, q _ b2 b1 fun c o x => Heap.get?_push_of_some _ (Heap.get?_push_of_some _ x)⟩
end
end PFZ
namespace PF
open PySem PySem.Spec PyProof.Rows L2
section
variable {X : Cx} {T : Tab} {W k : Nat} {pins : List (Addr × Obj)} {σ : St} {H : Hp} {s : Shared} {mu : List Addr} {S : Sto} {c : Cl}
theorem inv_ch {h' : Heap} {ch : List Addr} {t' : Nat} (I : Inv X pins σ H s) (hf : ∀ b ∈ ch, FpOk X pins H b) (k : ∀ b o, b ∉ ch → s.heap.get? b = some o → h'.get? b = some o) : Inv X pins σ H { s with heap := h', toks := t' } := by
  refine I.step (g' := s.gens) (d' := s.drawn) (ch := ch) (fun b hb => ?_) (fun b o _ _ hc e _ => k b o hc e) (fun b o _ _ hc e _ => ⟨o.slots, k b o hc e⟩) (fun _ _ _ _ n => n)
    (fun b o hc e => ⟨o, k b o hc e⟩) (fun _ _ e => e) (fun _ _ _ e => e) (fun b ps e => ⟨#[], by rw [e]; simp⟩) (fun m hm => ?_) (fun b u e => ?_) I.bare
  · obtain ⟨f0, f1, f2, f3, f4, f5⟩ := hf b hb
    exact ⟨f3, f1, f4, f5⟩
  · obtain ⟨o, es, ep, ho, r⟩ := hm
    exact ⟨o, es, ep, k _ o (fun z => (hf _ z).2.1 rfl) ho, r⟩
  · have nt : ∀ c u, H c = some u → c ∉ ch := fun c u e z => by rw [(hf c z).1] at e; cases e
    refine (I.hok b u e).stay (fun c v hc q => k c v ?_ q) (fun _ q => q) fun _ _ q => q
    rcases hc with z | z
    · rw [z]; exact nt b u e
    · exact nt c _ z
theorem inv_tup {h' : Heap} {ch : List Addr} {t' : Nat} {T : Addr} {xs : List V} (I : Inv X pins σ H s) (hf : ∀ b ∈ ch, FpOk X pins H b) (k : ∀ b o, b ∉ ch → s.heap.get? b = some o → h'.get? b = some o) (hT : s.heap.objs.size ≤ T)
    (new : ObjOk X.prog X.w (upd H T (.tup xs)) h' T (.tup xs)) : Inv X pins σ (upd H T (.tup xs)) { s with heap := h', toks := t' } := by
  have hn : H T = none := I.hok.fresh hT
  have old : ∀ b o, s.heap.get? b = some o → b ≠ T := fun b o e => Nat.ne_of_lt (Nat.lt_of_lt_of_le (Heap.lt_size e) hT)
  refine I.step (g' := s.gens) (d' := s.drawn) (ch := ch) (fun b hb => ?_) (fun b o _ _ hc e _ => k b o hc e) (fun b o _ _ hc e _ => ⟨o.slots, k b o hc e⟩) (fun b o _ e n => by rw [upd_ne (old b o e)]; exact n)
    (fun b o hc e => ⟨o, k b o hc e⟩) (fun b xs e => by rw [upd_ne (ne_of_none e hn)]; exact e) (fun b o u e => by rw [upd_ne (ne_of_none e hn)]; exact e) (fun b ps e => ⟨#[], by rw [upd_ne (ne_of_none e hn), e]; simp⟩) (fun m hm => ?_) (fun b u e => ?_) I.bare
  · obtain ⟨f0, f1, f2, f3, f4, f5⟩ := hf b hb
    exact ⟨f3, f1, f4, f5⟩
  · obtain ⟨o, es, ep, ho, r⟩ := hm
    exact ⟨o, es, ep, k _ o (fun z => (hf _ z).2.1 rfl) ho, r⟩
  · by_cases hb : b = T
    · subst hb; rw [upd_same] at e; cases e; exact new
    · rw [upd_ne hb] at e
      have nt : ∀ c u, H c = some u → c ∉ ch := fun c u e z => by rw [(hf c z).1] at e; cases e
      refine (I.hok b u e).stay (fun c v hc q => k c v ?_ q) (fun c q => by rw [upd_ne (ne_of_none q hn)]; exact q) fun c xs q => by rw [upd_ne (ne_of_none q hn)]; exact q
      rcases hc with z | z
      · rw [z]; exact nt b u e
      · exact nt c _ z
def SqK (k : Bool) (K : Frag) (H : Hp) (l : Addr) (xs : List V) : Prop := if k then SqT K H l xs else SqL K H l xs
theorem Inv.sq {k : Bool} {l : Addr} {xs : List V} (I : Inv X pins σ H s) (h : SqK k X.K H l xs) : ∃ its : List Value, Vals xs its ∧ PFZ.Sq k s.heap l its.toArray := by
  cases k with
  | true => obtain ⟨its, r, p, _⟩ := I.tuple (show SqT X.K H l xs from h); exact ⟨its, r, p⟩
  | false => obtain ⟨its, r, p, _⟩ := I.list (show SqL X.K H l xs from h); exact ⟨its, r, p.isList⟩
theorem Inv.sq_inj {k : Bool} {l : Addr} {xs ys : List V} (I : Inv X pins σ H s) (h : SqK k X.K H l xs) (h' : SqK k X.K H l ys) : xs = ys := by
  cases k with
  | true => exact I.tuple_inj (show SqT X.K H l xs from h) h'
  | false => exact I.list_inj (show SqL X.K H l xs from h) h'
theorem vals_at {K : Frag} {d : D} {ds : List D} {v : V} (h : vals d = some ds) (r : RD K mu H d v) : ∃ k a xs, v = .ref a ∧ SqK k K H a xs ∧ RDs K mu H ds xs ∧ (d = .lst ds ∧ k = false ∨ d = .tup ds ∧ k = true) := by
  cases d with
  | lst es =>
    cases h
    obtain ⟨a, xs, e, q, r⟩ := r.lst_at
    exact ⟨false, a, xs, e, q, r, .inl ⟨rfl, rfl⟩⟩
  | tup es =>
    cases h
    obtain ⟨a, xs, e, q, r⟩ := r.tup_at
    exact ⟨true, a, xs, e, q, r, .inr ⟨rfl, rfl⟩⟩
  | _ => cases h
theorem vals_sq {K : Frag} {d : D} {ds : List D} {a : Addr} {k : Bool} (h : d = .lst ds ∧ k = false ∨ d = .tup ds ∧ k = true) (r : RD K mu H d (.ref a)) : ∃ xs, SqK k K H a xs ∧ RDs K mu H ds xs := by
  rcases h with ⟨rfl, rfl⟩ | ⟨rfl, rfl⟩
  · obtain ⟨b, xs, e, q, r⟩ := r.lst_at
    cases e; exact ⟨xs, q, r⟩
  · obtain ⟨b, xs, e, q, r⟩ := r.tup_at
    cases e; exact ⟨xs, q, r⟩
noncomputable def Ite (K : Frag) (kk : Bool) (l : Addr) : It :=
  ⟨fun i H => ∃ xs x, SqK kk K H l xs ∧ xs[i]? = some x, fun i H x H' => ∃ p v, (∀ xs, SqK kk K H l xs → xs[i]? = some v) ∧ H p = none ∧ H' = upd H p (.tup [.int i, v]) ∧ x = .ref p, fun i H => ∃ xs, SqK kk K H l xs ∧ xs.length = i⟩
theorem turn_enum {P : Program} {w : World} {K : Frag} {es : List Expr} {j : Nat} {pos : Pos} (kk : Bool) (l e it : Addr) (hei : e ≠ it) (hle : l ≠ e) (hli : l ≠ it) :
    Turn P w K (.Tuple es j pos) (Ite K kk l) [e, it] e (fun i h => (∃ old, IsEnum h e it i old) ∧ PFZ.It kk h it l i) where
  mem := by simp
  obj := fun i h st b hb => by
    obtain ⟨⟨old, h1⟩, h2⟩ := st
    rcases List.mem_cons.mp hb with rfl | hb
    · exact ⟨_, h1, fun v z => by cases z⟩
    · have e : b = it := by simpa using hb
      subst e
      cases kk <;> (obtain ⟨o, e, c, d⟩ := h2; exact ⟨o, e, fun v z => by rw [d] at z; cases z⟩)
  keep := fun i h h' st k => by
    obtain ⟨⟨old, h1⟩, h2⟩ := st
    exact ⟨⟨old, k e (by simp) _ h1⟩, h2.keep fun o x => k it (by simp) o x⟩
  item := by
    intro X hP hw hK hc i pins s σ H E I hf st hg
    subst hP hw hK
    obtain ⟨xs, x, hq, hx⟩ := hg
    obtain ⟨its, rv, p⟩ := Inv.sq I hq
    obtain ⟨u, hu, ru⟩ := rv.get hx
    have W := WalksT.enumerateD (prog := X.prog) (w := X.w) (PFZ.drawsSq (A := X.A.in1) (I.ok.hd hc) kk it l hli its.toArray) e hei (by simp [hei, hle.symm]) (by simp)
    have hi : i < its.toArray.size := by
      have := (List.getElem?_eq_some_iff.mp hu).1
      simpa using this
    refine W.item i s _ _ hi ⟨st.1, st.2, p⟩ fun T vals h' tk hP hT hTup hM hk => ?_
    obtain ⟨t, y, hy, rfl⟩ := hP
    have ey : y = u := by
      have h1 : its.toArray[i]? = some u := by simpa using hu
      rw [h1] at hy; exact (Option.some.inj hy).symm
    subst ey
    have hk' : ∀ b o, b ∉ [e, it] → s.heap.get? b = some o → h'.get? b = some o := hk
    refine ⟨.ref T, rfl, ?_⟩
    refine W.go es j pos i T { s with heap := h', toks := tk } _ _ hM fun h2 st2 hk2 => ?_
    have hTw : T ∉ [e, it] := W.apart i T _ hM
    obtain ⟨oT, hoT, hcT, nT, hdT⟩ := hTup
    have hf2 : ∀ b ∈ [e, it], FpOk X pins H b := hf
    have I1 : Inv X pins σ (upd H T (.tup [.int i, x])) { s with heap := h2, toks := tk } := by
      refine inv_tup (ch := [e, it]) I hf2 (fun b o hb q => hk2 b o hb (hk' b o hb q)) hT ?_
      exact ⟨by rw [line_eq]; show 2 ≤ line; decide, [.int i t, y], .cons ⟨t, rfl⟩ (.cons ru .nil), ⟨oT, hk2 T oT hTw hoT, hcT, nT, by simpa using hdT⟩⟩
    refine ⟨.ref T, _, I1, rfl, ⟨T, x, fun ys hy => by rw [Inv.sq_inj I hy hq]; exact hx, I.hok.fresh hT, rfl, rfl⟩, ⟨st2.1, st2.2.1⟩, fun b hb => ?_⟩
    rw [upd_ne]
    · exact (hf b hb).1
    · intro z; subst z; exact hTw hb
  done := by
    intro X hP hw hK hc i pins s σ H E I hf st hg
    subst hP hw hK
    obtain ⟨xs, hq, hx⟩ := hg
    obtain ⟨its, rv, p⟩ := Inv.sq I hq
    have W := WalksT.enumerateD (prog := X.prog) (w := X.w) (PFZ.drawsSq (A := X.A.in1) (I.ok.hd hc) kk it l hli its.toArray) e hei (by simp [hei, hle.symm]) (by simp)
    have hl := rv.length
    have hn : its.toArray.size = i := by rw [List.size_toArray, ← hl]; exact hx
    refine W.done s _ _ (by rw [hn]; exact ⟨st.1, st.2, p⟩) fun h' tk hx' => ⟨rfl, inv_ch (t' := tk) (ch := [e, it]) I hf fun b o hb q => hx' b o hb q⟩
  self := fun _ _ _ _ _ st h => by
    obtain ⟨⟨old, h1⟩, h2⟩ := st
    exact wpAny_pyIter_enum h1 h
noncomputable def Itz (K : Frag) (k1 k2 : Bool) (l1 l2 : Addr) : It :=
  ⟨fun i H => ∃ xs ys x y, SqK k1 K H l1 xs ∧ SqK k2 K H l2 ys ∧ xs[i]? = some x ∧ ys[i]? = some y,
   fun i H x H' => ∃ p u v, (∀ xs, SqK k1 K H l1 xs → xs[i]? = some u) ∧ (∀ ys, SqK k2 K H l2 ys → ys[i]? = some v) ∧ H p = none ∧ H' = upd H p (.tup [u, v]) ∧ x = .ref p,
   fun i H => ∃ xs ys, SqK k1 K H l1 xs ∧ SqK k2 K H l2 ys ∧ min xs.length ys.length = i⟩
theorem turn_zip {P : Program} {w : World} {K : Frag} {es : List Expr} {j : Nat} {pos : Pos} (k1 k2 : Bool) (l1 l2 z TI TO i1 i2 : Addr) (h1 : l1 ≠ i1) (h2 : l2 ≠ i2) (Z : PFZ.Zap z TI TO i1 i2 [i1, l1] [i2, l2]) :
    Turn P w K (.Tuple es j pos) (Itz K k1 k2 l1 l2) [z, TO, TI, i1, i2] z (fun i h => IsZip h z TI TO .none ∧ IsPair h TI (.ref i1) (.ref i2) ∧ (∃ a b, IsPair h TO a b) ∧ PFZ.It k1 h i1 l1 i ∧ PFZ.It k2 h i2 l2 i) where
  mem := by simp
  obj := fun i h st b hb => by
    obtain ⟨a1, a2, ⟨x, y, a3⟩, a4, a5⟩ := st
    simp only [List.mem_cons, List.not_mem_nil, or_false] at hb
    rcases hb with rfl | rfl | rfl | rfl | rfl
    · exact ⟨_, a1, fun v z => by cases z⟩
    · exact ⟨_, a3, fun v z => by cases z⟩
    · exact ⟨_, a2, fun v z => by cases z⟩
    · cases k1 <;> (obtain ⟨o, e, c, d⟩ := a4; exact ⟨o, e, fun v z => by rw [d] at z; cases z⟩)
    · cases k2 <;> (obtain ⟨o, e, c, d⟩ := a5; exact ⟨o, e, fun v z => by rw [d] at z; cases z⟩)
  keep := fun i h h' st k => by
    obtain ⟨a1, a2, ⟨x, y, a3⟩, a4, a5⟩ := st
    exact ⟨k z (by simp) _ a1, k TI (by simp) _ a2, ⟨x, y, k TO (by simp) _ a3⟩, a4.keep fun o x => k i1 (by simp) o x, a5.keep fun o x => k i2 (by simp) o x⟩
  item := by
    intro X hP hw hK hc i pins s σ H E I hf st hg
    subst hP hw hK
    obtain ⟨xs, ys, x, y, q1, q2, hx, hy⟩ := hg
    obtain ⟨its1, rv1, p1⟩ := Inv.sq I q1
    obtain ⟨its2, rv2, p2⟩ := Inv.sq I q2
    obtain ⟨u, hu, ru⟩ := rv1.get hx
    obtain ⟨v, hv, rv⟩ := rv2.get hy
    have W := PFZ.walksZip (prog := X.prog) (w := X.w) (A := X.A) Z (PFZ.drawsSq (A := X.A.in1) (I.ok.hd hc) k1 i1 l1 h1 its1.toArray) (PFZ.drawsSq (A := X.A.in1) (I.ok.hd hc) k2 i2 l2 h2 its2.toArray)
    have hi : i < min its1.toArray.size its2.toArray.size := by
      have a := (List.getElem?_eq_some_iff.mp hu).1
      have b := (List.getElem?_eq_some_iff.mp hv).1
      simp only [List.size_toArray]; omega
    obtain ⟨a1, a2, a3, a4, a5⟩ := st
    refine W.item i s _ _ hi ⟨a1, a2, a3, ⟨a4, p1⟩, ⟨a5, p2⟩⟩ fun T vals h' tk hP hT hTup hM hk => ?_
    obtain ⟨u', v', hu', hv', rfl⟩ := hP
    have eu : u' = u := by
      have z1 : its1.toArray[i]? = some u := by simpa using hu
      rw [z1] at hu'; exact (Option.some.inj hu').symm
    have ev : v' = v := by
      have z1 : its2.toArray[i]? = some v := by simpa using hv
      rw [z1] at hv'; exact (Option.some.inj hv').symm
    subst eu ev
    refine ⟨.ref T, rfl, ?_⟩
    refine W.go es j pos i T { s with heap := h', toks := tk } _ _ hM fun h3 st3 hk3 => ?_
    have hTw : T ∉ [z, TO, i1, i2] := W.apart i T _ hM
    obtain ⟨oT, hoT, hcT, nT, hdT⟩ := hTup
    have sub : ∀ b ∈ [z, TO, i1, i2], b ∈ [z, TO, TI, i1, i2] := fun b hb => by
      simp only [List.mem_cons, List.not_mem_nil, or_false] at hb ⊢
      rcases hb with h | h | h | h <;> simp [h]
    have hf2 : ∀ b ∈ [z, TO, i1, i2], FpOk X pins H b := fun b hb => hf b (sub b hb)
    have I1 : Inv X pins σ (upd H T (.tup [x, y])) { s with heap := h3, toks := tk } := by
      refine inv_tup (ch := [z, TO, i1, i2]) I hf2 (fun b o hb q => hk3 b o hb (hk b o hb q)) hT ?_
      exact ⟨by rw [line_eq]; show 2 ≤ line; decide, [u', v'], .cons ru (.cons rv .nil), ⟨oT, hk3 T oT hTw hoT, hcT, nT, by simpa using hdT⟩⟩
    obtain ⟨b1, b2, b3, b4, b5⟩ := st3
    refine ⟨.ref T, _, I1, rfl, ⟨T, x, y, fun zs hz => by rw [Inv.sq_inj I hz q1]; exact hx, fun zs hz => by rw [Inv.sq_inj I hz q2]; exact hy, I.hok.fresh hT, rfl, rfl⟩, ⟨b1, b2, b3, b4.1, b5.1⟩, fun b hb => ?_⟩
    rw [upd_ne]
    · exact (hf b hb).1
    · intro e
      subst e
      have hTI : b ≠ TI := fun e => by
        have h9 := Heap.lt_size a2
        rw [← e] at h9
        exact Nat.lt_irrefl _ (Nat.lt_of_lt_of_le h9 hT)
      simp only [List.mem_cons, List.not_mem_nil, or_false] at hb hTw
      rcases hb with h | h | h | h | h
      · exact hTw (.inl h)
      · exact hTw (.inr (.inl h))
      · exact hTI h
      · exact hTw (.inr (.inr (.inl h)))
      · exact hTw (.inr (.inr (.inr h)))
  done := by
    intro X hP hw hK hc i pins s σ H E I hf st hg
    subst hP hw hK
    obtain ⟨xs, ys, q1, q2, hx⟩ := hg
    obtain ⟨its1, rv1, p1⟩ := Inv.sq I q1
    obtain ⟨its2, rv2, p2⟩ := Inv.sq I q2
    have W := PFZ.walksZip (prog := X.prog) (w := X.w) (A := X.A) Z (PFZ.drawsSq (A := X.A.in1) (I.ok.hd hc) k1 i1 l1 h1 its1.toArray) (PFZ.drawsSq (A := X.A.in1) (I.ok.hd hc) k2 i2 l2 h2 its2.toArray)
    have e1 := rv1.length
    have e2 := rv2.length
    have hn : min its1.toArray.size its2.toArray.size = i := by rw [List.size_toArray, List.size_toArray, ← e1, ← e2]; exact hx
    obtain ⟨a1, a2, a3, a4, a5⟩ := st
    have sub : ∀ b ∈ [z, TO, i1, i2], b ∈ [z, TO, TI, i1, i2] := fun b hb => by
      simp only [List.mem_cons, List.not_mem_nil, or_false] at hb ⊢
      rcases hb with h | h | h | h <;> simp [h]
    exact W.done s _ _ (by rw [hn]; exact ⟨a1, a2, a3, ⟨a4, p1⟩, ⟨a5, p2⟩⟩) fun h' tk hx' => ⟨rfl, inv_ch (t' := tk) (ch := [z, TO, i1, i2]) I (fun b hb => hf b (sub b hb)) fun b o hb q => hx' b o hb q⟩
  self := fun _ _ _ _ _ st h => wpAny_pyIter_zip st.1 h
noncomputable def iEnum (K : Frag) (tl : TE) : TI := fun σ H R => tl σ H fun x H1 => ∃ kk a, x = .ref a ∧ (∃ xs, SqK kk K H1 a xs) ∧ R (Ite K kk a) H1
theorem pi_enum {l : Expr} {es : List Expr} {j : Nat} {tpos p pos : Pos} {tl : TE} (hg : Gl X "enumerate") (hm : X.mg "enumerate" = none) (hl : PE X l tl) (hs : notStar l = true) : PI X (.Tuple es j tpos) (.Call (.Name "enumerate" p) [l] [] pos) (iEnum X.K tl) := by
  intro pins s σ H R I h
  have arg : tCons tl tNil σ H fun vs H1 => ∃ kk a, vs = [.ref a] ∧ (∃ xs, SqK kk X.K H1 a xs) ∧ R (Ite X.K kk a) H1 := by
    show tl σ H _
    have e : (fun x H1 => ∃ kk a, [x] = [V.ref a] ∧ (∃ xs, SqK kk X.K H1 a xs) ∧ R (Ite X.K kk a) H1) = fun (x : V) (H1 : Hp) => ∃ kk a, x = .ref a ∧ (∃ xs, SqK kk X.K H1 a xs) ∧ R (Ite X.K kk a) H1 := by
      funext x H1
      simp
    exact (show tl σ H (fun x H1 => ∃ kk a, [x] = [V.ref a] ∧ (∃ xs, SqK kk X.K H1 a xs) ∧ R (Ite X.K kk a) H1) by rw [e]; exact h)
  refine Call_ (ld_blt I hg hm boot_enumerate (PyProof.Rows.callWith_type1 (thn (pa_cons hl pa_nil (star_ok hs) pos pins s σ H _ I arg) fun us s1 ⟨vs, H1, I1, r1, q1⟩ => ?_) (star_ok hs) rfl))
  obtain ⟨kk, a, rfl, ⟨xs, hq⟩, q⟩ := q1
  obtain ⟨u, rfl, ru⟩ := vals1 r1
  cases ru
  obtain ⟨its, rv, pl⟩ := Inv.sq I1 hq
  have hlt : a < s1.heap.objs.size := pl.lt
  refine PFZ.callEnum pl fun h' he hit hk => ?_
  have I2 : Inv X pins σ H1 { s1 with heap := h' } := I1.kept (t' := s1.toks) hk
  refine wpAny_pyIter_enum he ?_
  refine ⟨_, [_, _], _, _, H1, rfl, I2, turn_enum kk a (s1.heap.objs.size + 1) s1.heap.objs.size (Nat.succ_ne_self _) (Nat.ne_of_lt (Nat.lt_succ_of_lt hlt)) (Nat.ne_of_lt hlt), ⟨⟨_, he⟩, hit⟩, fun b hb => ?_, q⟩
  have hb' : s1.heap.objs.size ≤ b := by
    rcases List.mem_cons.mp hb with z | z
    · rw [z]; exact Nat.le_succ _
    · have : b = s1.heap.objs.size := by simpa using z
      rw [this]; exact Nat.le_refl _
  exact I1.fpOk hb' (I1.hok.fresh hb')
noncomputable def iZip (K : Frag) (ta tb : TE) : TI := fun σ H R => ta σ H fun x H1 => tb σ H1 fun y H2 => ∃ k1 k2 a b, x = .ref a ∧ y = .ref b ∧ (∃ xs, SqK k1 K H2 a xs) ∧ (∃ ys, SqK k2 K H2 b ys) ∧ R (Itz K k1 k2 a b) H2
theorem boot_zip' : bootBuiltins "zip" = some (.type "zip") := by decide +kernel
theorem zap_new {n a b : Nat} (h1 : a < n) (h2 : b < n) : PFZ.Zap (n + 4) (n + 2) (n + 3) n (n + 1) [n, a] [n + 1, b] := by
  have nm : ∀ {x y z : Nat}, x ≠ y → x ≠ z → x ∉ [y, z] := fun {x y z} a b => by simp [a, b]
  exact ⟨by simp, by simp, nm (by omega) (by omega), nm (by omega) (by omega), nm (by omega) (by omega), nm (by omega) (by omega), nm (by omega) (by omega), nm (by omega) (by omega),
    (by omega : (n + 2 : Nat) ≠ n + 4), (by omega : (n + 2 : Nat) ≠ n + 3), (by omega : (n + 2 : Nat) ≠ n), (by omega : (n + 2 : Nat) ≠ n + 1), (by omega : (n + 3 : Nat) ≠ n + 4)⟩
theorem pi_zip {l m : Expr} {es : List Expr} {j : Nat} {tpos p pos : Pos} {ta tb : TE} (hg : Gl X "zip") (hm : X.mg "zip" = none) (hl : PE X l ta) (hr : PE X m tb) (hs : notStar l = true) (hs2 : notStar m = true) : PI X (.Tuple es j tpos) (.Call (.Name "zip" p) [l, m] [] pos) (iZip X.K ta tb) := by
  intro pins s σ H R I h
  have arg : tCons ta (tCons tb tNil) σ H fun vs H1 => ∃ k1 k2 a b, vs = [.ref a, .ref b] ∧ (∃ xs, SqK k1 X.K H1 a xs) ∧ (∃ ys, SqK k2 X.K H1 b ys) ∧ R (Itz X.K k1 k2 a b) H1 := by
    have e : (fun (x : V) (H1 : Hp) => tb σ H1 fun y H2 => ∃ k1 k2 a b, [x, y] = [V.ref a, V.ref b] ∧ (∃ xs, SqK k1 X.K H2 a xs) ∧ (∃ ys, SqK k2 X.K H2 b ys) ∧ R (Itz X.K k1 k2 a b) H2) =
        fun (x : V) (H1 : Hp) => tb σ H1 fun y H2 => ∃ k1 k2 a b, x = .ref a ∧ y = .ref b ∧ (∃ xs, SqK k1 X.K H2 a xs) ∧ (∃ ys, SqK k2 X.K H2 b ys) ∧ R (Itz X.K k1 k2 a b) H2 := by
      funext x H1
      congr 1
      funext y H2
      simp [and_assoc]
    have h' := h
    unfold iZip at h'
    rw [← e] at h'
    exact h'
  refine Call_ (ld_blt I hg hm boot_zip' (PyProof.Rows.callWith_type1 (thn (pa_cons hl (pa_cons hr pa_nil (star_ok hs2)) (star_ok hs) pos pins s σ H _ I arg) fun us s1 ⟨vs, H1, I1, r1, q1⟩ => ?_) (star_ok hs) (star_plain (by simp [hs2]))))
  obtain ⟨k1, k2, a, b, rfl, ⟨xs, hq1⟩, ⟨ys, hq2⟩, q⟩ := q1
  obtain ⟨u, v, rfl, ru, rv⟩ := vals2 r1
  cases ru; cases rv
  obtain ⟨its1, _, p1⟩ := Inv.sq I1 hq1
  obtain ⟨its2, _, p2⟩ := Inv.sq I1 hq2
  have l1 := p1.lt
  have l2 := p2.lt
  refine PFZ.callZip p1 p2 fun h' y1 y2 y3 y4 y5 hk => ?_
  have I2 : Inv X pins σ H1 { s1 with heap := h' } := I1.kept (t' := s1.toks) hk
  generalize hn : s1.heap.objs.size = n at *
  refine wpAny_pyIter_zip y1 ?_
  have Z : PFZ.Zap (n + 4) (n + 2) (n + 3) n (n + 1) [n, a] [n + 1, b] := zap_new l1 l2
  refine ⟨_, [n + 4, n + 3, n + 2, n, n + 1], _, _, H1, rfl, I2, turn_zip k1 k2 a b (n + 4) (n + 2) (n + 3) n (n + 1) (Nat.ne_of_lt l1) (Nat.ne_of_lt (Nat.lt_succ_of_lt l2)) Z, ⟨y1, y2, ⟨_, _, y3⟩, y4, y5⟩, fun b hb => ?_, q⟩
  have hb' : s1.heap.objs.size ≤ b := by
    rw [hn]
    simp only [List.mem_cons, List.not_mem_nil, or_false] at hb
    rcases hb with h | h | h | h | h <;> (rw [h]; first | exact Nat.le_refl _ | exact Nat.le_add_right _ _)
  exact I1.fpOk hb' (I1.hok.fresh hb')
def Sr.le (r : Sr) (i : Nat) : Prop := match r with
  | .vs ds => i ≤ ds.length
  | .rf _ => True
def Src (K : Frag) (J : It) (mu : List Addr) (H : Hp) (r : Sr) : Prop :=
  ∀ (mu1 : List Addr) (H1 : Hp) (S1 : Sto), Ext mu H mu1 H1 → WR K mu1 H1 S1 → ∀ i : Nat, Sr.le r i → ∀ o, r.nx i S1 = some o → match o with
    | some d => Sr.le r (i + 1) ∧ J.go i H1 ∧ ∀ x H2, J.yld i H1 x H2 → Ext mu1 H1 mu1 H2 ∧ WR K mu1 H2 S1 ∧ RD K mu1 H2 d x
    | none => J.stop i H1
noncomputable def tI (K : Frag) (f : En → Sto → Option (Sr × Sto)) : TI := fun σ H R => ∃ mu env S, ER K mu H env σ ∧ WR K mu H S ∧ ∃ ds S', f env S = some (ds, S') ∧
  ∀ J mu' H', Ext mu H mu' H' → WR K mu' H' S' → Src K J mu' H' ds → R J H'
theorem src_of {K : Frag} {J : It} {ds : List D} (h : ∀ (mu1 : List Addr) (H1 : Hp) (S1 : Sto), Ext mu H mu1 H1 → WR K mu1 H1 S1 → ∀ i : Nat, (∀ d, ds[i]? = some d → J.go i H1 ∧ ∀ x H2, J.yld i H1 x H2 → Ext mu1 H1 mu1 H2 ∧ WR K mu1 H2 S1 ∧ RD K mu1 H2 d x) ∧ (ds.length = i → J.stop i H1)) : Src K J mu H (.vs ds) := by
  intro mu1 H1 S1 e w i hle o ho
  obtain ⟨a, b⟩ := h mu1 H1 S1 e w i
  have ho' : ds[i]? = o := Option.some.inj ho
  cases o with
  | some d => exact ⟨(List.getElem?_eq_some_iff.mp ho').1, a d ho'⟩
  | none =>
    refine b ?_
    have h1 : ds.length ≤ i := List.getElem?_eq_none_iff.mp ho'
    have h2 : i ≤ ds.length := hle
    omega
theorem src_list {K : Frag} {ds : List D} {a : Addr} (r : RD K mu H (.lst ds) (.ref a)) : Src K (Itl K a) mu H (.vs ds) := by
  refine src_of fun mu1 H1 S1 e w i => ?_
  obtain ⟨b, xs, eb, hq, rs⟩ := (RD.mono e _ _ r).lst_at
  cases eb
  refine ⟨fun d hd => ?_, fun hi => ⟨xs, hq, by rw [← rs.length]; omega⟩⟩
  obtain ⟨x, h1, h2⟩ := rs.get hd
  refine ⟨⟨xs, x, hq, h1⟩, fun y H2 ⟨e2, hy⟩ => ?_⟩
  subst e2
  have : y = x := by have := hy xs hq; rw [h1] at this; exact (Option.some.inj this).symm
  subst this
  exact ⟨.refl, w, h2⟩
theorem src_ref {K : Frag} {n : Nat} {a : Addr} (hm : mu[n]? = some a) : Src K (Itl K a) mu H (.rf n) := by
  intro mu1 H1 S1 e w i _ o ho
  have hm1 := e.get hm
  obtain ⟨ds, h1, h2⟩ := Option.map_eq_some_iff.mp (show (items S1 (.ref n)).map (fun ds => ds[i]?) = some o from ho)
  obtain ⟨b, xs, eb, hq, rs⟩ := lsOf_at (d := .ref n) (v := .ref a) w h1 (by rw [RD]; exact ⟨a, hm1, rfl⟩)
  cases eb
  cases o with
  | none =>
    have : ds.length ≤ i := List.getElem?_eq_none_iff.mp h2
    exact ⟨xs, hq, by rw [← rs.length]; exact this⟩
  | some d =>
    obtain ⟨x, h3, h4⟩ := rs.get h2
    refine ⟨trivial, ⟨xs, x, hq, h3⟩, fun y H2 ⟨e2, hy⟩ => ?_⟩
    subst e2
    have : y = x := by have := hy xs hq; rw [h3] at this; exact (Option.some.inj this).symm
    subst this
    exact ⟨.refl, w, h4⟩
theorem src_tup {K : Frag} {ds : List D} {a : Addr} (r : RD K mu H (.tup ds) (.ref a)) : Src K (Itt K a) mu H (.vs ds) := by
  refine src_of fun mu1 H1 S1 e w i => ?_
  obtain ⟨b, xs, eb, hq, rs⟩ := (RD.mono e _ _ r).tup_at
  cases eb
  refine ⟨fun d hd => ?_, fun hi => ⟨xs, hq, by rw [← rs.length]; omega⟩⟩
  obtain ⟨x, h1, h2⟩ := rs.get hd
  refine ⟨⟨xs, x, hq, h1⟩, fun y H2 ⟨e2, hy⟩ => ?_⟩
  subst e2
  have : y = x := by have := hy xs hq; rw [h1] at this; exact (Option.some.inj this).symm
  subst this
  exact ⟨.refl, w, h2⟩
theorem src_str {K : Frag} {z : Str} : Src K (Its z) mu H (.vs ((sgn z).map D.str)) := by
  refine src_of fun mu1 H1 S1 e w i => ?_
  have hl : ((sgn z).map D.str).length = z.cps.size := by simp [sgn]
  refine ⟨fun d hd => ?_, fun hi => by show z.cps.size ≤ i; omega⟩
  have hi : i < z.cps.size := by
    have := (List.getElem?_eq_some_iff.mp hd).1
    omega
  refine ⟨hi, fun y H2 ⟨e2, c, hc, hy⟩ => ?_⟩
  subst e2 hy
  have : d = .str ⟨#[c]⟩ := by
    rw [sgn, List.getElem?_map, List.getElem?_map, Array.getElem?_toList, hc] at hd
    exact (Option.some.inj hd).symm
  subst this
  exact ⟨.refl, w, by rw [RD]⟩
theorem src_rng {K : Frag} {lo : Int} {n : Nat} : Src K (Itr lo n) mu H (.vs ((List.range n).map fun (k : Nat) => D.int (lo + (k : Int)))) := by
  refine src_of fun mu1 H1 S1 e w i => ?_
  refine ⟨fun d hd => ?_, fun hi => by show n ≤ i; simp at hi; omega⟩
  have hi : i < n := by
    have := (List.getElem?_eq_some_iff.mp hd).1
    simpa using this
  refine ⟨hi, fun y H2 ⟨e2, hy⟩ => ?_⟩
  subst e2 hy
  have : d = .int (lo + i) := by
    rw [List.getElem?_map, List.getElem?_range hi] at hd
    exact (Option.some.inj hd).symm
  subst this
  exact ⟨.refl, w, rd_int⟩
theorem src_enum {K : Frag} {d : D} {ds : List D} {a : Addr} {kk : Bool} (h : d = .lst ds ∧ kk = false ∨ d = .tup ds ∧ kk = true) (r : RD K mu H d (.ref a)) : Src K (Ite K kk a) mu H (.vs (ds.mapIdx fun k d => D.tup [.int (k : Int), d])) := by
  refine src_of fun mu1 H1 S1 e w i => ?_
  obtain ⟨xs, hq, rs⟩ := vals_sq h (RD.mono e _ _ r)
  refine ⟨fun d hd => ?_, fun hi => ⟨xs, hq, by rw [← rs.length]; simpa using hi⟩⟩
  rw [List.getElem?_mapIdx] at hd
  obtain ⟨d0, h0, e0⟩ := Option.map_eq_some_iff.mp hd
  subst e0
  obtain ⟨x, h1, h2⟩ := rs.get h0
  refine ⟨⟨xs, x, hq, h1⟩, fun y H2 ⟨p, v, hv, hp, e2, ey⟩ => ?_⟩
  subst e2 ey
  have ev : v = x := by have := hv xs hq; rw [h1] at this; exact (Option.some.inj this).symm
  subst ev
  refine ⟨Ext.new w hp, w.keep hp, ?_⟩
  rw [RD]
  exact ⟨p, _, rfl, .inl ⟨w.fresh hp, .inl upd_same⟩, RDs.mono (Ext.new w hp) _ _ (.cons rd_int (.cons h2 .nil))⟩
theorem src_zip {K : Frag} {d1 d2 : D} {xs ys : List D} {a b : Addr} {k1 k2 : Bool} (h1 : d1 = .lst xs ∧ k1 = false ∨ d1 = .tup xs ∧ k1 = true) (h2 : d2 = .lst ys ∧ k2 = false ∨ d2 = .tup ys ∧ k2 = true) (r1 : RD K mu H d1 (.ref a)) (r2 : RD K mu H d2 (.ref b)) :
    Src K (Itz K k1 k2 a b) mu H (.vs (List.zipWith (fun x y => D.tup [x, y]) xs ys)) := by
  refine src_of fun mu1 H1 S1 e w i => ?_
  obtain ⟨us, hq1, rs1⟩ := vals_sq h1 (RD.mono e _ _ r1)
  obtain ⟨vs, hq2, rs2⟩ := vals_sq h2 (RD.mono e _ _ r2)
  refine ⟨fun d hd => ?_, fun hi => ⟨us, vs, hq1, hq2, by rw [← rs1.length, ← rs2.length]; simpa using hi⟩⟩
  rw [List.getElem?_zipWith] at hd
  cases q1 : xs[i]? with
  | none => rw [q1] at hd; cases hd
  | some x =>
    cases q2 : ys[i]? with
    | none => rw [q1, q2] at hd; cases hd
    | some y =>
      rw [q1, q2] at hd
      have ed : d = .tup [x, y] := (Option.some.inj hd).symm
      subst ed
      obtain ⟨x', g1, g2⟩ := rs1.get q1
      obtain ⟨y', g3, g4⟩ := rs2.get q2
      refine ⟨⟨us, vs, x', y', hq1, hq2, g1, g3⟩, fun v H2 ⟨p, u1, u2, hu1, hu2, hp, e2, ev⟩ => ?_⟩
      subst e2 ev
      have e3 : u1 = x' := by have := hu1 us hq1; rw [g1] at this; exact (Option.some.inj this).symm
      have e4 : u2 = y' := by have := hu2 vs hq2; rw [g3] at this; exact (Option.some.inj this).symm
      subst e3 e4
      refine ⟨Ext.new w hp, w.keep hp, ?_⟩
      rw [RD]
      exact ⟨p, _, rfl, .inl ⟨w.fresh hp, .inl upd_same⟩, RDs.mono (Ext.new w hp) _ _ (.cons g2 (.cons g4 .nil))⟩
end
end PF
namespace PF
open PySem PySem.Spec PyProof.Rows L2
section
variable {prog : Program} {w : World} {A : Around} {E : Value → Shared → Prop} {s : Shared}
theorem draw_list {it t : Addr} {items : Array Value} (hne : t ≠ it) : ∀ (n i : Nat) (s : Shared) (Q : List Value → Shared → Prop), s.heap.IsListIter it t i → s.heap.IsList t items → i + n ≤ items.size →
    (∀ h', h'.IsListIter it t (i + n) → Heap.SameBut it s.heap h' → Q ((items.toList.drop i).take n) { s with heap := h' }) → wpAny (model prog w) A (draw (.ref it) n) Q E s
  | 0, i, s, Q, hit, _, _, hQ => by
    show wpAny _ _ (pure []) Q E s
    exact wpAny_pure (by simpa using hQ s.heap hit (Heap.SameBut.refl ..))
  | n + 1, i, s, Q, hit, ht, hle, hQ => by
    have hlt : i < items.size := by omega
    show wpAny _ _ (pyNext (.ref it) >>= _) Q E s
    refine wpAny_bind (wpAny_pyNext_list_item hit ht (x := items[i]) (by simp [hlt]) fun h₁ hit₁ hs₁ => ?_)
    refine wpAny_bind (wpAny_holding (draw_list hne n (i + 1) _ _ hit₁ (ht.extBut hs₁.extBut hne) (by omega) fun h₂ hit₂ hs₂ => wpAny_pure ?_))
    have hd : items.toList.drop i = items[i] :: items.toList.drop (i + 1) := by simp [List.drop_eq_getElem_cons, hlt]
    have := hQ h₂ (by rw [show i + (n + 1) = i + 1 + n by omega]; exact hit₂) (hs₁.trans hs₂)
    rw [hd, List.take_succ_cons] at this
    exact this
theorem unpackItems_list {t : Addr} {items : Array Value} {Q : List Value → Shared → Prop} (hh : A.handled = none) (ht : s.heap.IsList t items)
    (hQ : ∀ h', Heap.ExtBut s.heap.objs.size s.heap h' → Q items.toList { s with heap := h' }) : wpAny (model prog w) A (unpackItems (.ref t) items.size none) Q E s := by
  have hlt : t ≠ s.heap.objs.size := by obtain ⟨o, ho, _⟩ := ht; exact Nat.ne_of_lt (Heap.lt_size ho)
  unfold unpackItems
  refine wpAny_bind ?_
  · unfold notIterableAtAll
    refine wpAny_bind (wpAny_specialOf ht.typeIs slot_list_iter.lookup ?_)
    refine wpAny_pure ?_
    simp only [Bool.false_eq_true, if_false]
    refine wpAny_bind (wpAny_holding (wpAny_pyIter_list ht ?_))
    refine wpAny_bind (wpAny_holding (draw_list hlt items.size 0 _ _ ⟨_, Heap.get?_push_size _ rfl, rfl, rfl⟩ (ht.push _) (by omega) fun h₁ hit₁ hs₁ => ?_))
    have hall : List.take items.size (List.drop 0 items.toList) = items.toList := by
      rw [List.drop_zero]; exact List.take_of_length_le (by simp)
    rw [hall]
    rw [if_neg (by simp)]
    have ht₁ : h₁.IsList t items := (ht.push _).extBut hs₁.extBut hlt
    refine wpAny_bind (wpAny_holding (wpAny_pyNext_list_end hh hit₁ ht₁ (by simp) fun h₂ he₂ => ?_))
    simp only [Option.isSome_none, Bool.false_eq_true, if_false]
    refine wpAny_pure (hQ h₂ fun b o hb e => he₂ b o hb (hs₁.extBut b o hb (Heap.get?_push_of_some _ e)))
theorem assign_Tuple_list {env : Env} {elts : List Expr} {x1} {pos : Pos} {t : Addr} {items : Array Value} {Q : Unit → Shared → Prop} (hh : A.handled = none) (ht : s.heap.IsList t items)
    (hn : (assignEach elts env).length = items.size) (hstar : (assignEach elts env).findIdx? (·.1) = none)
    (h : ∀ h', Heap.ExtBut s.heap.objs.size s.heap h' → wpAny (model prog w) A (assignInOrder ((assignEach elts env).map (·.2)) items.toList) Q E { s with heap := h' }) :
    wpAny (model prog w) A (assign (.Tuple elts x1 pos) env (.ref t)) Q E s := by
  rw [assign_Tuple]
  refine wpAny_bind (wpAny_standAt ?_)
  unfold unpack
  rw [hn, hstar]
  exact wpAny_bind (wpAny_holding (unpackItems_list hh ht h))
end
section
variable {X : Cx} {pos : Pos}
noncomputable def gLst (K : Frag) (n : Nat) (t : TGs) : TG := fun v σ H Q => ∃ a xs, v = .ref a ∧ SqL K H a xs ∧ xs.length = n ∧ t xs σ H Q
theorem pg_lst {es : List Expr} {k : Nat} {t : TGs} {n : Nat} (hc : X.calm = true) (h : PGs X es t)
    (hn : (assignEach es X.env).length = n := by rfl) (hst : (assignEach es X.env).findIdx? (·.1) = none := by rfl) : PG X (.Tuple es k pos) (gLst X.K n t) := by
  intro pins s σ H v u Q I r hw
  obtain ⟨a, xs, e1, hq, hl, hw⟩ := hw
  subst e1
  cases r
  obtain ⟨its, rv, ht, hz⟩ := I.list hq
  refine assign_Tuple_list (I.ok.hd hc) ht.isList (by simp [hn, ← hl, rv.length]) hst fun h' hx => ?_
  have I1 : Inv X pins σ H { s with heap := h' } := I.kept (t' := s.toks) fun b o e => hx b o (Nat.ne_of_lt (Heap.lt_size e)) e
  exact h pins _ σ H xs _ Q I1 (by simpa using rv) hw
end
end PF
namespace PF
open PySem PySem.Spec PyProof.Rows L2
section
variable {K : Frag} {mu mu' : List Addr} {H H' : Hp}
section
variable {κ : Type} [DecidableEq κ]
def DRel {κ : Type} (K : Frag) (mu : List Addr) (H : Hp) (kvs : List (κ × D)) (us : List (κ × V)) : Prop := us.map (·.1) = kvs.map (·.1) ∧ RDs K mu H (kvs.map (·.2)) (us.map (·.2))
theorem DRel.nil : DRel (κ := κ) K mu H [] [] := ⟨rfl, .nil⟩
theorem DRel.cons {p : κ × D} {q : κ × V} {kvs : List (κ × D)} {us : List (κ × V)} (e : q.1 = p.1) (h : RD K mu H p.2 q.2) (t : DRel K mu H kvs us) : DRel K mu H (p :: kvs) (q :: us) :=
  ⟨by rw [List.map_cons, List.map_cons, e, t.1], .cons h t.2⟩
theorem DRel.cases_cons {p : κ × D} {kvs : List (κ × D)} {us : List (κ × V)} (h : DRel K mu H (p :: kvs) us) : ∃ q r, us = q :: r ∧ q.1 = p.1 ∧ RD K mu H p.2 q.2 ∧ DRel K mu H kvs r := by
  obtain ⟨h1, h2⟩ := h
  cases us with
  | nil => simp at h1
  | cons q r =>
    rw [List.map_cons, List.map_cons] at h1
    obtain ⟨a, b⟩ := List.cons.inj h1
    rw [List.map_cons, List.map_cons] at h2
    obtain ⟨x, r', e, hx, ht⟩ := h2.cases_cons
    obtain ⟨e1, e2⟩ := List.cons.inj e
    subst e1 e2
    exact ⟨q, r, rfl, a, hx, b, ht⟩
theorem DRel.cases_nil {us : List (κ × V)} (h : DRel K mu H [] us) : us = [] := by
  have := h.1
  simpa using this
theorem DRel.any {k : κ} : ∀ {kvs : List (κ × D)} {us : List (κ × V)}, DRel K mu H kvs us → (us.any fun kv => decide (kv.1 = k)) = kvs.any fun kv => decide (kv.1 = k)
  | [], us, h => by rw [h.cases_nil]; rfl
  | p :: kvs, us, h => by
    obtain ⟨q, r, rfl, e, _, t⟩ := h.cases_cons
    rw [List.any_cons, List.any_cons, e, DRel.any t]
theorem DRel.repl {k : κ} {d : D} {v : V} (hd : RD K mu H d v) : ∀ {kvs : List (κ × D)} {us : List (κ × V)}, DRel K mu H kvs us → DRel K mu H (kvs.map fun kv => if kv.1 = k then (kv.1, d) else kv) (us.map fun kv => if kv.1 = k then (kv.1, v) else kv)
  | [], us, h => by rw [h.cases_nil]; exact .nil
  | p :: kvs, us, h => by
    obtain ⟨q, r, rfl, e, hq, t⟩ := h.cases_cons
    rw [List.map_cons, List.map_cons]
    by_cases hk : p.1 = k
    · rw [if_pos hk, if_pos (e.trans hk)]
      exact .cons e hd (DRel.repl hd t)
    · rw [if_neg hk, if_neg (fun z => hk (e.symm.trans z))]
      exact .cons e hq (DRel.repl hd t)
theorem DRel.snoc {k : κ} {d : D} {v : V} (hd : RD K mu H d v) : ∀ {kvs : List (κ × D)} {us : List (κ × V)}, DRel K mu H kvs us → DRel K mu H (kvs ++ [(k, d)]) (us ++ [(k, v)])
  | [], us, h => by rw [h.cases_nil]; exact .cons rfl hd .nil
  | p :: kvs, us, h => by
    obtain ⟨q, r, rfl, e, hq, t⟩ := h.cases_cons
    exact .cons e hq (DRel.snoc hd t)
theorem DRel.put {k : κ} {d : D} {v : V} {kvs : List (κ × D)} {us : List (κ × V)} (h : DRel K mu H kvs us) (hd : RD K mu H d v) : DRel K mu H (putD kvs k d) (putK us k v) := by
  unfold putD putK
  rw [h.any]
  split
  · exact h.repl hd
  · exact h.snoc hd
end
theorem DRel.mono {κ : Type} (e : Ext mu H mu' H') {kvs : List (κ × D)} {us : List (κ × V)} (h : DRel K mu H kvs us) : DRel K mu' H' kvs us := ⟨h.1, RDs.mono e _ _ h.2⟩
theorem key_at {d : D} {k : Key} {v : V} (h : keyD d = some k) (r : RD K mu H d v) : v = kV k := by
  cases d with
  | int i => cases h; exact int_at r
  | str x => cases h; exact str_at r
  | _ => cases h
end
section
variable {X : Cx} {T : Tab} {W k : Nat} {nm : List (Str × NameKind)} {pins : List (Addr × Obj)} {σ : L2.St} {H : Hp} {s : Shared} {mu : List Addr} {S : Sto} {c : Cl}
theorem boot_dict : bootBuiltins "dict" = some (.type "dict") ∧ bootBuiltins "list" = some (.type "list") := by
  refine ⟨?_, ?_⟩ <;> decide +kernel
end
end PF
namespace PF
open PySem PySem.Spec PyProof.Rows L2
section
variable {X : Cx} {T : Tab} {W k : Nat} {nm : List (Str × NameKind)} {pins : List (Addr × Obj)} {σ : L2.St} {H : Hp} {s : Shared} {mu : List Addr} {S : Sto} {c : Cl}
theorem keysT_at {K : Frag} : ∀ {ds : List D} {ks : List Key} {vs : List V}, keysT ds = some ks → RDs K mu H ds vs → vs = ks.map kV
  | [], ks, vs, h, r => by cases h; rw [r.cases_nil]; rfl
  | d :: ds, ks, vs, h, r => by
    obtain ⟨x, t, rfl, hx, ht⟩ := r.cases_cons
    rw [keysT] at h
    obtain ⟨k, h1, h⟩ := Option.bind_eq_some_iff.mp h
    obtain ⟨l, h2, e⟩ := Option.map_eq_some_iff.mp h
    subst e
    rw [key_at h1 hx, keysT_at h2 ht]; rfl
theorem dt_at {n : Nat} {kvs : List (List Key × D)} {v : V} (w : WR X.K mu H S) (h : dtOf S (.ref n) = some kvs) (r : RD X.K mu H (.ref n) v) : ∃ a us, v = .ref a ∧ mu[n]? = some a ∧ H a = some (.dT us) ∧ DRel X.K mu H kvs us := by
  replace h : (match S[n]? with
    | some (.dt kvs) => some kvs
    | _ => none) = some kvs := h
  rw [RD] at r
  obtain ⟨a, e, rfl⟩ := r
  cases q9 : S[n]? with
  | none => rw [q9] at h; cases h
  | some ob =>
    rw [q9] at h
    cases ob with
    | lst _ => cases h
    | dk _ => cases h
    | dt l =>
      cases h
      obtain ⟨b, e1, us, e2, r⟩ := w.get q9
      rw [e] at e1; cases e1
      exact ⟨a, us, rfl, e, e2, r⟩
theorem set_any (hu : X.A.units + 1 < cLine) : PSet X (fun o i v H Q => rSetL o i v H Q ∨ ∃ a H', o = .ref a ∧ DPut H a i v H' ∧ Q H') := by
  intro pins s σ H o i v ov iv u Q I ro ri rv h
  rcases h with h | ⟨a, H', e, g, q⟩
  · exact set_list pins s σ H o i v ov iv u Q I ro ri rv h
  · subst e
    cases ro
    exact d_setItem hu I g ri rv fun s' I' => ⟨H', I', q⟩
theorem ints_of_lo {lo : Int} {acc : Array Value} {n : Nat} (h : ItemsOf (fun i v => ∃ t, v = Value.int (lo + (i : Int) * 1) t) acc n) : Vals ((List.range n).map fun (k : Nat) => V.int (lo + (k : Int))) acc.toList := by
  have key : ∀ m, m ≤ n → Vals ((List.range m).map fun (k : Nat) => V.int (lo + (k : Int))) (acc.toList.take m) := by
    intro m
    induction m with
    | zero => intro _; exact .nil
    | succ m ih =>
      intro hm
      have hlt : m < acc.size := by rw [h.1]; omega
      rw [List.range_succ, List.map_append, List.take_succ]
      refine (ih (by omega)).append ?_
      rw [Array.getElem?_toList, Array.getElem?_eq_getElem hlt]
      obtain ⟨t, e⟩ := h.2 m acc[m] (Array.getElem?_eq_getElem hlt)
      refine .cons ?_ .nil
      rw [e, Int.mul_one]
      exact ⟨t, rfl⟩
  have := key n (Nat.le_refl _)
  rwa [List.take_of_length_le (by rw [Array.length_toList, h.1]; exact Nat.le_refl _)] at this
theorem s_lrng2 {a b : Expr} {p p2 pos pos2 : Pos} {xa xb : Ex} (ok : XOk X T W k nm) (hg : X.env.scope.names.lookup ("list" : Str) = some .globalImplicit) (hg2 : X.env.scope.names.lookup ("range" : Str) = some .globalImplicit) (hs : notStar a = true) (hs2 : notStar b = true) (ha : PE X a (tE X.K (ev c xa))) (hb : PE X b (tE X.K (ev c xb))) :
    PE X (.Call (.Name "list" p) [.Call (.Name "range" p2) [a, b] [] pos2] [] pos) (tN X.K (evL c (.lrng2 xa xb))) := by
  intro pins s σ H Q I ⟨mu, env, S, he, hw, ds, S', hf, k⟩
  rw [evL] at hf
  obtain ⟨⟨da, S1⟩, h1, hf⟩ := Option.bind_eq_some_iff.mp hf
  obtain ⟨⟨db, S2⟩, h2, hf⟩ := Option.bind_eq_some_iff.mp hf
  cases da with
  | int i =>
    cases db with
    | int j =>
      dsimp only at hf
      split at hf
      · rename_i hz
        cases hf
        have c1 : CallR X (.type "range") (fun xs H Q => xs = [.int i, .int j] ∧ ∀ p, H p = none → Q (.ref p) (upd H p (.rng i j))) := by
          intro pins s σ H xs us Q I r ⟨ex, q⟩
          subst ex
          obtain ⟨u, v, rfl, ⟨t, rfl⟩, ⟨t2, rfl⟩⟩ := vals2 r
          have hp := I.hok.fresh (Nat.le_refl s.heap.objs.size)
          refine call_range_2 ⟨.ref _, _, I.laid (a := s.heap.objs.size) (o := .rng i j) (t' := _) (fun b o e => Heap.get?_push_of_some _ e) (Nat.le_refl _) ⟨_, _, _, Heap.get?_push_size _ rfl⟩, rfl, q _ hp⟩
        have c2 : CallR X (.type "list") (fun xs H Q => ∃ r, xs = [.ref r] ∧ H r = some (.rng i j) ∧ ∀ p, H p = none → Q (.ref p) (upd H p (.lst ((List.range (j - i).toNat).map fun (k : Nat) => V.int (i + (k : Int)))))) := by
          intro pins s σ H xs us Q I r ⟨r0, ex, hr, q⟩
          subst ex
          obtain ⟨u, rfl, ru⟩ := vals1 r
          cases ru
          obtain ⟨t, u, v, hv⟩ := (show ObjOk X.prog X.w H s.heap r0 (.rng i j) from I.hok r0 _ hr)
          have hp := I.hok.fresh (Nat.le_refl s.heap.objs.size)
          refine call_list_range (a := i) (b := j) (c := 1) (t := t) (u := u) (v := v) (n := (j - i).toNat) (I.ok.hd ok.calm) hv (small_one (by omega) (by omega) (by omega) (by omega)) (by rw [rangeSize_one]; split <;> omega) (by omega) (fun h' tk acc c' hk hS hacc => ?_)
          refine ⟨.ref _, _, I.laid (a := s.heap.objs.size) (t' := tk) hk (Nat.le_refl _) ?_, rfl, q _ hp⟩
          refine ⟨by rw [List.length_map, List.length_range, sizeLine_eq]; omega, acc.toList, c', ints_of_lo hacc, by simpa using hS⟩
        have pr := pe_callTy (X := X) (x := "range") (p := p2) (pos := pos2) c1 hg2 (ok.bl _ (by decide +kernel)) boot_range (pa_cons ha (pa_cons hb pa_nil (star_ok hs2)) (star_ok hs)) (by decide) (by decide) (star_ok hs) (by rw [star_ok hs2]; rfl)
        refine pe_callTy c2 hg (ok.bl _ (by decide +kernel)) boot_dict.2 (pa_cons pr pa_nil rfl) (by decide) (by decide) rfl rfl pins s σ H Q I ?_
        refine ⟨mu, env, S, he, hw, _, _, h1, fun x mu1 H1 e1 w1 r1 => ⟨mu1, env, _, he.mono e1, w1, _, _, h2, fun y mu2 H2 e2 w2 r2 => ?_⟩⟩
        cases int_at r1
        cases int_at r2
        refine ⟨rfl, fun r0 hr => ⟨r0, rfl, upd_same, fun p hp => ?_⟩⟩
        have ex : Ext mu2 H2 mu2 (upd H2 r0 (.rng i j)) := Ext.new w2 hr
        refine k _ p mu2 _ ((e1.trans e2).trans ex) (w2.keep hr) hp ?_
        have key : ∀ l : List Nat, RDs X.K mu2 (upd H2 r0 (.rng i j)) (l.map fun (k : Nat) => D.int (i + (k : Int))) (l.map fun (k : Nat) => V.int (i + (k : Int))) := fun l => by
          induction l with
          | nil => exact .nil
          | cons a l ih => exact .cons rd_int ih
        exact key _
      · cases hf
    | _ => cases hf
  | _ => cases hf
end
end PF
namespace PF
open PySem PySem.Spec PyProof.Rows L2
noncomputable def notComp : Expr → Bool
  | .ListComp .. => false
  | .SetComp .. => false
  | .DictComp .. => false
  | _ => true
noncomputable def parOk (nm : List (Str × NameKind)) (x y : Str) (px py : Pos) (a b : Expr) : Bool :=
  decide (nm.lookup x = some .local) && decide (nm.lookup y = some .local) && !decide (x = y) && decide (px.line = py.line) && notStar a && notStar b && !([a, b].all (foldedForSure 8)) && !([a, b].all (constantsAlone 8))
noncomputable def parOk3 (nm : List (Str × NameKind)) (x y z : Str) (px py pz : Pos) (a b c : Expr) : Bool :=
  decide (nm.lookup x = some .local) && decide (nm.lookup y = some .local) && decide (nm.lookup z = some .local) && !decide (x = y) && !decide (x = z) && !decide (y = z) && decide (px.line = py.line) && decide (px.line = pz.line) &&
    notStar a && notStar b && notStar c && !([a, b, c].all (foldedForSure 8)) && !([a, b, c].all (constantsAlone 8))
noncomputable def swapY (nm : List (Str × NameKind)) (y : Str) (py : Pos) (scope : Scope) (pos : Pos) : Bool :=
  decide (nm.lookup y = some .local) && (py.line == pos.line) && !(scope.names.any fun (n, k) => n == y && (k == .local || k == .cell))
def FlOk (K : Frag) (mu : List Addr) (H : Hp) (D : Ends) : Fl → Prop
  | .nx env S => ∀ σ mu' H', Ext mu H mu' H' → WR K mu' H' S → ER K mu' H' env σ → D.nx σ H'
  | .rt d S => ∀ v mu' H', Ext mu H mu' H' → WR K mu' H' S → RD K mu' H' d v → D.rt v H'
  | .bk env S => ∀ σ mu' H', Ext mu H mu' H' → WR K mu' H' S → ER K mu' H' env σ → D.bk σ H'
  | .ct env S => ∀ σ mu' H', Ext mu H mu' H' → WR K mu' H' S → ER K mu' H' env σ → D.ct σ H'
noncomputable def tSt (K : Frag) (f : En → Sto → Option Fl) : TS := fun D σ H => ∃ mu env S, ER K mu H env σ ∧ WR K mu H S ∧ ∃ fl, f env S = some fl ∧ FlOk K mu H D fl
noncomputable def tG (K : Frag) (f : D → En → Sto → Option (En × Sto)) : TG := fun v σ H Q => ∃ mu env S d, ER K mu H env σ ∧ WR K mu H S ∧ RD K mu H d v ∧ ∃ env' S', f d env S = some (env', S') ∧
  ∀ σ' mu' H', Ext mu H mu' H' → WR K mu' H' S' → ER K mu' H' env' σ' → Q σ' H'
noncomputable def tGs (K : Frag) (f : List D → En → Sto → Option (En × Sto)) : TGs := fun vs σ H Q => ∃ mu env S ds, ER K mu H env σ ∧ WR K mu H S ∧ RDs K mu H ds vs ∧ ∃ env' S', f ds env S = some (env', S') ∧
  ∀ σ' mu' H', Ext mu H mu' H' → WR K mu' H' S' → ER K mu' H' env' σ' → Q σ' H'
theorem FlOk.ext {K : Frag} {mu mu' : List Addr} {H H' : Hp} {D : Ends} {fl : Fl} (h : FlOk K mu H D fl) (e : Ext mu H mu' H') : FlOk K mu' H' D fl := by
  cases fl with
  | nx env S => exact fun σ mu2 H2 e2 w r => h σ mu2 H2 (e.trans e2) w r
  | rt env S => exact fun σ mu2 H2 e2 w r => h σ mu2 H2 (e.trans e2) w r
  | bk env S => exact fun σ mu2 H2 e2 w r => h σ mu2 H2 (e.trans e2) w r
  | ct env S => exact fun σ mu2 H2 e2 w r => h σ mu2 H2 (e.trans e2) w r
section
variable {X : Cx} {T : Tab} {W k : Nat} {nm : List (Str × NameKind)} {pins : List (Addr × Obj)} {σ : St} {H : Hp} {s : Shared} {mu : List Addr} {S : Sto} {c : Cl}
theorem g_name {x : Str} {pos : Pos} {i : Nat} (ok : XOk X T W k nm) (hl : locOk nm x = true) (hi : slot x X.N = some i) : PG X (.Name x pos) (tG X.K (asg c (.name i))) := by
  intro pins s σ H v u Q I r ⟨mu, env, S, d, he, hw, hd, env', S', hf, q⟩
  rw [asg] at hf
  cases hf
  exact pg_name ok.nd (slot_get hi) (ok.kw x hl).1 (ok.kw x hl).2 pins s σ H v u Q I r (q _ mu H .refl hw (he.set i hd))
theorem g_nil : PGs X [] (tGs X.K (asgs c .nil)) := by
  intro pins s σ H vs us Q I r ⟨mu, env, S, ds, he, hw, hd, env', S', hf, q⟩
  cases ds with
  | nil =>
    rw [asgs] at hf
    cases hf
    exact pgs_nil pins s σ H vs us Q I r ⟨hd.cases_nil, q _ mu H .refl hw he⟩
  | cons d ds => simp [asgs] at hf
theorem g_cons {e : Expr} {es : List Expr} {t : Tg} {ts : Tgs} (h1 : PG X e (tG X.K (asg c t))) (h2 : PGs X es (tGs X.K (asgs c ts))) (hs : notStar e = true) : PGs X (e :: es) (tGs X.K (asgs c (.cons t ts))) := by
  intro pins s σ H vs us Q I r ⟨mu, env, S, ds, he, hw, hd, env', S', hf, q⟩
  cases ds with
  | nil => simp [asgs] at hf
  | cons d ds =>
    rw [asgs] at hf
    obtain ⟨⟨e1, S1⟩, h3, hf⟩ := Option.bind_eq_some_iff.mp hf
    obtain ⟨x, xs, rfl, rx, rs⟩ := hd.cases_cons
    refine pgs_cons h1 h2 (by cases e <;> first | rfl | (exact absurd hs (show ¬ (false = true) from Bool.false_ne_true))) pins s σ H _ us Q I r ?_
    exact ⟨x, xs, rfl, mu, env, S, d, he, hw, rx, e1, S1, h3, fun σ' mu' H' x' w' r' => ⟨mu', e1, S1, ds, r', w', RDs.mono x' _ _ rs, env', S', hf, fun σ2 mu2 H2 x2 w2 r2 => q σ2 mu2 H2 (x'.trans x2) w2 r2⟩⟩
theorem asgEach_len {env : Env} : ∀ {es : List Expr}, es.all notStar = true → (assignEach es env).length = es.length ∧ (assignEach es env).findIdx? (·.1) = none
  | [], _ => ⟨rfl, rfl⟩
  | e :: es, h => by
    rw [List.all_cons, Bool.and_eq_true] at h
    obtain ⟨h1, h2⟩ := asgEach_len (env := env) h.2
    have e1 : assignEach (e :: es) env = (false, assign e env) :: assignEach es env := by
      have := h.1
      cases e <;> first | rfl | (exact absurd this (show ¬ (false = true) from Bool.false_ne_true))
    rw [e1]
    refine ⟨by simp [h1], ?_⟩
    rw [List.findIdx?_cons]
    simp [h2]
theorem g_sub (hu : X.A.units + 1 < cLine) {o i : Expr} {pos : Pos} {xo xi : Ex} (ho : PE X o (tE X.K (ev c xo))) (hi : PE X i (tE X.K (ev c xi))) (hp : plainIx i = true) : PG X (.Subscript o i pos) (tG X.K (asg c (.sub xo xi))) := by
  intro pins s σ H v u Q I r ⟨mu, env, S, d, he, hw, hd, env', S', hf, q⟩
  rw [asg] at hf
  obtain ⟨⟨da, S1⟩, h1, hf⟩ := Option.bind_eq_some_iff.mp hf
  obtain ⟨⟨db, S2⟩, h2, hf⟩ := Option.bind_eq_some_iff.mp hf
  refine pg_sub ho hi (set_any hu) (by intro _; cases i <;> first | rfl | (exact absurd hp (show ¬ (false = true) from Bool.false_ne_true))) pins s σ H v u Q I r ?_
  refine ⟨mu, env, S, he, hw, da, S1, h1, fun x mu1 H1 e1 w1 r1 => ⟨mu1, env, S1, he.mono e1, w1, db, S2, h2, fun y mu2 H2 e2 w2 r2 => ?_⟩⟩
  cases da with
  | ref n =>
    cases db with
    | int kk =>
      cases q9 : S2[n]? with
      | none => simp only [q9] at hf; cases hf
      | some ob =>
        cases ob with
        | dk kvs =>
          simp only [q9] at hf
          split at hf
          · rename_i hz
            cases hf
            obtain ⟨a, e3, us, e4, rs⟩ := w2.get q9
            have r1' := RD.mono e2 _ _ r1
            rw [RD] at r1'
            obtain ⟨a', e5, rfl⟩ := r1'
            rw [e3] at e5; cases e5
            cases int_at r2
            have dr : DRel X.K mu2 H2 kvs us := rs
            have hl : us.length = kvs.length := by have := congrArg List.length dr.1; simpa using this
            have dp := dr.put (k := .inl kk) (RD.mono (e1.trans e2) _ _ hd)
            have ex : Ext mu2 H2 mu2 (upd H2 a (.dK (putK us (.inl kk) v))) := Ext.write w2 e3
            have dp2 := dp.mono ex
            refine .inr ⟨a, _, rfl, DPut.k (k := .inl kk) e4 (by rw [hl, line_eq]; exact hz), ?_⟩
            exact q σ mu2 _ ((e1.trans e2).trans ex) (w2.writeO e3 ⟨_, upd_same, dp2.1, dp2.2⟩) (he.mono ((e1.trans e2).trans ex))
          · cases hf
        | dt ds => simp only [q9] at hf; cases hf
        | lst ds =>
          simp only [q9] at hf
          obtain ⟨j, h3, e⟩ := Option.map_eq_some_iff.mp hf
          cases e
          obtain ⟨a, e3, xs, e4, rs⟩ := w2.get q9
          have r1' := RD.mono e2 _ _ r1
          rw [RD] at r1'
          obtain ⟨a', e5, rfl⟩ := r1'
          rw [e3] at e5; cases e5
          cases int_at r2
          refine .inl ⟨a, xs, kk, j, rfl, rfl, e4, by rw [← rs.length]; exact h3, ?_⟩
          exact q σ mu2 _ ((e1.trans e2).trans (Ext.write w2 e3)) (w2.write e3 (rs.set j (RD.mono (e1.trans e2) _ _ hd))) (he.mono ((e1.trans e2).trans (Ext.write w2 e3)))
    | _ => cases hf
  | _ => cases hf
theorem i_seq {e tg : Expr} {x : Ex} (h : PE X e (tE X.K (ev c x))) : PI X tg e (tI X.K (evI c (.seq x))) := by
  intro pins s σ H R I ⟨mu, env, S, he, hw, ds, S', hf, q⟩
  rw [evI] at hf
  obtain ⟨⟨d, S1⟩, h1, hf⟩ := Option.bind_eq_some_iff.mp hf
  cases d with
  | tup es =>
    cases hf
    refine pi_tup h pins s σ H R I ⟨mu, env, S, he, hw, _, _, h1, fun v mu1 H1 e1 w1 r1 => ?_⟩
    obtain ⟨a, xs, rfl, hq, _⟩ := r1.tup_at
    exact ⟨a, rfl, ⟨xs, hq⟩, q _ mu1 H1 e1 w1 (src_tup r1)⟩
  | lst es =>
    cases hf
    refine pi_list h pins s σ H R I ⟨mu, env, S, he, hw, _, _, h1, fun v mu1 H1 e1 w1 r1 => ?_⟩
    obtain ⟨a, xs, rfl, hq, _⟩ := r1.lst_at
    exact ⟨a, rfl, ⟨xs, hq⟩, q _ mu1 H1 e1 w1 (src_list r1)⟩
  | str z =>
    cases hf
    refine pi_str h pins s σ H R I ⟨mu, env, S, he, hw, _, _, h1, fun v mu1 H1 e1 w1 r1 => ?_⟩
    cases str_at r1
    exact ⟨z, rfl, q _ mu1 H1 e1 w1 src_str⟩
  | ref n =>
    obtain ⟨es, hes, e'⟩ := Option.map_eq_some_iff.mp hf
    cases e'
    refine pi_list h pins s σ H R I ⟨mu, env, S, he, hw, _, _, h1, fun v mu1 H1 e1 w1 r1 => ?_⟩
    obtain ⟨a, ys, rfl, e2, e4, _⟩ := w1.lst_at hes r1
    exact ⟨a, rfl, ⟨ys, SqL.of e4⟩, q _ mu1 H1 e1 w1 (src_ref e2)⟩
  | _ => cases hf
theorem i_rng1 {a tg : Expr} {p pos : Pos} {x : Ex} (ok : XOk X T W k nm) (hg : X.env.scope.names.lookup ("range" : Str) = some .globalImplicit) (hs : notStar a = true) (h : PE X a (tE X.K (ev c x))) : PI X tg (.Call (.Name "range" p) [a] [] pos) (tI X.K (evI c (.rng1 x))) := by
  intro pins s σ H R I ⟨mu, env, S, he, hw, ds, S', hf, q⟩
  rw [evI] at hf
  obtain ⟨⟨d, S1⟩, h1, hf⟩ := Option.bind_eq_some_iff.mp hf
  cases d with
  | int j =>
    dsimp only at hf
    split at hf
    · rename_i hj
      cases hf
      refine pi_range1 hg (ok.bl _ (by decide +kernel)) (pa_cons h pa_nil (star_ok hs)) (star_ok hs) pins s σ H R I ?_
      refine ⟨mu, env, S, he, hw, _, _, h1, fun v mu1 H1 e1 w1 r1 => ?_⟩
      cases int_at r1
      exact ⟨j, rfl, hj.1, hj.2, q _ mu1 H1 e1 w1 src_rng⟩
    · cases hf
  | _ => cases hf
theorem i_enm {a tg : Expr} {p pos : Pos} {x : Ex} (ok : XOk X T W k nm) (hg : X.env.scope.names.lookup ("enumerate" : Str) = some .globalImplicit) (hs : notStar a = true) (ht : isTup tg = true) (h : PE X a (tE X.K (ev c x))) : PI X tg (.Call (.Name "enumerate" p) [a] [] pos) (tI X.K (evI c (.enm x))) := by
  intro pins s σ H R I ⟨mu, env, S, he, hw, ds, S', hf, q⟩
  rw [evI] at hf
  obtain ⟨⟨d, S1⟩, h1, hf⟩ := Option.bind_eq_some_iff.mp hf
  cases tg <;> first | (exact absurd ht (show ¬ (false = true) from Bool.false_ne_true)) | skip
  dsimp only at hf
  cases hv : vals d with
  | none => rw [hv] at hf; cases hf
  | some es =>
    rw [hv] at hf
    cases hf
    refine pi_enum hg (ok.bl _ (by decide +kernel)) h hs pins s σ H R I ⟨mu, env, S, he, hw, _, _, h1, fun v mu1 H1 e1 w1 r1 => ?_⟩
    obtain ⟨kk, a, xs, rfl, hq, _, hd⟩ := vals_at hv r1
    exact ⟨kk, a, rfl, ⟨xs, hq⟩, q _ mu1 H1 e1 w1 (src_enum hd r1)⟩
theorem i_zip {a b tg : Expr} {p pos : Pos} {x y : Ex} (ok : XOk X T W k nm) (hg : X.env.scope.names.lookup ("zip" : Str) = some .globalImplicit) (hs : notStar a = true) (hs2 : notStar b = true) (ht : isTup tg = true) (ha : PE X a (tE X.K (ev c x))) (hb : PE X b (tE X.K (ev c y))) :
    PI X tg (.Call (.Name "zip" p) [a, b] [] pos) (tI X.K (evI c (.zip x y))) := by
  intro pins s σ H R I ⟨mu, env, S, he, hw, ds, S', hf, q⟩
  rw [evI] at hf
  obtain ⟨⟨d, S1⟩, h1, hf⟩ := Option.bind_eq_some_iff.mp hf
  obtain ⟨⟨d2, S2⟩, h2, hf⟩ := Option.bind_eq_some_iff.mp hf
  cases tg <;> first | (exact absurd ht (show ¬ (false = true) from Bool.false_ne_true)) | skip
  dsimp only at hf
  cases hv : vals d with
  | none => rw [hv] at hf; cases hf
  | some es =>
    cases hv2 : vals d2 with
    | none => rw [hv, hv2] at hf; cases hf
    | some fs =>
      rw [hv, hv2] at hf
      cases hf
      refine pi_zip hg (ok.bl _ (by decide +kernel)) ha hb hs hs2 pins s σ H R I ?_
      refine ⟨mu, env, S, he, hw, _, _, h1, fun v mu1 H1 e1 w1 r1 => ⟨mu1, env, _, he.mono e1, w1, _, _, h2, fun v2 mu2 H2 e2 w2 r2 => ?_⟩⟩
      have r1' := RD.mono e2 _ _ r1
      obtain ⟨k1, a1, xs, rfl, hq1, _, hd1⟩ := vals_at hv r1'
      obtain ⟨k2, a2, ys, rfl, hq2, _, hd2⟩ := vals_at hv2 r2
      exact ⟨k1, k2, a1, a2, rfl, rfl, ⟨xs, hq1⟩, ⟨ys, hq2⟩, q _ mu2 H2 (e1.trans e2) w2 (src_zip hd1 hd2 r1' r2)⟩
end
end PF
namespace PF
open PySem PySem.Spec PyProof.Rows L2
noncomputable def compSt (own : Nat) (caps : List Nat) (σ : St) : St := List.replicate own none ++ caps.map fun i => (σ[i]?).join
noncomputable def clOf (env : Env) : List (Str × NameKind) → List (Str × Addr) → List (Str × Addr)
  | [], acc => acc
  | (n, k) :: r, acc => clOf env r (if k == .free then (match env.cells.lookup n with | some c => (n, c) :: acc | none => acc) else acc)
theorem closure_cl {env : Env} : ∀ {names : List (Str × NameKind)} {acc : List (Str × Addr)}, (∀ p ∈ names, p.2 = .free → ∃ c, env.cells.lookup p.1 = some c) →
    (forIn names acc fun (x : Str × NameKind) (cs : List (Str × Addr)) => (if (x.2 == NameKind.free) = true then (do let c ← cellOf env x.1; pure (ForInStep.yield ((x.1, c) :: cs))) else pure (ForInStep.yield cs) : Sem (ForInStep (List (Str × Addr))))) = pure (clOf env names acc)
  | [], acc, _ => rfl
  | (n, k) :: r, acc, h => by
    rw [List.forIn_cons]
    by_cases hk : k = .free
    · subst hk
      obtain ⟨c, hc⟩ := h (n, .free) (by simp) rfl
      dsimp only at hc ⊢
      rw [if_pos (by decide)]
      have e : cellOf env n = pure c := by unfold cellOf; rw [hc]
      rw [e, pure_bind, pure_bind]
      dsimp only
      rw [closure_cl (fun p hp => h p (List.mem_cons_of_mem _ hp)), clOf, if_pos (by decide), hc]
    · have hb : (k == NameKind.free) = false := by simpa using hk
      dsimp only
      rw [if_neg (by rw [hb]; exact Bool.false_ne_true), pure_bind]
      dsimp only
      rw [closure_cl (fun p hp => h p (List.mem_cons_of_mem _ hp)), clOf, if_neg (by rw [hb]; exact Bool.false_ne_true)]
theorem closureFor_cl {env : Env} {scope : Scope} (h : ∀ p ∈ scope.names, p.2 = .free → ∃ c, env.cells.lookup p.1 = some c) : closureFor scope env = pure (clOf env scope.names []) := by
  have := closure_cl (env := env) (names := scope.names) (acc := []) h
  unfold closureFor
  first
    | (simp only [this, pure_bind])
    | (rw [this]; rfl)
theorem clOf_sub {env : Env} : ∀ {names : List (Str × NameKind)} {acc : List (Str × Addr)} {x : Str} {c : Addr}, (∀ x c, acc.lookup x = some c → env.cells.lookup x = some c) → (clOf env names acc).lookup x = some c → env.cells.lookup x = some c
  | [], acc, x, c, h, e => h x c e
  | (n, k) :: r, acc, x, c, h, e => by
    rw [clOf] at e
    refine clOf_sub (acc := _) ?_ e
    intro y d hy
    split at hy
    · split at hy
      · rename_i c' hc'
        rw [List.lookup_cons] at hy
        split at hy
        · rename_i q
          cases hy
          have : y = n := by simpa using q
          rw [this]; exact hc'
        · exact h y d hy
      · exact h y d hy
    · exact h y d hy
theorem clOf_has {env : Env} : ∀ {names : List (Str × NameKind)} {acc : List (Str × Addr)} {x : Str} {c : Addr}, (((x, NameKind.free) ∈ names ∧ env.cells.lookup x = some c) ∨ acc.lookup x = some c ∧ env.cells.lookup x = some c) → (clOf env names acc).lookup x = some c
  | [], acc, x, c, h => by
    rcases h with ⟨h, _⟩ | h
    · cases h
    · exact h.1
  | (n, k) :: r, acc, x, c, h => by
    rw [clOf]
    refine clOf_has ?_
    rcases h with ⟨h, hc⟩ | ⟨h, hc⟩
    · rcases List.mem_cons.mp h with e | h
      · cases e
        refine .inr ⟨?_, hc⟩
        rw [if_pos (by decide), hc]
        simp
      · exact .inl ⟨h, hc⟩
    · refine .inr ⟨?_, hc⟩
      split
      · split
        · rename_i c' hc'
          rw [List.lookup_cons]
          split
          · rename_i q
            have : x = n := by simpa using q
            subst this
            rw [hc] at hc'; cases hc'; rfl
          · exact h
        · exact h
      · exact h
noncomputable def blockCx (X : Cx) (N : List Str) (scope : Scope) (C : Addr) (s2 : Shared) (H2 : Hp) (fp : List Addr) (pins : List (Addr × Obj)) : Cx :=
  { X with N := N, s₀ := s2, H₀ := H2, env := compEnvC scope (clOf X.env scope.names []) C X.env, outer := X.stack, stack := X.stack, ex := fp, fn := fun _ => false, pn := X.pn ++ pins, xe := fun _ _ => False }
structure CompN (X : Cx) (scope : Scope) (N : List Str) (own : Nat) (caps : List Nat) : Prop where
  kind : scope.kind = .function
  nocell : ∀ p ∈ scope.names, p.2 ≠ .cell
  loc : ∀ p ∈ scope.names, p.2 = .local → scope.names.lookup p.1 = some .local
  free : ∀ p ∈ scope.names, p.2 = .free → scope.names.lookup p.1 = some .free ∧ X.env.kindOf p.1 = some .cell
  nd : N.Nodup
  len : N.length = own + caps.length
  cap : ∀ (j i : Nat), caps[j]? = some i → ∃ x, N[own + j]? = some x ∧ X.N[i]? = some x ∧ (x, NameKind.free) ∈ scope.names
theorem mem_look {names : List (Str × NameKind)} {x : Str} {k : NameKind} (h : names.lookup x = some k) : (x, k) ∈ names := PySem.mem_of_lookup h
theorem relabel_free {env : Env} (hk : env.scope.kind = .function) : ∀ {names : List (Str × NameKind)} {x : Str}, names.lookup x = some .free → env.kindOf x = some .cell →
    (names.map fun (n, k) => if (k == NameKind.free && env.scope.kind == .function && env.kindOf n == some .cell) then (n, NameKind.cell) else (n, k)).lookup x = some .cell
  | [], x, h, _ => by simp at h
  | (n, k) :: r, x, h, hc => by
    have ih := @relabel_free env hk r x
    show List.lookup x ((if (k == NameKind.free && env.scope.kind == .function && env.kindOf n == some .cell) = true then (n, NameKind.cell) else (n, k)) :: _) = _
    cases q : x == n with
    | true =>
      simp only [List.lookup_cons, q] at h
      cases h
      have e : x = n := by simpa using q
      subst e
      have z : (NameKind.free == NameKind.free && env.scope.kind == .function && env.kindOf x == some .cell) = true := by rw [hk, hc]; rfl
      rw [if_pos z]
      simp
    | false =>
      simp only [List.lookup_cons, q] at h
      by_cases z : (k == NameKind.free && env.scope.kind == .function && env.kindOf n == some .cell) = true
      · rw [if_pos z]; simp only [List.lookup_cons, q]; exact ih h hc
      · rw [if_neg z]; simp only [List.lookup_cons, q]; exact ih h hc
theorem relabel_other {env : Env} : ∀ {names : List (Str × NameKind)} {x : Str} {k' : NameKind}, (names.map fun (n, k) => if (k == NameKind.free && env.scope.kind == .function && env.kindOf n == some .cell) then (n, NameKind.cell) else (n, k)).lookup x = some k' →
    names.lookup x = some k' ∨ (k' = .cell ∧ names.lookup x = some .free)
  | [], x, k', h => by simp at h
  | (n, k) :: r, x, k', h => by
    have ih := @relabel_other env r x k'
    replace h : List.lookup x ((if (k == NameKind.free && env.scope.kind == .function && env.kindOf n == some .cell) = true then (n, NameKind.cell) else (n, k)) :: (r.map fun (n, k) => if (k == NameKind.free && env.scope.kind == .function && env.kindOf n == some .cell) then (n, NameKind.cell) else (n, k))) = some k' := h
    by_cases z : (k == NameKind.free && env.scope.kind == .function && env.kindOf n == some .cell) = true
    · rw [if_pos z] at h
      cases q : x == n with
      | true =>
        simp only [List.lookup_cons, q] at h ⊢
        cases h
        rw [Bool.and_eq_true, Bool.and_eq_true] at z
        have : k = .free := by simpa using z.1.1
        subst this
        exact .inr ⟨rfl, rfl⟩
      | false =>
        simp only [List.lookup_cons, q] at h ⊢
        exact ih h
    · rw [if_neg z] at h
      cases q : x == n with
      | true =>
        simp only [List.lookup_cons, q] at h ⊢
        exact .inl h
      | false =>
        simp only [List.lookup_cons, q] at h ⊢
        exact ih h
section
variable {X : Cx} {pins : List (Addr × Obj)} {σ : St} {H : Hp} {s : Shared}
theorem block_inv {scope : Scope} {N : List Str} {own : Nat} {caps : List Nat} {C : Addr} {fp : List Addr} {h4 : Heap} {tk : Nat} {m : Str → Option Value} (c : CompN X scope N own caps) (I : Inv X pins σ H s) (hfp : ∀ b ∈ fp, FpOk X pins H b)
    (hob : ∀ b ∈ fp, ∃ o, s.heap.get? b = some o) (hC : s.heap.objs.size ≤ C) (hn : h4.Ns C m) (old : ∀ b o, s.heap.get? b = some o → h4.get? b = some o) :
    Inv (blockCx X N scope C s H fp pins) [] (compSt own caps σ) H { s with heap := h4, toks := tk } := by
  have hsub : ∀ x d, (clOf X.env scope.names []).lookup x = some d → X.env.cells.lookup x = some d := fun x d e => clOf_sub (fun _ _ z => by simp at z) e
  have hhas : ∀ x, (x, NameKind.free) ∈ scope.names → ∃ d, X.env.cells.lookup x = some d ∧ (clOf X.env scope.names []).lookup x = some d := fun x hx => by
    obtain ⟨d, hd⟩ := I.ok.has x (.inl (c.free _ hx rfl).2)
    exact ⟨d, hd, clOf_has (.inl ⟨hx, hd⟩)⟩
  have fpC : ∀ b ∈ fp, b ≠ C := fun b hb => by
    obtain ⟨o, ho⟩ := hob b hb
    exact Nat.ne_of_lt (Nat.lt_of_lt_of_le (Heap.lt_size ho) hC)
  have stk : ∀ b, b ≠ X.env.locals → b ∉ X.fs → b ∉ frs X.stack := fun b h1 h2 hb => by
    rcases List.mem_cons.mp (I.stkSub b hb) with z | z
    · exact h1 z
    · exact h2 z
  refine ⟨⟨I.ok.mod, ?_, I.ok.glob, I.ok.blt, hC, ?_, ?_, fun x d hf => (by cases hf), I.ok.hd, I.ok.frames, .inl rfl, ?_, I.bs, Nat.le_trans I.ok.bsz I.sz, ?_, ?_, I.stack, I.stkFree⟩,
    rfl, I.bare, Un.kept old, ⟨m, hn, ?_⟩, ?_, I.hok.fresh hC, ?_, ?_, I.hok.kept old, ?_⟩
  · exact c.kind
  · intro x y d h1 h2
    exact I.ok.inj x y d (hsub x d h1) (hsub y d h2)
  · intro x hx
    have hx' : (relabel scope X.env).names.lookup x = some .cell ∨ (relabel scope X.env).names.lookup x = some .free := hx
    have key : (x, NameKind.free) ∈ scope.names := by
      rcases hx' with z | z
      · rcases relabel_other z with z | ⟨_, z⟩
        · exact absurd rfl (c.nocell _ (mem_look z))
        · exact mem_look z
      · rcases relabel_other z with z | ⟨z, _⟩
        · exact mem_look z
        · cases z
    obtain ⟨d, _, hd⟩ := hhas x key
    exact ⟨d, hd⟩
  · intro b hb
    exact ⟨fpC b hb, fun x d e => (hfp b hb).2.2.2.2.1 x d (hsub x d e)⟩
  · intro b o e hb
    rcases (hfp b hb).2.2.2.1 with z | z
    · exact I.ok.noex b o e z
    · exact absurd (Nat.lt_of_lt_of_le (Heap.lt_size e) (Nat.le_trans I.ok.bsz z)) (Nat.lt_irrefl _)
  · intro b hb
    exact stk b (hfp b hb).2.1 (hfp b hb).2.2.1
  · intro i x v h1 h2 h3
    have h1' : N[i]? = some x := h1
    unfold compSt at h2
    by_cases hi : i < own
    · rw [List.getElem?_append_left (by simpa using hi), List.getElem?_replicate] at h2
      split at h2 <;> cases h2
    · rw [List.getElem?_append_right (by simpa using hi), List.getElem?_map] at h2
      simp only [List.length_replicate] at h2
      obtain ⟨ii, hc1, hc2⟩ := Option.map_eq_some_iff.mp h2
      obtain ⟨y, hy1, hy2, hy3⟩ := c.cap _ ii hc1
      have ei : own + (i - own) = i := by omega
      rw [ei, h1'] at hy1
      cases hy1
      have hσ : σ[ii]? = some (some v) := by
        cases q : σ[ii]? with
        | none => rw [q] at hc2; cases hc2
        | some o => rw [q] at hc2; rw [show o = some v from hc2]
      obtain ⟨m0, hn0, hl0⟩ := I.loc
      have hk := (c.free _ hy3 rfl).2
      obtain ⟨u, ru, lk⟩ := hl0 ii x v hy2 hσ (.inr (.inl hk))
      refine ⟨u, ru, ?_⟩
      obtain ⟨d, hd1, hd2⟩ := hhas x hy3
      have lkc : ∃ c, X.env.cells.lookup x = some c ∧ s.heap.IsCell c (some u) := by
        rcases lk with ⟨z, _⟩ | ⟨_, z⟩
        · rw [hk] at z; cases z
        · exact z
      obtain ⟨d', hd3, o, ho, hod⟩ := lkc
      rw [hd1] at hd3; cases hd3
      refine .inr ⟨.inl ?_, d, hd2, o, old d o ho, hod⟩
      exact relabel_free I.ok.kind (c.free _ hy3 rfl).1 hk
  · intro x d e
    obtain ⟨v, o, ho, hd⟩ := I.cell x d (hsub x d e)
    exact ⟨v, o, old d o ho, hd⟩
  · intro x d e
    exact I.freeC x d (hsub x d e)
  · intro q hq
    have hq' : q ∈ X.pn ++ pins := by
      have z : q ∈ (X.pn ++ pins) ++ [] := hq
      simpa using z
    obtain ⟨a1, a2, a3, a4, a5⟩ := I.pin q hq'
    exact ⟨old _ _ a1, a2, Nat.ne_of_lt (Nat.lt_of_lt_of_le (Heap.lt_size a1) hC), stk _ a3 a4, a5⟩
  · show (compSt own caps σ).length = N.length
    unfold compSt
    rw [c.len]
    simp
theorem comp_er {K : Frag} {mu : List Addr} {own : Nat} {caps : List Nat} {env : En} {σ : St} (r : ER K mu H env σ) : ER K mu H (compEn own caps env) (compSt own caps σ) := by
  unfold compEn compSt
  refine ⟨by simp, fun i d h => ?_⟩
  by_cases hi : i < own
  · rw [List.getElem?_append_left (by simpa using hi), List.getElem?_replicate] at h
    split at h <;> cases h
  · rw [List.getElem?_append_right (by simpa using hi), List.getElem?_map] at h
    simp only [List.length_replicate] at h
    obtain ⟨ii, hc1, hc2⟩ := Option.map_eq_some_iff.mp h
    have he : env[ii]? = some (some d) := by
      cases q : env[ii]? with
      | none => rw [q] at hc2; cases hc2
      | some o => rw [q] at hc2; rw [show o = some d from hc2]
    obtain ⟨v, h1, h2⟩ := r.get ii d he
    refine ⟨v, ?_, h2⟩
    rw [List.getElem?_append_right (by simpa using hi), List.getElem?_map]
    simp only [List.length_replicate]
    rw [hc1]
    show some ((σ[ii]?).join) = _
    rw [h1]; rfl
def TestsJ (Y : Cx) (ifs : List Expr) (t : TT) : Prop :=
  ∀ (pins : List (Addr × Obj)) (s : Shared) (σ : St) (H : Hp) (Q : Bool → Hp → Prop), Inv Y pins σ H s → t σ H Q →
    wpAny (model Y.prog Y.w) Y.A (forIn ifs true fun c r => if r = true then do let ok ← isTrue c Y.env (eval c Y.env); pure (ForInStep.yield ok) else pure (ForInStep.yield r)) (TP Y pins σ Q) Y.xe s
theorem comp_any {elt tgt iter : Expr} {ifs : List Expr} {scope : Scope} {pos cpos : Pos} {N : List Str} {own : Nat} {caps : List Nat} {fI : En → Sto → Option (Sr × Sto)} {fG : D → En → Sto → Option (En × Sto)} {fT : En → Sto → Option (Bool × Sto)} {fE : En → Sto → Option (D × Sto)}
    {use : Option (Value → Sem Unit)} {RQ : Value → Shared → Prop} (calm : X.calm = true) (cn : CompN X scope N own caps) (hi : PI X tgt iter (tI X.K fI)) (hs : ∀ y, foldedSetIterable iter X.env y = pure y)
    (blk : ∀ (C : Addr) (s2 : Shared) (H2 : Hp) (fp : List Addr) (pins : List (Addr × Obj)), PG (blockCx X N scope C s2 H2 fp pins) tgt (tG X.K fG) ∧ TestsJ (blockCx X N scope C s2 H2 fp pins) ifs (tT X.K fT) ∧ PE (blockCx X N scope C s2 H2 fp pins) elt (tE X.K fE))
    {pins : List (Addr × Obj)} {s : Shared} {σ : St} {H : Hp} (I : Inv X pins σ H s) {mu : List Addr} {env : En} {S S2 : Sto} {acc : List D} (he : ER X.K mu H env σ) (hw : WR X.K mu H S)
    (hf : ((fI env S).bind fun r => compL r.1 (stepC fG fT fE) r.1.fuel 0 (compEn own caps env) r.2 []) = some (acc, S2))
    (fin : ∀ (s4 : Shared) (H3 : Hp) (D0 C : Addr) (m : Str → Option Value) (mu3 : List Addr) (accV : List V) (v : Flow), H3 D0 = none → Inv X pins σ (upd H3 D0 (.lst accV)) s4 → s4.heap.Ns C m → FpOk X pins (upd H3 D0 (.lst accV)) C → Ext mu H mu3 H3 → WR X.K mu3 H3 S2 → RDs X.K mu3 H3 acc accV →
      compPost (model X.prog X.w) X.A X.xe use RQ (.ref D0) C (.ok v) s4) :
    wpAny (model X.prog X.w) X.A (comprehension (.ListComp elt [⟨tgt, iter, ifs, 0⟩] scope pos) scope X.env cpos (newList []) false (eval iter X.env) use) RQ X.xe s := by
  obtain ⟨⟨ds, S1⟩, h1, h2⟩ := Option.bind_eq_some_iff.mp hf
  dsimp only at h2
  have hclos := closureFor_cl (env := X.env) (scope := scope) (fun p hp hf => I.ok.has p.1 (.inl (cn.free p hp hf).2))
  refine wpAny_comprehension_free (use := use) rfl hs hclos cn.kind cn.loc (thn (hi pins s σ H (fun J H1 => ∃ mu1, Ext mu H mu1 H1 ∧ WR X.K mu1 H1 S1 ∧ Src X.K J mu1 H1 ds) I ⟨mu, env, S, he, hw, ds, S1, h1, fun J mu1 H1 e1 w1 src => ⟨mu1, e1, w1, src⟩⟩) fun v s1 q1 => thn q1 fun itv s2 q2 => ?_)
  obtain ⟨it, fp, tn, J, H2, e, I2, T, st2, f2, mu1, e1, w1, src⟩ := q2
  subst e
  refine wpAny_newObj_type (wpAny_newFunctionEnv cn.nocell (by intro y hy; simp at hy) (fun h4 hns hsb => ?_) cn.kind)
  dsimp only at hns hsb ⊢
  generalize hP : s2.heap.push { cls := .type "list", dict := none, data := .seq ([] : List Value).toArray } = P2 at hns hsb ⊢
  have hC : P2.objs.size = s2.heap.objs.size + 1 := by rw [← hP, Heap.size_push]
  have hDC : s2.heap.objs.size ≠ P2.objs.size := by rw [hC]; exact Nat.ne_of_lt (Nat.lt_succ_self _)
  have hCle : s2.heap.objs.size ≤ P2.objs.size := by rw [hC]; exact Nat.le_succ _
  have below : ∀ b o, s2.heap.get? b = some o → b ≠ P2.objs.size ∧ b ≠ s2.heap.objs.size := fun b o e => ⟨by rw [hC]; exact Nat.ne_of_lt (Nat.lt_succ_of_lt (Heap.lt_size e)), Nat.ne_of_lt (Heap.lt_size e)⟩
  have old : ∀ b o, s2.heap.get? b = some o → h4.get? b = some o := fun b o e => hsb.extBut b o (below b o e).1 (Heap.get?_push_of_some _ (hP ▸ Heap.get?_push_of_some _ e))
  have hacc0 : h4.PlainList s2.heap.objs.size #[] := ⟨_, hsb.extBut _ _ hDC (Heap.get?_push_of_some _ (hP ▸ Heap.get?_push_size _ rfl))⟩
  generalize hD0 : s2.heap.objs.size = D0 at hC hDC hCle below hacc0 ⊢
  have fpOb : ∀ b ∈ fp, ∃ o, s2.heap.get? b = some o := fun b hb => by obtain ⟨o, ho, _⟩ := T.obj _ _ st2 b hb; exact ⟨o, ho⟩
  have fpD : ∀ b ∈ fp, b ≠ D0 := fun b hb => by obtain ⟨o, ho⟩ := fpOb b hb; exact (below b o ho).2
  have fpC : ∀ b ∈ fp, b ≠ P2.objs.size := fun b hb => by obtain ⟨o, ho⟩ := fpOb b hb; exact (below b o ho).1
  have IY : Inv (blockCx X N scope P2.objs.size s2 H2 fp pins) [] (compSt own caps σ) H2 { s2 with heap := h4, toks := s2.toks + ([] : List (Str × Value)).length } := block_inv cn I2 f2 fpOb (by rw [hD0]; exact hCle) hns old
  obtain ⟨bG, bT, bE⟩ := blk P2.objs.size s2 H2 fp pins
  -- what an object of ours is for the block
  have fpY : ∀ {pp : List (Addr × Obj)} {H3 : Hp}, (∀ p ∈ pp, p.1 = D0 ∨ p.1 ∈ fp → p.1 = D0) → True := fun _ => trivial
  have okB : ∀ {pp : List (Addr × Obj)} {H3 : Hp} (b : Addr), b ∈ fp → H3 b = none → (∀ p ∈ pp, p.1 ≠ b) → FpOk (blockCx X N scope P2.objs.size s2 H2 fp pins) pp H3 b := fun {pp H3} b hb hn hp => by
    obtain ⟨f0, f1, f3, f4, f5, f6⟩ := f2 b hb
    refine ⟨hn, fpC b hb, fun z => ?_, .inl hb, fun x c e => f5 x c (clOf_sub (fun _ _ z => by simp at z) e), fun p hpp => ?_⟩
    · rcases List.mem_cons.mp (I2.stkSub b z) with z | z
      · exact f1 z
      · exact f3 z
    · have hpp' : p ∈ (X.pn ++ pins) ++ pp := hpp
      rcases List.mem_append.mp hpp' with z | z
      · exact f6 p z
      · exact hp p z
  have okD0 : ∀ {pp : List (Addr × Obj)} {H3 : Hp}, H3 D0 = none → (∀ p ∈ pp, p.1 ≠ D0) → FpOk (blockCx X N scope P2.objs.size s2 H2 fp pins) pp H3 D0 := fun {pp H3} hn hp => by
    refine ⟨hn, hDC, fun z => ?_, .inr (Nat.le_of_eq hD0), fun x c e => ?_, fun p hpp => ?_⟩
    · have := I2.stack.mem z
      obtain ⟨_, o, ho, _⟩ := this
      exact (below _ o ho).2 rfl
    · obtain ⟨v, o, ho, _⟩ := I2.cell x c (clOf_sub (fun _ _ z => by simp at z) e)
      exact (below _ o ho).2
    · have hpp' : p ∈ (X.pn ++ pins) ++ pp := hpp
      rcases List.mem_append.mp hpp' with z | z
      · exact (below _ _ (I2.pin p z).1).2
      · exact hp p z
  -- the loop
  have loop : ∀ s4 : Shared, s4 = { s2 with heap := h4, toks := s2.toks + ([] : List (Str × Value)).length } →
      codeAny (model X.prog X.w) X.A (.compLoop (.ListComp elt [⟨tgt, iter, ifs, 0⟩] scope pos) 0 (.ref it) (.ref D0) (compEnvC scope (clOf X.env scope.names []) P2.objs.size X.env))
        (compPost (model X.prog X.w) X.A X.xe use RQ (.ref D0) P2.objs.size) s4 := by
    rintro s4 rfl
    refine codeAny_loop rfl (fun n s3 => ∃ i σ3 H3 mu3 env3 S3 accD accV its, Sr.le ds i ∧ Inv (blockCx X N scope P2.objs.size s2 H2 fp pins) [] σ3 H3 s3 ∧ tn i s3.heap ∧ (∀ b ∈ fp, H3 b = none) ∧ H3 D0 = none ∧
      s3.heap.PlainList D0 its ∧ Vals accV its.toList ∧ RDs X.K mu3 H3 accD accV ∧ accD.length ≤ line ∧ Ext mu1 H2 mu3 H3 ∧ WR X.K mu3 H3 S3 ∧ ER X.K mu3 H3 env3 σ3 ∧ compL ds (stepC fG fT fE) n i env3 S3 accD = some (acc, S2)) ?_ ds.fuel ?_
    · rintro n s3 ⟨i, σ3, H3, mu3, env3, S3, accD, accV, its, hi3, I3, st3, fr3, nD3, pl3, va3, rs3, hz3, x3, w3, r3, hl3⟩
      show wpAny _ X.A ((compTurn (.ListComp elt [⟨tgt, iter, ifs, 0⟩] scope pos) 0 (.ref it) (.ref D0) (compEnvC scope (clOf X.env scope.names []) P2.objs.size X.env)).onRaise (fun x => do noteFrame x (compEnvC scope (clOf X.env scope.names []) P2.objs.size X.env); theTreesLotGoes x)) _ _ s3
      refine wpAny_noted ?_
      rw [compTurn_list]
      refine wpAny_bind (wpAny_standAt (wpAny_bind ?_))
      have pD : ∀ p ∈ pinsAt [D0] s3.heap, p.1 = D0 := fun p hp => by simpa using (of_pinsAt hp).1
      obtain ⟨nn, hDo⟩ := id pl3
      have I3p : Inv (blockCx X N scope P2.objs.size s2 H2 fp pins) ([] ++ pinsAt [D0] s3.heap) σ3 H3 s3 := I3.pinned (fun b hb => by
        have : b = D0 := by simpa using hb
        subst this
        exact okD0 nD3 (fun p hp => by simp at hp)) (fun b hb => by
        have : b = D0 := by simpa using hb
        subst this
        exact ⟨_, hDo, fun v z => by cases z⟩)
      rw [List.nil_append] at I3p
      have mD : (D0, ({ cls := .type "list", data := .seq its nn } : Obj)) ∈ pinsAt [D0] s3.heap := mem_pinsAt (by simp) hDo
      have ok3 : ∀ {H5 : Hp}, (∀ b ∈ fp, H5 b = none) → ∀ b ∈ fp, FpOk (blockCx X N scope P2.objs.size s2 H2 fp pins) (pinsAt [D0] s3.heap) H5 b := fun {H5} hn b hb => okB b hb (hn b hb) (fun p hp => by rw [pD p hp]; exact (fpD b hb).symm)
      cases n with
      | zero => rw [compL] at hl3; cases hl3
      | succ n =>
      rw [compL] at hl3
      obtain ⟨od, hod, hl3⟩ := Option.bind_eq_some_iff.mp hl3
      have hsrc := src mu3 H3 S3 x3 w3 i hi3 od hod
      cases od with
      | some dd =>
        obtain ⟨hlt, go, yl⟩ := hsrc
        obtain ⟨⟨ox, env6, S6⟩, hst, hl3⟩ := Option.bind_eq_some_iff.mp hl3
        unfold stepC at hst
        obtain ⟨⟨env4, S4⟩, hg, hst⟩ := Option.bind_eq_some_iff.mp hst
        obtain ⟨⟨tb, S5⟩, ht, hst⟩ := Option.bind_eq_some_iff.mp hst
        refine thn (T.item (blockCx X N scope P2.objs.size s2 H2 fp pins) rfl rfl rfl calm i (pinsAt [D0] s3.heap) s3 σ3 H3 _ I3p (ok3 fr3) st3 go) fun r s4 ⟨u, hr, h4'⟩ => ?_
        subst hr
        refine wpAny_bind (thn h4' fun _ s5 ⟨x, H5, I5, rx, y5, st5, fr5⟩ => ?_)
        obtain ⟨e5, w5, rd5⟩ := yl x H5 y5
        have I5p := I5.pinned (ok3 fr5) (T.obj _ _ st5)
        refine wpAny_bind (wpAny_mono (bG _ s5 σ3 H5 x u (fun σ4 H4 => ∃ mu4, Ext mu3 H5 mu4 H4 ∧ WR X.K mu4 H4 S4 ∧ ER X.K mu4 H4 env4 σ4) I5p rx ⟨mu3, env3, S3, dd, r3.mono e5, w5, rd5, env4, S4, hg, fun σ4 mu4 H4 a b c => ⟨mu4, a, b, c⟩⟩) (fun _ s6 q6 => ?_) fun _ _ z => z.elim)
        obtain ⟨σ4, H6, I6, mu4, e6, w6, r6⟩ := q6
        refine wpAny_bind (wpAny_mono (bT _ s6 σ4 H6 (fun b H' => b = tb ∧ ∃ mu5, Ext mu4 H6 mu5 H' ∧ WR X.K mu5 H' S5) I6 ⟨mu4, env4, S4, r6, w6, tb, S5, ht, fun mu5 H' a b => ⟨rfl, mu5, a, b⟩⟩) (fun b s7 q7 => ?_) fun _ _ z => z.elim)
        obtain ⟨H7, I7, eb, mu5, e7, w7⟩ := q7
        subst eb
        have keepF : ∀ {σ' : St} {H' : Hp} {s' : Shared} {h9 : Heap}, Inv (blockCx X N scope P2.objs.size s2 H2 fp pins) (pinsAt [D0] s3.heap ++ pinsAt fp s5.heap) σ' H' s' → (∀ b o, b ≠ D0 → s'.heap.get? b = some o → h9.get? b = some o) → tn (i + 1) h9 ∧ ∀ b ∈ fp, H' b = none := fun {σ' H' s' h9} J9 k9 => by
          have hpin : ∀ b ∈ fp, ∀ o, s5.heap.get? b = some o → s'.heap.get? b = some o ∧ H' b = none := fun b hb o e => by
            have := J9.pin (b, o) (List.mem_append_right _ (List.mem_append_right _ (mem_pinsAt hb e)))
            exact ⟨this.1, this.2.1⟩
          refine ⟨T.keep _ _ _ st5 fun b hb o e => k9 b o (fpD b hb) (hpin b hb o e).1, fun b hb => ?_⟩
          obtain ⟨o, e, _⟩ := T.obj _ _ st5 b hb
          exact (hpin b hb o e).2
        have keepD : ∀ {σ' : St} {H' : Hp} {s' : Shared}, Inv (blockCx X N scope P2.objs.size s2 H2 fp pins) (pinsAt [D0] s3.heap ++ pinsAt fp s5.heap) σ' H' s' → s'.heap.PlainList D0 its ∧ H' D0 = none := fun {σ' H' s'} J9 => by
          have := J9.pin (D0, _) (List.mem_append_right _ (List.mem_append_left _ mD))
          exact ⟨⟨nn, this.1⟩, this.2.1⟩
        cases b with
        | false =>
          rw [if_neg Bool.false_ne_true] at hst
          cases hst
          obtain ⟨t9, f9⟩ := keepF (h9 := s7.heap) I7 (fun _ _ _ e => e)
          obtain ⟨p9, n9⟩ := keepD I7
          refine wpAny_pure ⟨rfl, n, Nat.lt_succ_self n, i + 1, σ4, H7, mu5, env4, S5, accD, accV, its, hlt, I7.pins_of (fun p hp => by simp at hp), t9, f9, n9, p9, va3, RDs.mono ((e5.trans e6).trans e7) _ _ rs3, hz3, x3.trans ((e5.trans e6).trans e7), w7, r6.mono e7, hl3⟩
        | true =>
          rw [if_pos rfl] at hst
          obtain ⟨⟨dx, S8⟩, hx, e⟩ := Option.map_eq_some_iff.mp hst
          cases e
          dsimp only at hl3
          split at hl3
          · rename_i hz
            refine wpAny_bind (wpAny_bind (wpAny_mono (bE _ s7 σ4 H7 (fun v' H' => ∃ mu8, Ext mu5 H7 mu8 H' ∧ WR X.K mu8 H' S8 ∧ RD X.K mu8 H' dx v') I7 ⟨mu5, env4, S5, r6.mono e7, w7, dx, S8, hx, fun v' mu8 H' a b c => ⟨mu8, a, b, c⟩⟩) (fun y s8 q8 => ?_) fun _ _ z => z.elim))
            obtain ⟨yv, H8, I8, ry, mu8, e8, w8, rd8⟩ := q8
            obtain ⟨p8, n8⟩ := keepD I8
            have hszz : its.size ≤ sizeLine := by
              have a1 := va3.length
              have a2 := rs3.length
              have a3 : its.toList.length = its.size := by simp
              have a4 := line_eq
              omega
            refine wpAny_bind (wpAny_list_append_plain (hsz := hszz) p8 fun h9 hl9 hs9 => wpAny_pure (wpAny_pure ?_))
            · obtain ⟨t9, f9⟩ := keepF (h9 := h9) I8 (fun b o hb e => hs9.extBut b o hb e)
              have ext : Ext mu3 H3 mu8 H8 := ((e5.trans e6).trans e7).trans e8
              have I9 : Inv (blockCx X N scope P2.objs.size s2 H2 fp pins) [] σ4 H8 { s8 with heap := h9 } := inv_ch (t' := s8.toks) (ch := [D0]) (I8.pins_of (pins' := []) (fun p hp => by simp at hp)) (fun b hb => by
                have : b = D0 := by simpa using hb
                subst this
                exact okD0 n8 (fun p hp => by simp at hp)) (fun b o hb e => hs9.extBut b o (fun z => hb (by simp [z])) e)
              refine ⟨rfl, n, Nat.lt_succ_self n, i + 1, σ4, H8, mu8, env4, S8, accD ++ [dx], accV ++ [yv], its.push y, hlt, I9, t9, f9, n8, hl9, ?_, (RDs.mono ext _ _ rs3).append (.cons rd8 .nil), by simp; omega, x3.trans ext, w8, r6.mono (e7.trans e8), hl3⟩
              rw [Array.toList_push]
              exact va3.append (.cons ry .nil)
          · cases hl3
      | none =>
        cases hl3
        refine thn (T.done (blockCx X N scope P2.objs.size s2 H2 fp pins) rfl rfl rfl calm i (pinsAt [D0] s3.heap) s3 σ3 H3 _ I3p (ok3 fr3) st3 hsrc) fun r s4 ⟨hr, I4⟩ => ?_
        subst hr
        refine wpAny_pure ?_
        have pl4 : s4.heap.PlainList D0 its ∧ H3 D0 = none := by
          have := I4.pin (D0, _) (List.mem_append_right _ mD)
          exact ⟨⟨nn, this.1⟩, this.2.1⟩
        obtain ⟨m4, hn4, _⟩ := I4.loc
        obtain ⟨⟨n4, eD⟩, nD⟩ := pl4
        have ub : Un (frs X.stack) fp H2 H3 s2.heap s4.heap := I4.base
        have nC : H3 P2.objs.size = none := I4.free
        have un : Un (frs X.stack) fp H2 (upd H3 D0 (.lst accV)) s2.heap s4.heap := by
          refine ⟨ub.keep, ub.slot, fun b o q n hx => ?_, ub.there, fun b xs q => ?_, fun b o u q => ?_, fun b ps q => ?_⟩
          · rw [upd_ne (below b o q).2]; exact ub.free b o q n hx
          · have z := ub.tups b xs q
            rw [upd_ne (ne_of_none z nD)]; exact z
          · have z := ub.frzs b o u q
            rw [upd_ne (ne_of_none z nD)]; exact z
          · obtain ⟨more, z⟩ := ub.tbls b ps q
            exact ⟨more, by rw [upd_ne (ne_of_none z nD)]; exact z⟩
        have hok : HOk X.prog X.w (upd H3 D0 (.lst accV)) s4.heap := fun b u e => by
          by_cases hb : b = D0
          · subst hb
            rw [upd_same] at e
            cases e
            refine ⟨?_, its.toList, n4, va3, ?_⟩
            · have a2 := rs3.length
              have a4 := line_eq
              omega
            · rw [Array.toArray_toList]
              exact eD
          · rw [upd_ne hb] at e
            exact (I4.hok b u e).stay (fun c v hc q => q) (fun c q => by rw [upd_ne (ne_of_none q nD)]; exact q) fun c xs q => by rw [upd_ne (ne_of_none q nD)]; exact q
        have bare4 := I4.bare
        have os4 : s4.os = s2.os := I4.os
        have J9 : Inv X pins σ (upd H3 D0 (.lst accV)) s4 := by
          obtain ⟨hh, g, dd, tt, os'⟩ := s4
          obtain rfl : os' = s2.os := os4
          exact Inv.call (s := s2) (h' := hh) (g' := g) (d' := dd) (t' := tt) (ch := fp) I2 un hok bare4 (fun b hb => ⟨(f2 b hb).2.2.2.1, (f2 b hb).2.1, (f2 b hb).2.2.2.2.1, (f2 b hb).2.2.2.2.2⟩)
        refine fin s4 H3 D0 P2.objs.size m4 mu3 accV _ nD J9 hn4 ?_ (e1.trans x3) w3 rs3
        refine I2.fpOk (by rw [hD0]; exact hCle) ?_
        rw [upd_ne (Ne.symm hDC)]; exact nC
    · exact ⟨0, _, H2, mu1, compEn own caps env, S1, [], [], #[], by cases ds <;> first | exact Nat.zero_le _ | exact trivial, IY, T.keep _ _ _ st2 (fun b hb o e => old b o e), fun b hb => (f2 b hb).1, I2.hok.fresh (Nat.le_of_eq hD0), hacc0, .nil, .nil, Nat.zero_le _, .refl, w1, comp_er (he.mono e1), h2⟩
  exact codeAny_compStart_list (loop _ rfl) (T.self _ 0 _ _ _ (T.keep _ _ _ st2 (fun b hb o e => old b o e)) (loop _ rfl))
theorem pe_comp {elt tgt iter : Expr} {ifs : List Expr} {scope : Scope} {pos : Pos} {N : List Str} {own : Nat} {caps : List Nat} {fI : En → Sto → Option (Sr × Sto)} {fG : D → En → Sto → Option (En × Sto)} {fT : En → Sto → Option (Bool × Sto)} {fE : En → Sto → Option (D × Sto)}
    (calm : X.calm = true) (cn : CompN X scope N own caps) (hi : PI X tgt iter (tI X.K fI)) (hs : ∀ y, foldedSetIterable iter X.env y = pure y)
    (blk : ∀ (C : Addr) (s2 : Shared) (H2 : Hp) (fp : List Addr) (pins : List (Addr × Obj)), PG (blockCx X N scope C s2 H2 fp pins) tgt (tG X.K fG) ∧ TestsJ (blockCx X N scope C s2 H2 fp pins) ifs (tT X.K fT) ∧ PE (blockCx X N scope C s2 H2 fp pins) elt (tE X.K fE)) :
    PE X (.ListComp elt [⟨tgt, iter, ifs, 0⟩] scope pos) (tN X.K (fun env S => (fI env S).bind fun r => compL r.1 (stepC fG fT fE) r.1.fuel 0 (compEn own caps env) r.2 [])) := by
  intro pins s σ H Q I ⟨mu, env, S, he, hw, acc, S', hf, k⟩
  rw [eval_ListComp]
  refine comp_any (use := none) calm cn hi hs blk I he hw hf fun s4 H3 D0 C m mu3 accV v nD J hn fpC e3 w3 rs => ⟨m, hn, fun h5 hs5 => ?_⟩
  refine ⟨.ref D0, _, inv_ch (t' := s4.toks) (ch := [C]) J (fun b hb => ?_) (fun b o hb e => hs5.extBut b o (fun z => hb (by simp [z])) e), rfl, k accV D0 mu3 H3 e3 w3 nD rs⟩
  have : b = C := by simpa using hb
  subst this; exact fpC
theorem ps_comp {elt tgt iter : Expr} {y : Str} {py : Pos} {ifs : List Expr} {scope : Scope} {pos spos : Pos} {N : List Str} {own : Nat} {caps : List Nat} {fI : En → Sto → Option (Sr × Sto)} {fG : D → En → Sto → Option (En × Sto)} {fT : En → Sto → Option (Bool × Sto)} {fE : En → Sto → Option (D × Sto)} {g : TG}
    (calm : X.calm = true) (cn : CompN X scope N own caps) (hi : PI X tgt iter (tI X.K fI)) (hs : ∀ y, foldedSetIterable iter X.env y = pure y)
    (blk : ∀ (C : Addr) (s2 : Shared) (H2 : Hp) (fp : List Addr) (pins : List (Addr × Obj)), PG (blockCx X N scope C s2 H2 fp pins) tgt (tG X.K fG) ∧ TestsJ (blockCx X N scope C s2 H2 fp pins) ifs (tT X.K fT) ∧ PE (blockCx X N scope C s2 H2 fp pins) elt (tE X.K fE))
    (hsw : swapsWith (.ListComp elt [⟨tgt, iter, ifs, 0⟩] scope pos) (some (.Name y py)) spos.line X.env = pure true) (hg : PG X (.Name y py) g) :
    PS X (.Assign [.Name y py] (.ListComp elt [⟨tgt, iter, ifs, 0⟩] scope pos) spos) (fun D σ H => tN X.K (fun env S => (fI env S).bind fun r => compL r.1 (stepC fG fT fE) r.1.fuel 0 (compEn own caps env) r.2 []) σ H fun v H1 => g v σ H1 D.nx) := by
  intro pins s σ H D I ⟨mu, env, S, he, hw, acc, S', hf, k⟩
  rw [exec_Assign_Name_used _ _ _ _ hsw]
  refine wpAny_bind (wpAny_standAt (wpAny_bind ?_))
  show wpAny _ X.A (do let _ ← comprehension (.ListComp elt [⟨tgt, iter, ifs, 0⟩] scope pos) scope X.env _ (newList []) false (eval iter X.env) (some (assign (.Name y py) X.env))) _ _ s
  refine wpAny_bind (wpAny_mono (comp_any (use := some (assign (.Name y py) X.env)) (RQ := fun _ s' => SP X pins D .next s') calm cn hi hs blk I he hw hf fun s4 H3 D0 C m mu3 accV v nD J hn fpC e3 w3 rs => ?_) (fun _ s' hq => wpAny_pure (wpAny_pure hq)) fun _ _ e => e)
  show wpAny (model X.prog X.w) X.A (assign (.Name y py) X.env (.ref D0)) (fun _ s'' => ∃ m, s''.heap.Ns C m ∧ ∀ h', Heap.SameBut C s''.heap h' → SP X pins D .next { s'' with heap := h' }) X.xe s4
  obtain ⟨oC, es, ep, hoC, rC⟩ := hn
  have nocell : ∀ v, oC.data ≠ .cell v := fun v z => by
    have q1 := rC.1
    rw [z] at q1
    cases q1
  have Jp := J.pinned (fun b hb => by
    have : b = C := by simpa using hb
    subst this; exact fpC) (fun b hb => by
    have : b = C := by simpa using hb
    subst this; exact ⟨oC, hoC, nocell⟩) (fp := [C])
  have mC : (C, oC) ∈ pinsAt [C] s4.heap := mem_pinsAt (by simp) hoC
  refine thn (hg _ s4 σ _ (.ref D0) (.ref D0) D.nx Jp rfl (k accV D0 mu3 H3 e3 w3 nD rs)) fun _ s5 q5 => ?_
  obtain ⟨σ5, H5, I5, q⟩ := q5
  have pC := I5.pin (C, oC) (List.mem_append_right _ (List.mem_append_right _ mC))
  refine ⟨m, ⟨oC, es, ep, pC.1, rC⟩, fun h' hs' => ?_⟩
  have I6 : Inv X pins σ5 H5 s5 := I5.pins_of (fun p hp => ?_)
  · refine ⟨σ5, H5, inv_ch (t' := s5.toks) (ch := [C]) I6 (fun b hb => ?_) (fun b o hb e => hs'.extBut b o (fun z => hb (by simp [z])) e), q⟩
    have : b = C := by simpa using hb
    subst this
    obtain ⟨f0, f1, f3, f4, f5, f6⟩ := fpC
    exact ⟨pC.2.1, f1, f3, f4, f5, f6⟩
  · exact I5.pin p (List.mem_append_right _ (List.mem_append_left _ hp))
end
end PF
namespace PF
open PySem PySem.Spec PyProof.Rows L2
inductive RL {α : Type} (R1 : α → V → List Addr → Hp → Prop) (mu : List Addr) (H : Hp) : List α → List V → Prop
  | nil : RL R1 mu H [] []
  | cons {a : α} {as : List α} {v : V} {vs : List V} : R1 a v mu H → RL R1 mu H as vs → RL R1 mu H (a :: as) (v :: vs)
def Mon {α : Type} (R1 : α → V → List Addr → Hp → Prop) : Prop := ∀ (a : α) (v : V) (mu mu' : List Addr) (H H' : Hp), Ext mu H mu' H' → R1 a v mu H → R1 a v mu' H'
theorem RL.mono {α : Type} {R1 : α → V → List Addr → Hp → Prop} (m : Mon R1) {mu mu' : List Addr} {H H' : Hp} (e : Ext mu H mu' H') {as : List α} {vs : List V} (h : RL R1 mu H as vs) : RL R1 mu' H' as vs := by
  induction h with
  | nil => exact .nil
  | cons a _ ih => exact .cons (m _ _ _ _ _ _ e a) ih
theorem RL.length {α : Type} {R1 : α → V → List Addr → Hp → Prop} {mu : List Addr} {H : Hp} {as : List α} {vs : List V} (h : RL R1 mu H as vs) : as.length = vs.length := by
  induction h with
  | nil => rfl
  | cons a _ ih => rw [List.length_cons, List.length_cons, ih]
theorem RL.snoc {α : Type} {R1 : α → V → List Addr → Hp → Prop} {mu : List Addr} {H : Hp} {as : List α} {vs : List V} {a : α} {v : V} (h : RL R1 mu H as vs) (g : R1 a v mu H) : RL R1 mu H (as ++ [a]) (vs ++ [v]) := by
  induction h with
  | nil => exact .cons g .nil
  | cons b _ ih => exact .cons b ih
structure CS {α : Type} (Y : Cx) (R1 : α → V → List Addr → Hp → Prop) (D0 : Addr) (pins : List (Addr × Obj)) (mu : List Addr) (σ : St) (H : Hp) (s : Shared) (env : En) (S : Sto) (acc : List α) (vs : List V) (its : Array Value) : Prop where
  inv : Inv Y pins σ H s
  nD : H D0 = none
  pl : s.heap.PlainList D0 its
  va : Vals vs its.toList
  rs : RL R1 mu H acc vs
  hz : acc.length ≤ line
  wr : WR Y.K mu H S
  er : ER Y.K mu H env σ
def EmitJ {α : Type} (Y : Cx) (R1 : α → V → List Addr → Hp → Prop) (D0 : Addr) (pins : List (Addr × Obj)) (emit : Sem Unit) (f : En → Sto → List α → Option (List α × En × Sto)) : Prop :=
  ∀ (mu : List Addr) (σ : St) (H : Hp) (s : Shared) (env : En) (S : Sto) (acc : List α) (vs : List V) (its : Array Value) (acc' : List α) (env' : En) (S' : Sto), CS Y R1 D0 pins mu σ H s env S acc vs its → f env S acc = some (acc', env', S') →
    wpAny (model Y.prog Y.w) Y.A emit (fun _ s' => ∃ mu' σ' H' vs' its', Ext mu H mu' H' ∧ CS Y R1 D0 pins mu' σ' H' s' env' S' acc' vs' its') Y.xe s
section
variable {Y : Cx} {α : Type} {R1 : α → V → List Addr → Hp → Prop} {D0 : Addr}
theorem CS.pinD {pins : List (Addr × Obj)} {mu : List Addr} {σ : St} {H : Hp} {s : Shared} {env : En} {S : Sto} {acc : List α} {vs : List V} {its : Array Value} (c : CS Y R1 D0 pins mu σ H s env S acc vs its)
    (okD : ∀ {pp : List (Addr × Obj)} {H : Hp}, H D0 = none → (∀ p ∈ pp, p.1 ≠ D0) → FpOk Y pp H D0) (pD : ∀ p ∈ pins, p.1 ≠ D0) :
    Inv Y (pins ++ pinsAt [D0] s.heap) σ H s ∧ ∃ nn, (D0, ({ cls := .type "list", data := .seq its nn } : Obj)) ∈ pinsAt [D0] s.heap := by
  obtain ⟨nn, hDo⟩ := c.pl
  refine ⟨c.inv.pinned (fun b hb => ?_) (fun b hb => ?_), nn, mem_pinsAt (by simp) hDo⟩
  · have : b = D0 := by simpa using hb
    subst this
    exact okD c.nD pD
  · have : b = D0 := by simpa using hb
    subst this
    exact ⟨_, hDo, fun v z => by cases z⟩
theorem loopG (mon : Mon R1) (calm : Y.calm = true) (hxe : ∀ e s, ¬ Y.xe e s) {tgt : Expr} {J : It} {fp : List Addr} {it : Addr} {tn : Nat → Heap → Prop} (T : Turn Y.prog Y.w Y.K tgt J fp it tn) {ds : Sr} {mu1 : List Addr} {H1 : Hp} (src : Src Y.K J mu1 H1 ds)
    (okD : ∀ {pp : List (Addr × Obj)} {H : Hp}, H D0 = none → (∀ p ∈ pp, p.1 ≠ D0) → FpOk Y pp H D0) (okF : ∀ {pp : List (Addr × Obj)} {H : Hp} (b : Addr), b ∈ fp → H b = none → (∀ p ∈ pp, p.1 ≠ b) → FpOk Y pp H b)
    {pins : List (Addr × Obj)} (pD : ∀ p ∈ pins, p.1 ≠ D0) (pF : ∀ b ∈ fp, ∀ p ∈ pins, p.1 ≠ b) (fpD : ∀ b ∈ fp, b ≠ D0) {fG : D → En → Sto → Option (En × Sto)} (hG : PG Y tgt (tG Y.K fG)) {emit : Sem Unit} {fE : En → Sto → List α → Option (List α × En × Sto)}
    (hE : ∀ pp : List (Addr × Obj), (∀ p ∈ pp, p.1 ≠ D0) → EmitJ Y R1 D0 pp emit fE) {e : Expr} {depth : Nat} {p0 : Pos} (hq : (Code.compLoop e depth (.ref it) (.ref D0) Y.env).quiet = true)
    (hA : Y.A.under (Code.compLoop e depth (.ref it) (.ref D0) Y.env) = Y.A)
    (hden : (model Y.prog Y.w).den (Code.compLoop e depth (.ref it) (.ref D0) Y.env) = (do
      standAt p0
      match ← pyNext (.ref it) with
      | none => pure (.done .next)
      | some v =>
        letOwnedTupleGo tgt (.ref it) v
        assign tgt Y.env v
        emit
        again (.compLoop e depth (.ref it) (.ref D0) Y.env) : Sem PySem.Fin).onRaise (fun x => do noteFrame x Y.env; theTreesLotGoes x))
    {RR : Result → Shared → Prop} {acc0 acc' : List α} {env0 env' : En} {S0 S' : Sto} {mu : List Addr} {σ : St} {H : Hp} {s : Shared} {vs0 : List V} {its0 : Array Value} (c0 : CS Y R1 D0 pins mu σ H s env0 S0 acc0 vs0 its0) (x0 : Ext mu1 H1 mu H) (st0 : tn 0 s.heap) (fr0 : ∀ b ∈ fp, H b = none)
    (hle : Sr.le ds 0) (hf : compG ds (stepG fG fE) ds.fuel 0 env0 S0 acc0 = some (acc', env', S'))
    (fin : ∀ mu' σ' H' s' vs' its', Ext mu H mu' H' → CS Y R1 D0 pins mu' σ' H' s' env' S' acc' vs' its' → RR (.ok .next) s') :
    codeAny (model Y.prog Y.w) Y.A (.compLoop e depth (.ref it) (.ref D0) Y.env) RR s := by
  refine codeAny_loop hq (fun n s3 => ∃ i σ3 H3 mu3 env3 S3 acc3 vs3 its3, Sr.le ds i ∧ CS Y R1 D0 pins mu3 σ3 H3 s3 env3 S3 acc3 vs3 its3 ∧ tn i s3.heap ∧ (∀ b ∈ fp, H3 b = none) ∧ Ext mu1 H1 mu3 H3 ∧ Ext mu H mu3 H3 ∧ compG ds (stepG fG fE) n i env3 S3 acc3 = some (acc', env', S')) ?_ ds.fuel
    ⟨0, σ, H, mu, env0, S0, acc0, vs0, its0, hle, c0, st0, fr0, x0, .refl, hf⟩
  rintro n s3 ⟨i, σ3, H3, mu3, env3, S3, acc3, vs3, its3, hi3, c3, st3, fr3, x3, y3, hl3⟩
  rw [hA, hden]
  refine wpAny_noted ?_
  refine wpAny_bind (wpAny_standAt (wpAny_bind ?_))
  obtain ⟨I3p, nn, mD⟩ := c3.pinD okD pD
  have ppD : ∀ p ∈ pinsAt [D0] s3.heap, p.1 = D0 := fun p hp => by simpa using (of_pinsAt hp).1
  have ok3 : ∀ {H5 : Hp}, (∀ b ∈ fp, H5 b = none) → ∀ b ∈ fp, FpOk Y (pins ++ pinsAt [D0] s3.heap) H5 b := fun {H5} hn b hb => okF b hb (hn b hb) (fun p hp => by
    rcases List.mem_append.mp hp with hp | hp
    · exact pF b hb p hp
    · rw [ppD p hp]; exact (fpD b hb).symm)
  cases n with
  | zero => rw [compG] at hl3; cases hl3
  | succ n =>
    rw [compG] at hl3
    obtain ⟨od, hod, hl3⟩ := Option.bind_eq_some_iff.mp hl3
    have hsrc := src mu3 H3 S3 x3 c3.wr i hi3 od hod
    cases od with
    | some dd =>
      obtain ⟨hlt, go, yl⟩ := hsrc
      obtain ⟨⟨acc6, env6, S6⟩, hst, hl3⟩ := Option.bind_eq_some_iff.mp hl3
      unfold stepG at hst
      obtain ⟨⟨env4, S4⟩, hg, hst⟩ := Option.bind_eq_some_iff.mp hst
      refine thn (T.item Y rfl rfl rfl calm i (pins ++ pinsAt [D0] s3.heap) s3 σ3 H3 _ I3p (ok3 fr3) st3 go) fun r s4 ⟨u, hr, h4'⟩ => ?_
      subst hr
      refine wpAny_bind (thn h4' fun _ s5 ⟨x, H5, I5, rx, y5, st5, fr5⟩ => ?_)
      obtain ⟨e5, w5, rd5⟩ := yl x H5 y5
      have I5p := I5.pinned (ok3 fr5) (T.obj _ _ st5)
      refine wpAny_bind (wpAny_mono (hG _ s5 σ3 H5 x u (fun σ4 H4 => ∃ mu4, Ext mu3 H5 mu4 H4 ∧ WR Y.K mu4 H4 S4 ∧ ER Y.K mu4 H4 env4 σ4) I5p rx ⟨mu3, env3, S3, dd, c3.er.mono e5, w5, rd5, env4, S4, hg, fun σ4 mu4 H4 a b c => ⟨mu4, a, b, c⟩⟩) (fun _ s6 q6 => ?_) fun _ _ z => absurd z (hxe _ _))
      obtain ⟨σ4, H6, I6, mu4, e6, w6, r6⟩ := q6
      have hD6 := I6.pin (D0, _) (List.mem_append_right _ (List.mem_append_left _ (List.mem_append_right _ mD)))
      have c6 : CS Y R1 D0 (pins ++ pinsAt fp s5.heap) mu4 σ4 H6 s6 env4 S4 acc3 vs3 its3 := by
        refine ⟨I6.pins_of (fun p hp => ?_), hD6.2.1, ⟨nn, hD6.1⟩, c3.va, RL.mono mon (e5.trans e6) c3.rs, c3.hz, w6, r6⟩
        rcases List.mem_append.mp hp with hp | hp
        · exact I6.pin p (List.mem_append_right _ (List.mem_append_left _ (List.mem_append_left _ hp)))
        · exact I6.pin p (List.mem_append_right _ (List.mem_append_right _ hp))
      refine wpAny_bind (wpAny_mono (hE (pins ++ pinsAt fp s5.heap) (fun p hp => ?_) mu4 σ4 H6 s6 env4 S4 acc3 vs3 its3 acc6 env6 S6 c6 hst) (fun _ s7 q7 => ?_) fun _ _ z => absurd z (hxe _ _))
      · rcases List.mem_append.mp hp with hp | hp
        · exact pD p hp
        · exact fpD _ (of_pinsAt hp).1
      obtain ⟨mu7, σ7, H7, vs7, its7, e7, c7⟩ := q7
      have hpin : ∀ b ∈ fp, ∀ o, s5.heap.get? b = some o → s7.heap.get? b = some o ∧ H7 b = none := fun b hb o e => by
        have := c7.inv.pin (b, o) (List.mem_append_right _ (List.mem_append_right _ (mem_pinsAt hb e)))
        exact ⟨this.1, this.2.1⟩
      have ext : Ext mu3 H3 mu7 H7 := (e5.trans e6).trans e7
      refine wpAny_pure ⟨rfl, n, Nat.lt_succ_self n, i + 1, σ7, H7, mu7, env6, S6, acc6, vs7, its7, hlt, ⟨c7.inv.pins_of (fun p hp => c7.inv.pin p (List.mem_append_right _ (List.mem_append_left _ hp))), c7.nD, c7.pl, c7.va, c7.rs, c7.hz, c7.wr, c7.er⟩,
        T.keep _ _ _ st5 fun b hb o e => (hpin b hb o e).1, fun b hb => ?_, x3.trans ext, y3.trans ext, hl3⟩
      obtain ⟨o, e, _⟩ := T.obj _ _ st5 b hb
      exact (hpin b hb o e).2
    | none =>
      cases hl3
      refine thn (T.done Y rfl rfl rfl calm i (pins ++ pinsAt [D0] s3.heap) s3 σ3 H3 _ I3p (ok3 fr3) st3 hsrc) fun r s4 ⟨hr, I4⟩ => ?_
      subst hr
      refine wpAny_pure ?_
      have hD4 := I4.pin (D0, _) (List.mem_append_right _ (List.mem_append_right _ mD))
      refine fin mu3 σ3 H3 s4 vs3 its3 y3 ⟨I4.pins_of (fun p hp => I4.pin p (List.mem_append_right _ (List.mem_append_left _ hp))), c3.nD, ⟨nn, hD4.1⟩, c3.va, c3.rs, c3.hz, c3.wr, c3.er⟩
def ElJ (Y : Cx) (R1 : α → V → List Addr → Hp → Prop) (elt : Expr) (f : En → Sto → Option (α × Sto)) : Prop :=
  ∀ (pins : List (Addr × Obj)) (mu : List Addr) (σ : St) (H : Hp) (s : Shared) (env : En) (S : Sto) (a : α) (S' : Sto), Inv Y pins σ H s → WR Y.K mu H S → ER Y.K mu H env σ → f env S = some (a, S') →
    wpAny (model Y.prog Y.w) Y.A (eval elt Y.env) (fun y s' => ∃ yv H' mu', Inv Y pins σ H' s' ∧ RelV yv y ∧ Ext mu H mu' H' ∧ WR Y.K mu' H' S' ∧ R1 a yv mu' H') Y.xe s
theorem emit1_ok (mon : Mon R1) {elt : Expr} {f : En → Sto → Option (α × Sto)} (h : ElJ Y R1 elt f) (hxe : ∀ e s, ¬ Y.xe e s) (okD : ∀ {pp : List (Addr × Obj)} {H : Hp}, H D0 = none → (∀ p ∈ pp, p.1 ≠ D0) → FpOk Y pp H D0) {pins : List (Addr × Obj)} (pD : ∀ p ∈ pins, p.1 ≠ D0) :
    EmitJ Y R1 D0 pins (do let _ ← call (.builtin "list.append") [.ref D0, ← eval elt Y.env]) (emit1 f) := by
  intro mu σ H s env S acc vs its acc' env' S' c hf
  obtain ⟨⟨a, S1⟩, h1, hf⟩ := Option.bind_eq_some_iff.mp hf
  dsimp only at hf
  split at hf
  · rename_i hz
    cases hf
    obtain ⟨Ip, nn, mD⟩ := c.pinD okD pD
    refine wpAny_bind (wpAny_mono (h _ mu σ H s env S a S' Ip c.wr c.er h1) (fun y s8 q8 => ?_) fun _ _ z => absurd z (hxe _ _))
    obtain ⟨yv, H8, mu8, I8, ry, e8, w8, r8⟩ := q8
    have hD8 := I8.pin (D0, _) (List.mem_append_right _ (List.mem_append_right _ mD))
    have hszz : its.size ≤ sizeLine := by
      have a1 := c.va.length
      have a2 := c.rs.length
      have a3 : its.toList.length = its.size := by simp
      have a4 := line_eq
      omega
    refine wpAny_bind (wpAny_list_append_plain (hsz := hszz) ⟨nn, hD8.1⟩ fun h9 hl9 hs9 => wpAny_pure ?_)
    refine ⟨mu8, σ, H8, vs ++ [yv], its.push y, e8, ?_, hD8.2.1, hl9, ?_, (RL.mono mon e8 c.rs).snoc r8, by simp; omega, w8, c.er.mono e8⟩
    · refine inv_ch (t' := s8.toks) (ch := [D0]) (I8.pins_of (pins' := pins) (fun p hp => I8.pin p (List.mem_append_right _ (List.mem_append_left _ hp)))) (fun b hb => ?_) (fun b o hb e => hs9.extBut b o (fun z => hb (by simp [z])) e)
      have : b = D0 := by simpa using hb
      subst this
      exact okD hD8.2.1 pD
    · rw [Array.toList_push]
      exact c.va.append (.cons ry .nil)
  · cases hf
end
section
variable {X : Cx} {pins : List (Addr × Obj)} {σ : St} {H : Hp} {s : Shared} {α : Type} {R1 : α → V → List Addr → Hp → Prop}
theorem comp_gen (mon : Mon R1) {elt tgt iter : Expr} {gs : List Comprehension} {scope : Scope} {pos cpos : Pos} {N : List Str} {own : Nat} {caps : List Nat} {fI : En → Sto → Option (Sr × Sto)} {fG : D → En → Sto → Option (En × Sto)} {fE : En → Sto → List α → Option (List α × En × Sto)}
    {use : Option (Value → Sem Unit)} {RQ : Value → Shared → Prop} (calm : X.calm = true) (cn : CompN X scope N own caps) (hi : PI X tgt iter (tI X.K fI)) (hs : ∀ y, foldedSetIterable iter X.env y = pure y) {emit : Env → Addr → Sem Unit}
    (hden : ∀ (it D0 : Addr) (env : Env), compTurn (.ListComp elt (⟨tgt, iter, [], 0⟩ :: gs) scope pos) 0 (.ref it) (.ref D0) env = (do
      standAt iter.pos
      match ← pyNext (.ref it) with
      | none => pure (.done .next)
      | some v =>
        letOwnedTupleGo tgt (.ref it) v
        assign tgt env v
        emit env D0
        again (.compLoop (.ListComp elt (⟨tgt, iter, [], 0⟩ :: gs) scope pos) 0 (.ref it) (.ref D0) env)))
    (blk : ∀ (C : Addr) (s2 : Shared) (H2 : Hp) (fp : List Addr) (pins : List (Addr × Obj)), PG (blockCx X N scope C s2 H2 fp pins) tgt (tG X.K fG) ∧ ∀ (D0 : Addr), (∀ {pp : List (Addr × Obj)} {H : Hp}, H D0 = none → (∀ p ∈ pp, p.1 ≠ D0) → FpOk (blockCx X N scope C s2 H2 fp pins) pp H D0) →
      ∀ pp : List (Addr × Obj), (∀ p ∈ pp, p.1 ≠ D0) → EmitJ (blockCx X N scope C s2 H2 fp pins) R1 D0 pp (emit (blockCx X N scope C s2 H2 fp pins).env D0) fE)
    {pins : List (Addr × Obj)} {s : Shared} {σ : St} {H : Hp} (I : Inv X pins σ H s) {mu : List Addr} {env envE : En} {S S2 : Sto} {acc : List α} (he : ER X.K mu H env σ) (hw : WR X.K mu H S)
    (hf : ((fI env S).bind fun r => compG r.1 (stepG fG fE) r.1.fuel 0 (compEn own caps env) r.2 []) = some (acc, envE, S2))
    (fin : ∀ (s4 : Shared) (H3 : Hp) (D0 C : Addr) (m : Str → Option Value) (mu3 : List Addr) (accV : List V) (v : Flow), H3 D0 = none → Inv X pins σ (upd H3 D0 (.lst accV)) s4 → s4.heap.Ns C m → FpOk X pins (upd H3 D0 (.lst accV)) C → Ext mu H mu3 H3 → WR X.K mu3 H3 S2 → RL R1 mu3 H3 acc accV →
      compPost (model X.prog X.w) X.A X.xe use RQ (.ref D0) C (.ok v) s4) :
    wpAny (model X.prog X.w) X.A (comprehension (.ListComp elt (⟨tgt, iter, [], 0⟩ :: gs) scope pos) scope X.env cpos (newList []) false (eval iter X.env) use) RQ X.xe s := by
  obtain ⟨⟨ds, S1⟩, h1, h2⟩ := Option.bind_eq_some_iff.mp hf
  dsimp only at h2
  have hclos := closureFor_cl (env := X.env) (scope := scope) (fun p hp hf => I.ok.has p.1 (.inl (cn.free p hp hf).2))
  refine wpAny_comprehension_free (use := use) rfl hs hclos cn.kind cn.loc (thn (hi pins s σ H (fun J H1 => ∃ mu1, Ext mu H mu1 H1 ∧ WR X.K mu1 H1 S1 ∧ Src X.K J mu1 H1 ds) I ⟨mu, env, S, he, hw, ds, S1, h1, fun J mu1 H1 e1 w1 src => ⟨mu1, e1, w1, src⟩⟩) fun v s1 q1 => thn q1 fun itv s2 q2 => ?_)
  obtain ⟨it, fp, tn, J, H2, e, I2, T, st2, f2, mu1, e1, w1, src⟩ := q2
  subst e
  refine wpAny_newObj_type (wpAny_newFunctionEnv cn.nocell (by intro y hy; simp at hy) (fun h4 hns hsb => ?_) cn.kind)
  dsimp only at hns hsb ⊢
  generalize hP : s2.heap.push { cls := .type "list", dict := none, data := .seq ([] : List Value).toArray } = P2 at hns hsb ⊢
  have hC : P2.objs.size = s2.heap.objs.size + 1 := by rw [← hP, Heap.size_push]
  have hDC : s2.heap.objs.size ≠ P2.objs.size := by rw [hC]; exact Nat.ne_of_lt (Nat.lt_succ_self _)
  have hCle : s2.heap.objs.size ≤ P2.objs.size := by rw [hC]; exact Nat.le_succ _
  have below : ∀ b o, s2.heap.get? b = some o → b ≠ P2.objs.size ∧ b ≠ s2.heap.objs.size := fun b o e => ⟨by rw [hC]; exact Nat.ne_of_lt (Nat.lt_succ_of_lt (Heap.lt_size e)), Nat.ne_of_lt (Heap.lt_size e)⟩
  have old : ∀ b o, s2.heap.get? b = some o → h4.get? b = some o := fun b o e => hsb.extBut b o (below b o e).1 (Heap.get?_push_of_some _ (hP ▸ Heap.get?_push_of_some _ e))
  have hacc0 : h4.PlainList s2.heap.objs.size #[] := ⟨_, hsb.extBut _ _ hDC (Heap.get?_push_of_some _ (hP ▸ Heap.get?_push_size _ rfl))⟩
  generalize hD0 : s2.heap.objs.size = D0 at hC hDC hCle below hacc0 ⊢
  have fpOb : ∀ b ∈ fp, ∃ o, s2.heap.get? b = some o := fun b hb => by obtain ⟨o, ho, _⟩ := T.obj _ _ st2 b hb; exact ⟨o, ho⟩
  have fpD : ∀ b ∈ fp, b ≠ D0 := fun b hb => by obtain ⟨o, ho⟩ := fpOb b hb; exact (below b o ho).2
  have fpC : ∀ b ∈ fp, b ≠ P2.objs.size := fun b hb => by obtain ⟨o, ho⟩ := fpOb b hb; exact (below b o ho).1
  have IY : Inv (blockCx X N scope P2.objs.size s2 H2 fp pins) [] (compSt own caps σ) H2 { s2 with heap := h4, toks := s2.toks + ([] : List (Str × Value)).length } := block_inv cn I2 f2 fpOb (by rw [hD0]; exact hCle) hns old
  obtain ⟨bG, bE⟩ := blk P2.objs.size s2 H2 fp pins
  have okB : ∀ {pp : List (Addr × Obj)} {H3 : Hp} (b : Addr), b ∈ fp → H3 b = none → (∀ p ∈ pp, p.1 ≠ b) → FpOk (blockCx X N scope P2.objs.size s2 H2 fp pins) pp H3 b := fun {pp H3} b hb hn hp => by
    obtain ⟨f0, f1, f3, f4, f5, f6⟩ := f2 b hb
    refine ⟨hn, fpC b hb, fun z => ?_, .inl hb, fun x c e => f5 x c (clOf_sub (fun _ _ z => by simp at z) e), fun p hpp => ?_⟩
    · rcases List.mem_cons.mp (I2.stkSub b z) with z | z
      · exact f1 z
      · exact f3 z
    · have hpp' : p ∈ (X.pn ++ pins) ++ pp := hpp
      rcases List.mem_append.mp hpp' with z | z
      · exact f6 p z
      · exact hp p z
  have okD0 : ∀ {pp : List (Addr × Obj)} {H3 : Hp}, H3 D0 = none → (∀ p ∈ pp, p.1 ≠ D0) → FpOk (blockCx X N scope P2.objs.size s2 H2 fp pins) pp H3 D0 := fun {pp H3} hn hp => by
    refine ⟨hn, hDC, fun z => ?_, .inr (Nat.le_of_eq hD0), fun x c e => ?_, fun p hpp => ?_⟩
    · have := I2.stack.mem z
      obtain ⟨_, o, ho, _⟩ := this
      exact (below _ o ho).2 rfl
    · obtain ⟨v, o, ho, _⟩ := I2.cell x c (clOf_sub (fun _ _ z => by simp at z) e)
      exact (below _ o ho).2
    · have hpp' : p ∈ (X.pn ++ pins) ++ pp := hpp
      rcases List.mem_append.mp hpp' with z | z
      · exact (below _ _ (I2.pin p z).1).2
      · exact hp p z
  have loop : ∀ s4 : Shared, s4 = { s2 with heap := h4, toks := s2.toks + ([] : List (Str × Value)).length } →
      codeAny (model X.prog X.w) X.A (.compLoop (.ListComp elt (⟨tgt, iter, [], 0⟩ :: gs) scope pos) 0 (.ref it) (.ref D0) (compEnvC scope (clOf X.env scope.names []) P2.objs.size X.env))
        (compPost (model X.prog X.w) X.A X.xe use RQ (.ref D0) P2.objs.size) s4 := by
    rintro s4 rfl
    refine loopG (Y := blockCx X N scope P2.objs.size s2 H2 fp pins) (R1 := R1) (D0 := D0) (fG := fG) (fE := fE) (acc' := acc) (env' := envE) (S' := S2) (pins := []) (emit := emit (blockCx X N scope P2.objs.size s2 H2 fp pins).env D0) mon calm (fun _ _ z => z) T src okD0 okB (fun p hp => by simp at hp) (fun b hb p hp => by simp at hp) fpD bG (fun pp hp => bE D0 okD0 pp hp) (p0 := iter.pos) rfl rfl ?_
      (c0 := ⟨IY, I2.hok.fresh (Nat.le_of_eq hD0), hacc0, .nil, .nil, Nat.zero_le _, w1, comp_er (he.mono e1)⟩) .refl (T.keep _ _ _ st2 (fun b hb o e => old b o e)) (fun b hb => (f2 b hb).1) (by cases ds <;> first | exact Nat.zero_le _ | exact trivial) h2 ?_
    · show (compTurn (.ListComp elt (⟨tgt, iter, [], 0⟩ :: gs) scope pos) 0 (.ref it) (.ref D0) _).onRaise _ = _
      rw [hden]
    · intro mu3 σ3 H3 s4 accV its x3 c4
      have I4 := c4.inv
      obtain ⟨m4, hn4, _⟩ := I4.loc
      obtain ⟨n4, eD⟩ := c4.pl
      have nD := c4.nD
      have va3 := c4.va
      have rs3 := c4.rs
      have hz3 := c4.hz
      have ub : Un (frs X.stack) fp H2 H3 s2.heap s4.heap := I4.base
      have nC : H3 P2.objs.size = none := I4.free
      have un : Un (frs X.stack) fp H2 (upd H3 D0 (.lst accV)) s2.heap s4.heap := by
        refine ⟨ub.keep, ub.slot, fun b o q n hx => ?_, ub.there, fun b xs q => ?_, fun b o u q => ?_, fun b ps q => ?_⟩
        · rw [upd_ne (below b o q).2]; exact ub.free b o q n hx
        · have z := ub.tups b xs q
          rw [upd_ne (ne_of_none z nD)]; exact z
        · have z := ub.frzs b o u q
          rw [upd_ne (ne_of_none z nD)]; exact z
        · obtain ⟨more, z⟩ := ub.tbls b ps q
          exact ⟨more, by rw [upd_ne (ne_of_none z nD)]; exact z⟩
      have hok : HOk X.prog X.w (upd H3 D0 (.lst accV)) s4.heap := fun b u e => by
        by_cases hb : b = D0
        · subst hb
          rw [upd_same] at e
          cases e
          refine ⟨?_, its.toList, n4, va3, ?_⟩
          · have a2 := rs3.length
            have a4 := line_eq
            omega
          · rw [Array.toArray_toList]
            exact eD
        · rw [upd_ne hb] at e
          exact (I4.hok b u e).stay (fun c v hc q => q) (fun c q => by rw [upd_ne (ne_of_none q nD)]; exact q) fun c xs q => by rw [upd_ne (ne_of_none q nD)]; exact q
      have bare4 := I4.bare
      have os4 : s4.os = s2.os := I4.os
      have J9 : Inv X pins σ (upd H3 D0 (.lst accV)) s4 := by
        obtain ⟨hh, g, dd, tt, os'⟩ := s4
        obtain rfl : os' = s2.os := os4
        exact Inv.call (s := s2) (h' := hh) (g' := g) (d' := dd) (t' := tt) (ch := fp) I2 un hok bare4 (fun b hb => ⟨(f2 b hb).2.2.2.1, (f2 b hb).2.1, (f2 b hb).2.2.2.2.1, (f2 b hb).2.2.2.2.2⟩)
      refine fin s4 H3 D0 P2.objs.size m4 mu3 accV _ nD J9 hn4 ?_ (e1.trans x3) c4.wr rs3
      refine I2.fpOk (by rw [hD0]; exact hCle) ?_
      rw [upd_ne (Ne.symm hDC)]; exact nC
  exact codeAny_compStart_list (loop _ rfl) (T.self _ 0 _ _ _ (T.keep _ _ _ st2 (fun b hb o e => old b o e)) (loop _ rfl))
end
end PF
namespace PF
open PySem PySem.Spec PyProof.Rows L2
section
variable {X : Cx} {T : Tab} {W k : Nat} {nm : List (Str × NameKind)} {c : Cl} {pins : List (Addr × Obj)} {σ : St} {H : Hp} {s : Shared} {mu : List Addr} {S : Sto}
theorem DRel.val {κ : Type} [DecidableEq κ] {K : Frag} {k : κ} {d : D} {v : V} (hd : RD K mu H d v) : ∀ {kvs : List (κ × D)} {us : List (κ × V)}, DRel K mu H kvs us → RD K mu H ((valD kvs k).getD d) ((valV us k).getD v)
  | [], us, h => by rw [h.cases_nil]; exact hd
  | p :: kvs, us, h => by
    obtain ⟨q, r, rfl, e, hq, t⟩ := h.cases_cons
    have ih := DRel.val hd (k := k) t
    by_cases hk : p.1 = k
    · rw [valV_pos (e.trans hk)]
      have : valD (p :: kvs) k = some p.2 := by simp [valD, List.find?_cons, hk]
      rw [this]
      exact hq
    · rw [valV_neg (fun z => hk (e.symm.trans z))]
      have : valD (p :: kvs) k = valD kvs k := by simp [valD, List.find?_cons, hk]
      rw [this]
      exact ih
theorem s_dget (hu : X.A.units + 1 < cLine) {es : List Expr} {j : Nat} {p apos cpos : Pos} {o f : Expr} {xs : Exs} {xo xf : Ex} (ho : PE X o (tE X.K (ev c xo))) (hes : PA X es (tA X.K (evs c xs))) (hf : PE X f (tE X.K (ev c xf))) (m : M2 X o "get" apos (.Tuple es j p) f cpos) :
    PE X (.Call (.Attribute o "get" apos) [.Tuple es j p, f] [] cpos) (tE X.K (ev c (.dget xo xs xf))) := by
  intro pins s σ H Q I ⟨mu, env, S, he, hw, d, S', hg, kk⟩
  rw [ev] at hg
  obtain ⟨⟨dd, S1⟩, h1, hg⟩ := Option.bind_eq_some_iff.mp hg
  obtain ⟨kvs0, h2, hg⟩ := Option.bind_eq_some_iff.mp hg
  obtain ⟨⟨ds, S2⟩, h3, hg⟩ := Option.bind_eq_some_iff.mp hg
  dsimp only at h2 hg
  split at hg
  · rename_i hz
    obtain ⟨⟨dz, S3⟩, h4, hg⟩ := Option.bind_eq_some_iff.mp hg
    obtain ⟨kvs, h5, hg⟩ := Option.bind_eq_some_iff.mp hg
    obtain ⟨ks, h6, e⟩ := Option.map_eq_some_iff.mp hg
    cases e
    obtain ⟨n, rfl⟩ : ∃ n, dd = .ref n := by
      cases dd with
      | ref n => exact ⟨n, rfl⟩
      | _ => cases h2
    refine pe_dget2 hu ho (pe_tup hes) hf m pins s σ H Q I ⟨mu, env, S, he, hw, .ref n, S1, h1, fun x mu1 H1 e1 w1 r1 => ?_⟩
    obtain ⟨a, us0, rfl, hm0, ha0, dr0⟩ := dt_at w1 h2 r1
    refine ⟨a, rfl, .inr ⟨us0, .inl ha0⟩, ⟨mu1, env, S1, he.mono e1, w1, ds, S2, h3, fun vs mu2 H2 e2 w2 r2 => ⟨by rw [line_eq, ← r2.length]; exact hz, fun q hq => ?_⟩⟩⟩
    have ex : Ext mu2 H2 mu2 (upd H2 q (.tup vs)) := Ext.new w2 hq
    refine ⟨mu2, env, S2, he.mono ((e1.trans e2).trans ex), w2.keep hq, dz, S3, h4, fun z mu3 H3 e3 w3 r3 => ?_⟩
    have r1' := RD.mono ((e2.trans ex).trans e3) _ _ r1
    obtain ⟨a', us, ea, hm, ha, dr⟩ := dt_at w3 h5 r1'
    cases ea
    have hpt : H3 q = some (.tup vs) := (e3.keep q _ upd_same (w2.fresh hq)).1
    rw [keysT_at h6 r2] at hpt
    refine ⟨valV us ks, DGet.t ha hpt, ?_⟩
    exact kk _ mu3 H3 (((e1.trans e2).trans ex).trans e3) w3 (dr.val r3)
  · cases hg
def RP (K : Frag) (p : List Key × D) (v : V) (mu : List Addr) (H : Hp) : Prop := ∃ a b w, v = .ref a ∧ a ∉ mu ∧ H a = some (.tup [.ref b, w]) ∧ b ∉ mu ∧ H b = some (.tup (p.1.map kV)) ∧ RD K mu H p.2 w
theorem mon_rp {K : Frag} : Mon (RP K) := fun p v _ _ _ _ e ⟨a, b, w, ev, na, ha, nb, hb, r⟩ => ⟨a, b, w, ev, (e.keep a _ ha na).2, (e.keep a _ ha na).1, (e.keep b _ hb nb).2, (e.keep b _ hb nb).1, RD.mono e _ _ r⟩
theorem keys_take {K : Frag} {ds : List D} {ks : List Key} {vs : List V} {n : Nat} (h : keysT (ds.take n) = some ks) (r : RDs K mu H ds vs) : vs.take n = ks.map kV := keysT_at h (r.take n)
theorem el_pair {Y : Cx} {a v : Expr} {j0 j1 : Nat} {p1 p2 p3 p4 : Pos} {h : Int} {fa fv : En → Sto → Option (D × Sto)} (ha : PE Y a (tE Y.K fa)) (hv : PE Y v (tE Y.K fv)) (hs : notStar v = true) :
    ElJ Y (RP Y.K) (.Tuple [.Subscript a (.Slice none (some (.Constant (.int h) j0 p1)) none p2) p3, v] j1 p4) (pairT h fa fv) := by
  intro pins mu σ H s env S pr S' I w r hf
  unfold pairT at hf
  obtain ⟨⟨d, S1⟩, h1, hf⟩ := Option.bind_eq_some_iff.mp hf
  cases d with
  | tup ds =>
    dsimp only at hf
    split at hf
    · rename_i hz
      obtain ⟨ks, h2, hf⟩ := Option.bind_eq_some_iff.mp hf
      obtain ⟨⟨dv, S2⟩, h3, e⟩ := Option.map_eq_some_iff.mp hf
      cases e
      have sl : PE Y (.Subscript a (.Slice none (some (.Constant (.int h) j0 p1)) none p2) p3) (tSl (rSlT Y.K) (tE Y.K fa) tNoPart (tPart (tC (.int h)))) := pe_slice sl_tup ha po_none (po_some pe_int)
      refine wpAny_mono (pe_tup (pa_cons sl (pa_cons hv pa_nil (star_ok hs)) rfl) pins s σ H (fun yv H' => ∃ mu', Ext mu H mu' H' ∧ WR Y.K mu' H' S2 ∧ RP Y.K (ks, dv) yv mu' H') I ?_) (fun y s' ⟨yv, H', I', ry, mu', e, w', r'⟩ => ⟨yv, H', mu', I', ry, e, w', r'⟩) fun _ _ z => z
      refine ⟨mu, env, S, r, w, .tup ds, S1, h1, fun x mu1 H1 e1 w1 r1 => ?_⟩
      obtain ⟨b0, xs, rfl, hq, rs⟩ := r1.tup_at
      have hlen := rs.length
      have hsx : HT.sIx xs.length xs.length (some h) = h.toNat := by
        show (if h < 0 then (h + (xs.length : Int)).toNat else min h.toNat xs.length) = _
        rw [if_neg (by omega)]; omega
      refine ⟨h, rfl, b0, xs, rfl, hq, fun z => ?_, fun p hp => ?_⟩
      · rw [hsx] at z; omega
      have hcut : cutV xs none (some h) = ks.map kV := by
        rw [← keys_take h2 rs]
        unfold cutV
        rw [hsx]
        rfl
      rw [hcut]
      have ex : Ext mu1 H1 mu1 (upd H1 p (.tup (ks.map kV))) := Ext.new w1 hp
      refine ⟨mu1, env, S1, (r.mono e1).mono ex, w1.keep hp, dv, S2, h3, fun x2 mu3 H3 e3 w3 r3 => ⟨by rw [sizeLine_eq]; show 2 ≤ 16777216; decide, fun q hq2 => ?_⟩⟩
      have kp := e3.keep p _ upd_same (w1.fresh hp)
      have ex3 : Ext mu3 H3 mu3 (upd H3 q (.tup [.ref p, x2])) := Ext.new w3 hq2
      exact ⟨mu3, ((e1.trans ex).trans e3).trans ex3, w3.keep hq2, q, p, x2, rfl, w3.fresh hq2, upd_same, kp.2, by rw [upd_ne (ne_of_none kp.1 hq2)]; exact kp.1, RD.mono ex3 _ _ r3⟩
    · cases hf
  | _ => cases hf
theorem rps_at {K : Frag} {acc : List (List Key × D)} {vs : List V} (h : RL (RP K) mu H acc vs) : ∃ us : List (List Key × V), us.length = vs.length ∧ DRel K mu H acc us ∧ ∀ (j : Nat) (k : List Key) (v : V), us[j]? = some (k, v) → ∃ p b, vs[j]? = some (.ref p) ∧ SqT K H p [.ref b, v] ∧ H b = some (.tup (k.map kV)) := by
  induction h with
  | nil => exact ⟨[], rfl, DRel.nil, fun j k v e => by simp at e⟩
  | cons a _ ih =>
    obtain ⟨us, h1, h2, h3⟩ := ih
    obtain ⟨p, b, w, rfl, na, ha, nb, hb, r⟩ := a
    refine ⟨(_, w) :: us, by simp [h1], DRel.cons rfl r h2, fun j k v e => ?_⟩
    cases j with
    | zero =>
      simp at e
      obtain ⟨rfl, rfl⟩ := e
      exact ⟨p, b, rfl, SqT.of ha, hb⟩
    | succ j =>
      obtain ⟨p', b', e1, e2, e3⟩ := h3 j k v (by simpa using e)
      exact ⟨p', b', by simpa using e1, e2, e3⟩
theorem DRel.mergeG {K : Frag} : ∀ {more : List (List Key × D)} {ms : List (List Key × V)} {kvs : List (List Key × D)} {us : List (List Key × V)}, DRel K mu H more ms → DRel K mu H kvs us → DRel K mu H (PF.mergeG kvs more) (mergeT us ms)
  | [], ms, kvs, us, h, g => by rw [h.cases_nil]; exact g
  | p :: more, ms, kvs, us, h, g => by
    obtain ⟨q, r, rfl, e, hq, t⟩ := h.cases_cons
    have := DRel.mergeG (kvs := putD kvs p.1 p.2) (us := putK us q.1 q.2) t (by rw [e]; exact g.put hq)
    exact this
theorem s_dofT {a v tgt iter : Expr} {j0 j1 : Nat} {p p1 p2 p3 p4 pos cp : Pos} {h : Int} {scope : Scope} {N : List Str} {own : Nat} {caps : List Nat} {t : Tg} {it : Itx} {xa xv : Ex} (ok : XOk X T W k nm) (hg : X.env.scope.names.lookup ("dict" : Str) = some .globalImplicit) (cn : CompN X scope N own caps) (hi : PI X tgt iter (tI X.K (evI c it))) (hs : ∀ y, foldedSetIterable iter X.env y = pure y)
    (blk : X.env.scope.kind = .function → ∀ (C : Addr) (s2 : Shared) (H2 : Hp) (fp : List Addr) (pins : List (Addr × Obj)), PG (blockCx X N scope C s2 H2 fp pins) tgt (tG X.K (fun d e S => asg c t d e S)) ∧ PE (blockCx X N scope C s2 H2 fp pins) a (tE X.K (fun e S => ev c xa e S)) ∧ PE (blockCx X N scope C s2 H2 fp pins) v (tE X.K (fun e S => ev c xv e S))) (hsv : notStar v = true) :
    PE X (.Call (.Name "dict" p) [.ListComp (.Tuple [.Subscript a (.Slice none (some (.Constant (.int h) j0 p1)) none p2) p3, v] j1 p4) [⟨tgt, iter, [], 0⟩] scope cp] [] pos) (tE X.K (ev c (.dofT own caps t it xa h xv))) := by
  intro pins s σ H Q I ⟨mu, env, S, he, hw, d, S', hf, kk⟩
  rw [ev] at hf
  obtain ⟨⟨r, S1⟩, h1, hf⟩ := Option.bind_eq_some_iff.mp hf
  dsimp only at hf
  obtain ⟨⟨acc, envE, S2⟩, hf', e⟩ := Option.map_eq_some_iff.mp hf
  cases e
  have bk := blk I.ok.kind
  have cr : CallR X (.type "dict") (fun xs H Q => ∃ l ys us, xs = [.ref l] ∧ SqL X.K H l ys ∧ us.length = ys.length ∧ (∀ (j : Nat) (k : List Key) (v : V), us[j]? = some (k, v) → ∃ p b, ys[j]? = some (.ref p) ∧ SqT X.K H p [.ref b, v] ∧ H b = some (.tup (k.map kV))) ∧ ∀ p, H p = none → Q (.ref p) (upd H p (.dT (mergeT [] us)))) := by
    intro pins s σ H xs vs Q I r ⟨l, ys, us, ex, hq, hl, hp, q⟩
    subst ex
    obtain ⟨u, rfl, ru⟩ := vals1 r
    cases ru
    exact dict_ofT (by have := ok.room.un; omega) ok.calm I hq hl hp (fun p hp _ => q p hp)
  have pl : PE X (.ListComp (.Tuple [.Subscript a (.Slice none (some (.Constant (.int h) j0 p1)) none p2) p3, v] j1 p4) [⟨tgt, iter, [], 0⟩] scope cp) (fun σ' H' Q' => σ = σ' ∧ H = H' ∧ ∀ accV D0 mu3 H3, Ext mu H mu3 H3 → WR X.K mu3 H3 S2 → H3 D0 = none → RL (RP X.K) mu3 H3 acc accV → Q' (.ref D0) (upd H3 D0 (.lst accV))) := by
    intro pins9 s9 σ' H' Q9 I9 ⟨eσ, eH, q⟩
    subst eσ eH
    rw [eval_ListComp]
    refine comp_gen (R1 := RP X.K) (use := none) (emit := fun env D0 => (do let _ ← call (.builtin "list.append") [.ref D0, ← eval (.Tuple [.Subscript a (.Slice none (some (.Constant (.int h) j0 p1)) none p2) p3, v] j1 p4) env])) mon_rp ok.calm cn hi hs (fun _ _ _ => rfl) (fun C s2 H2 fp pins => ?_) I9 he hw (by rw [h1]; exact hf')
      fun s4 H3 D0 C m mu3 accV v nD J hn fpC e3 w3 rs => ⟨m, hn, fun h5 hs5 => ?_⟩
    · obtain ⟨b1, b2, b3⟩ := bk C s2 H2 fp pins
      exact ⟨b1, fun D0 okD pp hp => emit1_ok (Y := blockCx X N scope C s2 H2 fp pins) mon_rp (el_pair b2 b3 hsv) (fun _ _ z => z) okD hp⟩
    · refine ⟨.ref D0, _, inv_ch (t' := s4.toks) (ch := [C]) J (fun b hb => ?_) (fun b o hb e => hs5.extBut b o (fun z => hb (by simp [z])) e), rfl, q accV D0 mu3 H3 e3 w3 nD rs⟩
      have : b = C := by simpa using hb
      subst this; exact fpC
  refine pe_callTy cr hg (ok.bl _ (by decide +kernel)) boot_dict.1 (pa_cons pl pa_nil rfl) (by decide) (by decide) rfl rfl pins s σ H Q I ?_
  refine ⟨rfl, rfl, fun accV D0 mu3 H3 e3 w3 nD rs => ?_⟩
  have ex1 : Ext mu3 H3 mu3 (upd H3 D0 (.lst accV)) := Ext.new w3 nD
  have w4 := w3.keep (o := .lst accV) nD
  obtain ⟨us, u1, u2, u3⟩ := rps_at (RL.mono mon_rp ex1 rs)
  refine ⟨D0, accV, us, rfl, SqL.of upd_same, u1, u3, fun q hq => ?_⟩
  have hm := DRel.mergeG u2 (DRel.nil (K := X.K) (mu := mu3) (H := upd H3 D0 (.lst accV)))
  have ex2 : Ext mu3 (upd H3 D0 (.lst accV)) (mu3 ++ [q]) (upd (upd H3 D0 (.lst accV)) q (.dT (mergeT [] us))) := Ext.alloc w4 hq
  have hm2 := hm.mono ex2
  exact kk _ _ _ ((e3.trans ex1).trans ex2) (w4.allocO hq ⟨_, upd_same, hm2.1, hm2.2⟩) (rd_ref w4)
end
end PF
namespace PF
open PySem PySem.Spec PyProof.Rows L2
section
variable {X : Cx} {T : Tab} {W k : Nat} {nm : List (Str × NameKind)} {c : Cl}
theorem p_asg {tg e : Expr} {pos : Pos} {t : Tg} {x : Ex} (he : PE X e (tE X.K (ev c x))) (hg : PG X tg (tG X.K (asg c t))) (hc : swapsWithSole [tg] e pos.line X.env = pure false) (hw : swappedStores [tg] e X.env = pure none) (h1 : (assignEach [tg] X.env).map (·.2) = [assign tg X.env]) :
    PS X (.Assign [tg] e pos) (tSt X.K (evS c W (.asg t x))) := by
  intro pins s σ H D I ⟨mu, env, S, her, hwr, fl, hf, q⟩
  rw [evS] at hf
  obtain ⟨⟨d, S1⟩, h2, hf⟩ := Option.bind_eq_some_iff.mp hf
  obtain ⟨⟨env', S2⟩, h3, e'⟩ := Option.map_eq_some_iff.mp hf
  cases e'
  refine ps_asg he hg hc hw h1 pins s σ H D I ?_
  exact ⟨mu, env, S, her, hwr, d, S1, h2, fun v mu1 H1 e1 w1 r1 => ⟨mu1, env, S1, d, her.mono e1, w1, r1, env', S2, h3, fun σ' mu' H' e2 w2 r2 => q σ' mu' H' (e1.trans e2) w2 r2⟩⟩
theorem star0 {a : Expr} (h : notStar a = true) : (fun (e : Expr) => match e with | .Starred .. => true | _ => false) a = false := by
  cases a <;> first | rfl | (exact absurd h (show ¬ (false = true) from Bool.false_ne_true))
theorem star2 {a b : Expr} (ha : notStar a = true) (hb : notStar b = true) : ([a, b].any fun (e : Expr) => match e with | .Starred .. => true | _ => false) = false := by
  rw [List.any_cons, List.any_cons, List.any_nil]
  have h1 := star0 ha
  have h2 := star0 hb
  dsimp only at h1 h2 ⊢
  rw [h1, h2]
  rfl
theorem par_swap {x y : Str} {px py pt pt2 : Pos} {kt k2 : Nat} {a b : Expr} (ok : XOk X T W k nm) (hk : X.env.scope.kind = .function) (h : parOk nm x y px py a b = true) :
    swappedStores [.Tuple [.Name x px, .Name y py] kt pt] (.Tuple [a, b] k2 pt2) X.env = pure (some [x, y]) := by
  unfold parOk at h
  simp only [Bool.and_eq_true, decide_eq_true_eq, Bool.not_eq_true', decide_eq_false_iff_not] at h
  obtain ⟨⟨⟨⟨⟨⟨⟨hx, hy⟩, hne⟩, hl⟩, sa⟩, sb⟩, h1⟩, h2⟩ := h
  have hbk : X.env.blockKind = .function := by unfold Env.blockKind; rw [hk]; rfl
  have kx : X.env.kindOf x = some .local := ok.kl x hx
  have ky : X.env.kindOf y = some .local := ok.kl y hy
  have ed : ([x, y] : List Str).eraseDups = [x, y] := by
    have e : (y == x) = false := beq_eq_false_iff_ne.mpr (Ne.symm hne)
    simp [List.eraseDups_cons, e]
  have nn : ([Expr.Name x px, Expr.Name y py].filterMap fun
    | .Name id pos => if X.env.kindOf id == some .local && pos.line == px.line then some id else none
    | _ => none) = [x, y] := by
    simp [kx, ky, hl]
  unfold swappedStores
  show (if (!((2 : Nat) == 2 || (2 : Nat) == 3) || (2 : Nat) != 2 || X.env.blockKind != .function) = true then pure none else _) = _
  rw [hbk]
  rw [if_neg (by decide)]
  show (if ([a, b].any fun | .Starred .. => true | _ => false) = true then pure none else _) = _
  rw [star2 sa sb]
  rw [if_neg Bool.false_ne_true]
  show (if ((([Expr.Name x px, Expr.Name y py].filterMap fun
    | .Name id pos => if X.env.kindOf id == some .local && pos.line == px.line then some id else none
    | _ => none).length != 2) || (([Expr.Name x px, Expr.Name y py].filterMap fun
    | .Name id pos => if X.env.kindOf id == some .local && pos.line == px.line then some id else none
    | _ => none).eraseDups.length != ([Expr.Name x px, Expr.Name y py].filterMap fun
    | .Name id pos => if X.env.kindOf id == some .local && pos.line == px.line then some id else none
    | _ => none).length)) = true then pure none else _) = _
  rw [nn, ed]
  rw [if_neg (by simp)]
  show (if ([a, b].all (foldedForSure 8)) = true then pure none else _) = _
  rw [h1, if_neg Bool.false_ne_true]
  show (if ([a, b].all (constantsAlone 8)) = true then _ else _) = _
  rw [h2, if_neg Bool.false_ne_true]
  show (pure (some ([Expr.Name x px, Expr.Name y py].filterMap fun
    | .Name id pos => if X.env.kindOf id == some .local && pos.line == px.line then some id else none
    | _ => none)) : Sem (Option (List Str))) = _
  rw [nn]
theorem p_par {x y : Str} {px py pt pt2 pos : Pos} {kt k2 i j : Nat} {a b : Expr} {xa xb : Ex} (ok : XOk X T W k nm) (h : parOk nm x y px py a b = true) (hi : slot x X.N = some i) (hj : slot y X.N = some j)
    (ha : PE X a (tE X.K (ev c xa))) (hb : PE X b (tE X.K (ev c xb))) : PS X (.Assign [.Tuple [.Name x px, .Name y py] kt pt] (.Tuple [a, b] k2 pt2) pos) (tSt X.K (evS c W (.par i j xa xb))) := by
  intro pins s σ H D I ⟨mu, env, S, her, hwr, fl, hf, q⟩
  rw [evS] at hf
  obtain ⟨⟨d, S1⟩, h2, hf⟩ := Option.bind_eq_some_iff.mp hf
  obtain ⟨⟨d2, S2⟩, h3, e'⟩ := Option.map_eq_some_iff.mp hf
  cases e'
  have hsw := par_swap (X := X) (pt := pt) (pt2 := pt2) (kt := kt) (k2 := k2) ok I.ok.kind h
  unfold parOk at h
  simp only [Bool.and_eq_true, decide_eq_true_eq, Bool.not_eq_true', decide_eq_false_iff_not] at h
  obtain ⟨⟨⟨⟨⟨⟨⟨hx, hy⟩, hne⟩, hl⟩, sa⟩, sb⟩, h5⟩, h6⟩ := h
  have hij : i ≠ j := fun e => by
    subst e
    have := (slot_get hi).symm.trans (slot_get hj)
    exact hne (Option.some.inj this)
  refine ps_par ok.calm ok.nd (slot_get hi) (slot_get hj) hij (ok.kl x hx) (ok.kl y hy) (pa_cons ha (pa_cons hb pa_nil (star_ok sb)) (star_ok sa)) hsw rfl pins s σ H D I ?_
  exact ⟨mu, env, S, her, hwr, d, S1, h2, fun v mu1 H1 e1 w1 r1 => ⟨mu1, env, S1, her.mono e1, w1, d2, S2, h3, fun v2 mu2 H2 e2 w2 r2 => ⟨v, v2, rfl,
    q _ mu2 H2 (e1.trans e2) w2 (((her.mono (e1.trans e2)).set i (RD.mono e2 _ _ r1)).set j r2)⟩⟩⟩
theorem ps_par3 {i j l : Nat} {x y z : Str} {a b d : Expr} {ta : TA} {px py pz pt pos : Pos} {kt k2 : Nat} {pt2 : Pos} (hc : X.calm = true) (hN : X.N.Nodup) (hi : X.N[i]? = some x) (hj : X.N[j]? = some y) (hl : X.N[l]? = some z) (hij : i ≠ j) (hil : i ≠ l) (hjl : j ≠ l)
    (hx : X.env.scope.names.lookup x = some .local) (hy : X.env.scope.names.lookup y = some .local) (hz : X.env.scope.names.lookup z = some .local) (ha : PA X [a, b, d] ta)
    (hw : swappedStores [.Tuple [.Name x px, .Name y py, .Name z pz] kt pt] (.Tuple [a, b, d] k2 pt2) X.env = pure (some [x, y, z])) :
    PS X (.Assign [.Tuple [.Name x px, .Name y py, .Name z pz] kt pt] (.Tuple [a, b, d] k2 pt2) pos) (fun D σ H => ta σ H fun vs H1 => ∃ v w u, vs = [v, w, u] ∧ D.nx (((σ.set i (some v)).set j (some w)).set l (some u)) H1) := by
  intro pins s σ H D I h
  rw [exec_Assign_arm]
  refine wpAny_bind (wpAny_standAt ?_)
  rw [show swapsWithSole [.Tuple [.Name x px, .Name y py, .Name z pz] kt pt] (.Tuple [a, b, d] k2 pt2) pos.line X.env = pure false from rfl]
  refine wpAny_bind (wpAny_pure ?_)
  rw [if_neg (by decide)]
  refine wpAny_bind (Tuple_ (thn (ha _ pins s σ H _ I h) fun us s1 ⟨vs, H1, I1, r1, q1⟩ => ?_))
  obtain ⟨v, w, u, e1, q1⟩ := q1
  subst e1
  obtain ⟨u1, u2, u3, rfl, rv, rw', ru⟩ : ∃ u1 u2 u3, us = [u1, u2, u3] ∧ RelV v u1 ∧ RelV w u2 ∧ RelV u u3 := by
    cases r1 with
    | cons p q =>
      cases q with
      | cons p' q' =>
        cases q' with
        | cons p2 q2 =>
          cases q2
          exact ⟨_, _, _, rfl, p, p', p2⟩
  refine wpAny_newObj_type ?_ (by show 3 ≤ sizeLine; decide)
  have I2 : Inv X pins σ H1 { s1 with heap := s1.heap.push { cls := .type "tuple", data := .seq [u1, u2, u3].toArray } } := I1.kept (t' := s1.toks) fun b o e => Heap.get?_push_of_some _ e
  rw [hw]
  refine wpAny_bind (wpAny_pure ?_)
  show wpAny (model X.prog X.w) X.A (do rule "assign.swapped-stores"; let items ← unpackItems (.ref s1.heap.objs.size) 3 none; assignInOrder [fun v => bindName X.env z v, fun v => bindName X.env y v, fun v => bindName X.env x v] items.reverse; pure Flow.next) _ _ _
  refine wpAny_bind (wpAny_rule (wpAny_bind (unpackItems_tuple (items := #[u1, u2, u3]) (I.ok.hd hc) (IsTup.new s1.heap _) fun h' hx' => ?_)))
  have I3 := I2.kept (h' := h') (t' := s1.toks) fun b o e => hx' b o (Nat.ne_of_lt (Heap.lt_size e)) e
  show wpAny _ _ (assignInOrder [fun v => bindName X.env z v, fun v => bindName X.env y v, fun v => bindName X.env x v] [u3, u2, u1] >>= fun _ => pure Flow.next) _ _ _
  refine wpAny_bind (assignInOrder_cons (wpAny_bindName (store_ok I3 hN hl (.inl hz) ru (fun s2 I4 => ?_) (.inr hz))))
  refine assignInOrder_cons (wpAny_bindName (store_ok I4 hN hj (.inl hy) rw' (fun s3 I5 => ?_) (.inr hy)))
  refine assignInOrder_cons (wpAny_bindName (store_ok I5 hN hi (.inl hx) rv (fun s4 I6 => assignInOrder_nil (wpAny_pure ?_)) (.inr hx)))
  have e : (((σ.set l (some u)).set j (some w)).set i (some v)) = (((σ.set i (some v)).set j (some w)).set l (some u)) := by
    rw [List.set_comm _ _ (Ne.symm hjl), List.set_comm _ _ (Ne.symm hil), List.set_comm _ _ (Ne.symm hij)]
  rw [e] at I6
  exact ⟨_, H1, I6, q1⟩
theorem star3 {a b d : Expr} (ha : notStar a = true) (hb : notStar b = true) (hd : notStar d = true) : ([a, b, d].any fun (e : Expr) => match e with | .Starred .. => true | _ => false) = false := by
  rw [List.any_cons]
  have h1 := star0 ha
  have h2 := star2 hb hd
  dsimp only at h1 h2 ⊢
  rw [h1, h2]
  rfl
theorem par_swap3 {x y z : Str} {px py pz pt pt2 : Pos} {kt k2 : Nat} {a b d : Expr} (ok : XOk X T W k nm) (hk : X.env.scope.kind = .function) (h : parOk3 nm x y z px py pz a b d = true) :
    swappedStores [.Tuple [.Name x px, .Name y py, .Name z pz] kt pt] (.Tuple [a, b, d] k2 pt2) X.env = pure (some [x, y, z]) := by
  unfold parOk3 at h
  simp only [Bool.and_eq_true, decide_eq_true_eq, Bool.not_eq_true', decide_eq_false_iff_not] at h
  obtain ⟨⟨⟨⟨⟨⟨⟨⟨⟨⟨⟨⟨hx, hy⟩, hz⟩, n1⟩, n2⟩, n3⟩, l1⟩, l2⟩, sa⟩, sb⟩, sd⟩, h1⟩, h2⟩ := h
  have hbk : X.env.blockKind = .function := by unfold Env.blockKind; rw [hk]; rfl
  have kx : X.env.kindOf x = some .local := ok.kl x hx
  have ky : X.env.kindOf y = some .local := ok.kl y hy
  have kz : X.env.kindOf z = some .local := ok.kl z hz
  have ed : ([x, y, z] : List Str).eraseDups = [x, y, z] := by
    have e1 : (y == x) = false := beq_eq_false_iff_ne.mpr (Ne.symm n1)
    have e2 : (z == x) = false := beq_eq_false_iff_ne.mpr (Ne.symm n2)
    have e3 : (z == y) = false := beq_eq_false_iff_ne.mpr (Ne.symm n3)
    simp [List.eraseDups_cons, e1, e2, e3]
  have nn : ([Expr.Name x px, Expr.Name y py, Expr.Name z pz].filterMap fun
    | .Name id pos => if X.env.kindOf id == some .local && pos.line == px.line then some id else none
    | _ => none) = [x, y, z] := by
    simp [kx, ky, kz, l1, ← l2]
  unfold swappedStores
  show (if (!((3 : Nat) == 2 || (3 : Nat) == 3) || (3 : Nat) != 3 || X.env.blockKind != .function) = true then pure none else _) = _
  rw [hbk]
  rw [if_neg (by decide)]
  show (if ([a, b, d].any fun | .Starred .. => true | _ => false) = true then pure none else _) = _
  rw [star3 sa sb sd]
  rw [if_neg Bool.false_ne_true]
  show (if ((([Expr.Name x px, Expr.Name y py, Expr.Name z pz].filterMap fun
    | .Name id pos => if X.env.kindOf id == some .local && pos.line == px.line then some id else none
    | _ => none).length != 3) || (([Expr.Name x px, Expr.Name y py, Expr.Name z pz].filterMap fun
    | .Name id pos => if X.env.kindOf id == some .local && pos.line == px.line then some id else none
    | _ => none).eraseDups.length != ([Expr.Name x px, Expr.Name y py, Expr.Name z pz].filterMap fun
    | .Name id pos => if X.env.kindOf id == some .local && pos.line == px.line then some id else none
    | _ => none).length)) = true then pure none else _) = _
  rw [nn, ed]
  rw [if_neg (by simp)]
  show (if ([a, b, d].all (foldedForSure 8)) = true then pure none else _) = _
  rw [h1, if_neg Bool.false_ne_true]
  show (if ([a, b, d].all (constantsAlone 8)) = true then _ else _) = _
  rw [h2, if_neg Bool.false_ne_true]
  show (pure (some ([Expr.Name x px, Expr.Name y py, Expr.Name z pz].filterMap fun
    | .Name id pos => if X.env.kindOf id == some .local && pos.line == px.line then some id else none
    | _ => none)) : Sem (Option (List Str))) = _
  rw [nn]
theorem p_par3 {x y z : Str} {px py pz pt pt2 pos : Pos} {kt k2 i j l : Nat} {a b d : Expr} {xa xb xd : Ex} (ok : XOk X T W k nm) (h : parOk3 nm x y z px py pz a b d = true) (hi : slot x X.N = some i) (hj : slot y X.N = some j) (hl : slot z X.N = some l)
    (ha : PE X a (tE X.K (ev c xa))) (hb : PE X b (tE X.K (ev c xb))) (hd : PE X d (tE X.K (ev c xd))) : PS X (.Assign [.Tuple [.Name x px, .Name y py, .Name z pz] kt pt] (.Tuple [a, b, d] k2 pt2) pos) (tSt X.K (evS c W (.par3 i j l xa xb xd))) := by
  intro pins s σ H D I ⟨mu, env, S, her, hwr, fl, hf, q⟩
  rw [evS] at hf
  obtain ⟨⟨d1, S1⟩, h2, hf⟩ := Option.bind_eq_some_iff.mp hf
  obtain ⟨⟨d2, S2⟩, h3, hf⟩ := Option.bind_eq_some_iff.mp hf
  obtain ⟨⟨d3, S3⟩, h4, e'⟩ := Option.map_eq_some_iff.mp hf
  cases e'
  have hsw := par_swap3 (X := X) (pt := pt) (pt2 := pt2) (kt := kt) (k2 := k2) ok I.ok.kind h
  unfold parOk3 at h
  simp only [Bool.and_eq_true, decide_eq_true_eq, Bool.not_eq_true', decide_eq_false_iff_not] at h
  obtain ⟨⟨⟨⟨⟨⟨⟨⟨⟨⟨⟨⟨hx, hy⟩, hz⟩, n1⟩, n2⟩, n3⟩, l1⟩, l2⟩, sa⟩, sb⟩, sd⟩, g1⟩, g2⟩ := h
  have ne : ∀ {p q : Str} {m n : Nat}, slot p X.N = some m → slot q X.N = some n → p ≠ q → m ≠ n := fun {p q m n} e1 e2 hpq e => by
    subst e
    exact hpq (Option.some.inj ((slot_get e1).symm.trans (slot_get e2)))
  refine ps_par3 ok.calm ok.nd (slot_get hi) (slot_get hj) (slot_get hl) (ne hi hj n1) (ne hi hl n2) (ne hj hl n3) (ok.kl x hx) (ok.kl y hy) (ok.kl z hz) (pa_cons ha (pa_cons hb (pa_cons hd pa_nil (star_ok sd)) (star_ok sb)) (star_ok sa)) hsw pins s σ H D I ?_
  exact ⟨mu, env, S, her, hwr, d1, S1, h2, fun v mu1 H1 e1 w1 r1 => ⟨mu1, env, S1, her.mono e1, w1, d2, S2, h3, fun v2 mu2 H2 e2 w2 r2 => ⟨mu2, env, S2, her.mono (e1.trans e2), w2, d3, S3, h4, fun v3 mu3 H3 e3 w3 r3 => ⟨v, v2, v3, rfl,
    q _ mu3 H3 ((e1.trans e2).trans e3) w3 ((((her.mono ((e1.trans e2).trans e3)).set i (RD.mono (e2.trans e3) _ _ r1)).set j (RD.mono e3 _ _ r2)).set l r3)⟩⟩⟩⟩
theorem p_ex {e : Expr} {pos : Pos} {x : Ex} (he : PE X e (tE X.K (ev c x))) (hc : notComp e = true) : PS X (.Expr e pos) (tSt X.K (evS c W (.ex x))) := by
  intro pins s σ H D I ⟨mu, env, S, her, hwr, fl, hf, q⟩
  rw [evS] at hf
  obtain ⟨⟨d, S1⟩, h2, e'⟩ := Option.map_eq_some_iff.mp hf
  cases e'
  refine ps_expr he (by cases e <;> first | rfl | (exact absurd hc (show ¬ (false = true) from Bool.false_ne_true))) pins s σ H D I ?_
  exact ⟨mu, env, S, her, hwr, d, S1, h2, fun v mu1 H1 e1 w1 r1 => q σ mu1 H1 e1 w1 (her.mono e1)⟩
theorem p_ret {e : Expr} {pos : Pos} {x : Ex} (he : PE X e (tE X.K (ev c x))) : PS X (.Return (some e) pos) (tSt X.K (evS c W (.ret x))) := by
  intro pins s σ H D I ⟨mu, env, S, her, hwr, fl, hf, q⟩
  rw [evS] at hf
  obtain ⟨⟨d, S1⟩, h2, e'⟩ := Option.map_eq_some_iff.mp hf
  cases e'
  exact ps_ret he pins s σ H D I ⟨mu, env, S, her, hwr, d, S1, h2, fun v mu1 H1 e1 w1 r1 => q v mu1 H1 e1 w1 r1⟩
theorem p_if {t : Expr} {a b : List Stmt} {pos : Pos} {x : Ex} {xa xb : Sms} (ht : PT X t (tT X.K (evT c x))) (ha : PSs X a (tSt X.K (evSs c W xa))) (hb : PSs X b (tSt X.K (evSs c W xb))) : PS X (.If t a b pos) (tSt X.K (evS c W (.ifs x xa xb))) := by
  intro pins s σ H D I ⟨mu, env, S, her, hwr, fl, hf, q⟩
  rw [evS] at hf
  obtain ⟨⟨b', S1⟩, h2, hf⟩ := Option.bind_eq_some_iff.mp hf
  refine ps_if ht ha hb pins s σ H D I ⟨mu, env, S, her, hwr, b', S1, h2, fun mu1 H1 e1 w1 => ?_⟩
  cases b' with
  | true => exact ⟨mu1, env, S1, her.mono e1, w1, fl, hf, q.ext e1⟩
  | false => exact ⟨mu1, env, S1, her.mono e1, w1, fl, hf, q.ext e1⟩
theorem p_nil : PSs X [] (tSt X.K (evSs c W .nil)) := by
  intro pins s σ H D I ⟨mu, env, S, her, hwr, fl, hf, q⟩
  rw [evSs] at hf
  cases hf
  exact pss_nil pins s σ H D I (q σ mu H .refl hwr her)
theorem p_cons {st : Stmt} {sts : List Stmt} {x : Sm} {xs : Sms} (h1 : PS X st (tSt X.K (evS c W x))) (h2 : PSs X sts (tSt X.K (evSs c W xs))) : PSs X (st :: sts) (tSt X.K (evSs c W (.cons x xs))) := by
  intro pins s σ H D I ⟨mu, env, S, her, hwr, fl, hf, q⟩
  rw [evSs] at hf
  obtain ⟨fl1, h3, hf⟩ := Option.bind_eq_some_iff.mp hf
  refine pss_cons h1 h2 pins s σ H D I ⟨mu, env, S, her, hwr, fl1, h3, ?_⟩
  cases fl1 with
  | nx env1 S1 => exact fun σ' mu' H' e1 w1 r1 => ⟨mu', env1, S1, r1, w1, fl, hf, q.ext e1⟩
  | rt d S1 => cases hf; exact q
  | bk d S1 => cases hf; exact q
  | ct d S1 => cases hf; exact q
theorem p_for {tg it : Expr} {b : List Stmt} {pos : Pos} {t : Tg} {x : Itx} {xb : Sms} (ok : XOk X T W k nm) (hi : PI X tg it (tI X.K (evI c x))) (hs : ∀ y, foldedSetIterable it X.env y = pure y) (hg : PG X tg (tG X.K (asg c t))) (hb : PSs X b (tSt X.K (evSs c W xb))) :
    PS X (.For tg it b [] pos) (tSt X.K (evS c W (.fr t x xb))) := by
  intro pins s σ H D I ⟨mu, env, S, her, hwr, fl, hf, q⟩
  rw [evS] at hf
  obtain ⟨⟨r, S1⟩, h2, hf⟩ := Option.bind_eq_some_iff.mp hf
  dsimp only at hf
  generalize hstep : (fun d e1 S1 => (asg c t d e1 S1).bind fun q => evSs c W xb q.1 q.2) = step at hf
  refine ps_for ok.po ok.calm hi hg hb hs pins s σ H D I ?_
  refine ⟨mu, env, S, her, hwr, r, S1, h2, fun J mu1 H1 e1 w1 src => ?_⟩
  refine ⟨fun i m σ2 H2 => ∃ mu2 env2 S2, Ext mu1 H1 mu2 H2 ∧ WR X.K mu2 H2 S2 ∧ ER X.K mu2 H2 env2 σ2 ∧ Sr.le r i ∧ forL r step m i env2 S2 = some fl,
    ⟨r.fuel, mu1, env, S1, .refl, w1, her.mono e1, by cases r <;> first | exact Nat.zero_le _ | exact trivial, hf⟩, ?_⟩
  rintro i m σ2 H2 ⟨mu2, env2, S2, e2, w2, r2, hi2, hl⟩
  cases m with
  | zero => rw [forL] at hl; cases hl
  | succ m =>
    rw [forL] at hl
    obtain ⟨od, hod, hl⟩ := Option.bind_eq_some_iff.mp hl
    have hsrc := src mu2 H2 S2 e2 w2 i hi2 od hod
    cases od with
    | some dd =>
      right
      obtain ⟨hlt, go, yl⟩ := hsrc
      refine ⟨go, fun σ' H' => ∃ mu3 env3 S3, Ext mu1 H1 mu3 H' ∧ WR X.K mu3 H' S3 ∧ ER X.K mu3 H' env3 σ' ∧ forL r step m (i + 1) env3 S3 = some fl, ?_, fun v H3 hy => ?_⟩
      · rintro σ' H' ⟨mu3, env3, S3, e3, w3, r3, hl3⟩
        exact ⟨m, Nat.lt_succ_self m, mu3, env3, S3, e3, w3, r3, hlt, hl3⟩
      · obtain ⟨e3, w3, rd⟩ := yl v H3 hy
        dsimp only at hl
        cases hst : step dd env2 S2 with
        | none => rw [hst] at hl; cases hl
        | some fl1 =>
          rw [hst] at hl
          rw [← hstep] at hst
          obtain ⟨⟨env4, S4⟩, h5, h6⟩ := Option.bind_eq_some_iff.mp hst
          refine ⟨mu2, env2, S2, dd, r2.mono e3, w3, rd, env4, S4, h5, fun σ5 mu5 H5 e5 w5 r5 => ⟨mu5, env4, S4, r5, w5, fl1, h6, ?_⟩⟩
          have e15 : Ext mu1 H1 mu5 H5 := (e2.trans e3).trans e5
          cases fl1 with
          | nx env6 S6 => exact fun σ6 mu6 H6 e6 w6 r6 => ⟨mu6, env6, S6, e15.trans e6, w6, r6, hl⟩
          | ct env6 S6 => exact fun σ6 mu6 H6 e6 w6 r6 => ⟨mu6, env6, S6, e15.trans e6, w6, r6, hl⟩
          | bk env6 S6 =>
            cases hl
            exact fun σ6 mu6 H6 e6 w6 r6 => q σ6 mu6 H6 (e1.trans (e15.trans e6)) w6 r6
          | rt d6 S6 =>
            cases hl
            exact fun v6 mu6 H6 e6 w6 r6 => q v6 mu6 H6 (e1.trans (e15.trans e6)) w6 r6
    | none =>
      left
      cases hl
      exact ⟨hsrc, q σ2 mu2 H2 (e1.trans e2) w2 r2⟩
theorem p_while {t : Expr} {b : List Stmt} {pos : Pos} {x : Ex} {xb : Sms} (ok : XOk X T W k nm) (ht : PT X t (tT X.K (evT c x))) (hb : PSs X b (tSt X.K (evSs c W xb))) : PS X (.While t b [] pos) (tSt X.K (evS c W (.whl x xb))) := by
  intro pins s σ H D I ⟨mu, env, S, her, hwr, fl, hf, q⟩
  rw [evS] at hf
  refine ps_while ok.po ht hb pins s σ H D I ?_
  refine ⟨fun m σ2 H2 => ∃ mu2 env2 S2, Ext mu H mu2 H2 ∧ WR X.K mu2 H2 S2 ∧ ER X.K mu2 H2 env2 σ2 ∧ whileL (evT c x) (evSs c W xb) m env2 S2 = some fl, ⟨W, mu, env, S, .refl, hwr, her, hf⟩, ?_⟩
  rintro m σ2 H2 ⟨mu2, env2, S2, e2, w2, r2, hl⟩
  cases m with
  | zero => rw [whileL] at hl; cases hl
  | succ m =>
    rw [whileL] at hl
    obtain ⟨⟨b', S3⟩, h3, hl⟩ := Option.bind_eq_some_iff.mp hl
    refine ⟨mu2, env2, S2, r2, w2, b', S3, h3, fun mu3 H3 e3 w3 => ?_⟩
    cases b' with
    | false =>
      cases hl
      exact q σ2 mu3 H3 (e2.trans e3) w3 (r2.mono e3)
    | true =>
      rw [if_pos rfl] at hl ⊢
      refine ⟨fun σ' H' => ∃ mu4 env4 S4, Ext mu H mu4 H' ∧ WR X.K mu4 H' S4 ∧ ER X.K mu4 H' env4 σ' ∧ whileL (evT c x) (evSs c W xb) m env4 S4 = some fl, ?_, ?_⟩
      · rintro σ' H' h4
        exact ⟨m, Nat.lt_succ_self m, h4⟩
      · cases hst : evSs c W xb env2 S3 with
        | none => simp only [hst] at hl; cases hl
        | some fl1 =>
          simp only [hst] at hl
          refine ⟨mu3, env2, S3, r2.mono e3, w3, fl1, hst, ?_⟩
          have e13 := e2.trans e3
          cases fl1 with
          | nx env6 S6 => exact fun σ6 mu6 H6 e6 w6 r6 => ⟨mu6, env6, S6, e13.trans e6, w6, r6, hl⟩
          | ct env6 S6 => exact fun σ6 mu6 H6 e6 w6 r6 => ⟨mu6, env6, S6, e13.trans e6, w6, r6, hl⟩
          | bk env6 S6 =>
            cases hl
            exact fun σ6 mu6 H6 e6 w6 r6 => q σ6 mu6 H6 (e13.trans e6) w6 r6
          | rt d6 S6 =>
            cases hl
            exact fun v6 mu6 H6 e6 w6 r6 => q v6 mu6 H6 (e13.trans e6) w6 r6
end
end PF
namespace PF
open PySem PySem.Spec PyProof.Rows L2
section
variable {X : Cx} {T : Tab} {W k : Nat} {nm : List (Str × NameKind)} {N : List Str}
theorem plainT {e : Expr} {x : Ex} {c : Cl} (h : PE X e (tE X.K (ev c x))) (hp : ∀ whole, isTrue e X.env whole = (do let v ← whole; standAt e.pos; holding [v] (truthy v))) : PE X e (tE X.K (ev c x)) ∧ PT X e (tT X.K (evT c x)) := ⟨h, s_truth h hp⟩
theorem oneT {a : Expr} {op : BoolOp} {pos : Pos} {t : TT} (h : PT X a t) : PW X (.BoolOp op [a] pos) t := by
  cases op with
  | And => exact pw_and1 h
  | Or => exact pw_or1 h
theorem relabel_keep {env : Env} : ∀ {names : List (Str × NameKind)} {x : Str} {k' : NameKind}, k' ≠ .free → names.lookup x = some k' →
    (names.map fun (n, k) => if (k == NameKind.free && env.scope.kind == .function && env.kindOf n == some .cell) then (n, NameKind.cell) else (n, k)).lookup x = some k'
  | [], x, k', _, h => by simp at h
  | (n, k) :: r, x, k', hk, h => by
    have ih := @relabel_keep env r x k' hk
    show List.lookup x ((if (k == NameKind.free && env.scope.kind == .function && env.kindOf n == some .cell) = true then (n, NameKind.cell) else (n, k)) :: _) = _
    cases q : x == n with
    | true =>
      simp only [List.lookup_cons, q] at h
      cases h
      have z : (k == NameKind.free) = false := by simpa using hk
      rw [if_neg (by rw [z, Bool.false_and, Bool.false_and]; exact Bool.false_ne_true)]
      simp only [List.lookup_cons, q]
    | false =>
      simp only [List.lookup_cons, q] at h
      by_cases z : (k == NameKind.free && env.scope.kind == .function && env.kindOf n == some .cell) = true
      · rw [if_pos z]; simp only [List.lookup_cons, q]; exact ih h
      · rw [if_neg z]; simp only [List.lookup_cons, q]; exact ih h
theorem compOk_at {N : List Str} {scope : Scope} (h : compOk N nm scope = true) : scope.kind = .function ∧ (∀ p ∈ scope.names, p.2 ≠ .cell ∧ scope.names.lookup p.1 = some p.2) ∧ (compN scope).Nodup ∧
    ∀ y ∈ freeN scope, (nm.lookup y = some .cell ∨ nm.lookup y = some .free) ∧ ∃ i, slot y N = some i := by
  unfold compOk at h
  simp only [Bool.and_eq_true, decide_eq_true_eq, List.all_eq_true, Bool.or_eq_true] at h
  obtain ⟨⟨⟨h1, h2⟩, h3⟩, h4⟩ := h
  exact ⟨h1, h2, h3, fun y hy => ⟨(h4 y hy).1, Option.isSome_iff_exists.mp (h4 y hy).2⟩⟩
theorem free_mem {scope : Scope} {y : Str} : (y, NameKind.free) ∈ scope.names ↔ y ∈ freeN scope := by
  unfold freeN
  constructor
  · intro h
    exact List.mem_map.mpr ⟨(y, .free), List.mem_filter.mpr ⟨h, by simp⟩, rfl⟩
  · intro h
    obtain ⟨⟨a, b⟩, h1, h2⟩ := List.mem_map.mp h
    obtain ⟨h3, h4⟩ := List.mem_filter.mp h1
    have e : b = .free := by simpa using h4
    subst e
    cases h2
    exact h3
theorem comp_n (ok : XOk X T W k nm) {scope : Scope} (h : compOk X.N nm scope = true) : CompN X scope (compN scope) (ownN scope).length ((freeN scope).map fun y => (slot y X.N).getD 0) := by
  obtain ⟨h1, h2, h3, h4⟩ := compOk_at h
  refine ⟨h1, fun p hp => (h2 p hp).1, fun p hp hl => by rw [(h2 p hp).2, hl], fun p hp hf => ⟨by rw [(h2 p hp).2, hf], ok.kc _ (h4 p.1 (free_mem.mp (by obtain ⟨a, b⟩ := p; cases hf; exact hp))).1⟩, h3, by simp [compN], fun j i hj => ?_⟩
  rw [List.getElem?_map] at hj
  obtain ⟨y, hy, e⟩ := Option.map_eq_some_iff.mp hj
  obtain ⟨i', hi'⟩ := (h4 y (List.mem_of_getElem? hy)).2
  rw [hi'] at e
  cases e
  refine ⟨y, ?_, slot_get hi', free_mem.mpr (List.mem_of_getElem? hy)⟩
  unfold compN
  rw [List.getElem?_append_right (by omega)]
  simpa using hy
theorem comp_ok (ok : XOk X T W k nm) {scope : Scope} (h : compOk X.N nm scope = true) (hkind : X.env.scope.kind = .function) (C : Addr) (s2 : Shared) (H2 : Hp) (fp : List Addr) (pins : List (Addr × Obj)) : XOk (blockCx X (compN scope) scope C s2 H2 fp pins) T W k scope.names := by
  obtain ⟨h1, h2, h3, h4⟩ := compOk_at h
  have fr : ∀ x, scope.names.lookup x = some .free → (relabel scope X.env).names.lookup x = some .cell := fun x hx => relabel_free hkind hx (ok.kc x (h4 x (free_mem.mp (mem_look hx))).1)
  have nc : ∀ x, scope.names.lookup x ≠ some .cell := fun x hx => (h2 _ (mem_look hx)).1 rfl
  have lo : ∀ x, scope.names.lookup x = some .local → (relabel scope X.env).names.lookup x = some .local := fun x hx => lookup_relabel_local hx
  refine ⟨ok.calm, ok.room, h3, PassesOwn.never, fun x hx => ?_, fun x hx => ?_, fun x hx => ?_, lo, fun x hx => ?_, ok.bl, ok.fs, ok.gs⟩
  · rcases hx with hx | hx | hx
    · exact .inl (lo x hx)
    · exact absurd hx (nc x)
    · exact .inr (.inl (fr x hx))
  · unfold locOk at hx
    rw [Bool.or_eq_true] at hx
    rcases hx with hx | hx
    · exact ⟨.inl (lo x (of_decide_eq_true hx)), .inr (lo x (of_decide_eq_true hx))⟩
    · exact absurd (of_decide_eq_true hx) (nc x)
  · exact relabel_keep (by decide) hx
  · rcases hx with hx | hx
    · exact absurd hx (nc x)
    · exact fr x hx
theorem m2_of {o f : Expr} {ks : List Expr} {jj : Nat} {pp ap pos : Pos} (hs : notStar f = true) (hl : lineOk ap pos = true) (hb : baseOk o = true) : M2 X o "get" ap (.Tuple ks jj pp) f pos := by
  have e : starEach [.Tuple ks jj pp, f] X.env = [(false, eval (.Tuple ks jj pp) X.env), (false, eval f X.env)] := by
    show (false, eval (.Tuple ks jj pp) X.env) :: starEach [f] X.env = _
    rw [star_ok hs]; rfl
  refine ⟨base_list hb, ?_, hl, ?_⟩
  · rw [e]; rfl
  · rw [e]; rfl
structure RX (X : Cx) (T : Tab) (W k : Nat) (nm : List (Str × NameKind)) (N : List Str) : Prop where
  ok : XOk X T W k nm
  n : X.N = N
abbrev PP (X : Cx) (c : Cl) (e : Expr) (x : Ex) : Prop := PE X e (tE X.K (ev c x)) ∧ PT X e (tT X.K (evT c x))
abbrev PB (X : Cx) (c : Cl) (e : Expr) (x : Ex) : Prop := PE X e (tE X.K (ev c x)) ∧ PW X e (tT X.K (evT c x))
abbrev AA (X : Cx) (c : Cl) (es : List Expr) (xs : Exs) : Prop := PA X es (tA X.K (evs c xs)) ∧ (es = [] → xs = .nil)
abbrev II (X : Cx) (c : Cl) (tg e : Expr) (x : Itx) : Prop := PI X tg e (tI X.K (evI c x)) ∧ ∀ y, foldedSetIterable e X.env y = pure y
noncomputable def visK (nm : List (Str × NameKind)) (x : Str) : Bool := decide (nm.lookup x = some .local) || decide (nm.lookup x = some .cell) || decide (nm.lookup x = some .free)
section
variable (r : RX X T W k nm N)
include r
theorem r_var {y : Str} {pos : Pos} {i : Nat} (hn : nameOk y = true) (h1 : slot y N = some i) (hv : visK nm y = true) : PP X (callN T W k) (.Name y pos) (.var i) := by
  refine plainT (s_var hn (by rw [r.n]; exact h1) (r.ok.kv _ ?_)) (fun _ => rfl)
  unfold visK at hv
  rw [Bool.or_eq_true, Bool.or_eq_true] at hv
  rcases hv with (hv | hv) | hv
  · exact .inl (of_decide_eq_true hv)
  · exact .inr (.inl (of_decide_eq_true hv))
  · exact .inr (.inr (of_decide_eq_true hv))
theorem r_gl {y : Str} {pos : Pos} (hn : nameOk y = true) (hl : nm.lookup y = some .globalImplicit) : PP X (callN T W k) (.Name y pos) (.gl y) := by
  refine plainT ?_ (fun _ => rfl)
  have hg := r.ok.kg _ hl
  intro pins s σ H Q I q
  obtain ⟨mu, env, S, he, hw, d, S', hf, k'⟩ := id q
  rw [ev] at hf
  obtain ⟨d', hc, _⟩ := Option.map_eq_some_iff.mp hf
  have hc' : T.gls.lookup y = some d' := by cases k <;> exact hc
  obtain ⟨u, v, hm, rv, rd⟩ := r.ok.gs y d' hc'
  exact s_gl hn hg hm rv rd hc pins s σ H Q I q
omit r
theorem r_const {cc : Const} {j : Nat} {pos : Pos} {c : Cl} {x : Ex} (h : (match cc with
        | .none => some Ex.non
        | .bool b => some (.bl b)
        | .int i => some (.int i)
        | .str x => some (.str x)
        | _ => none) = some x) : PP X c (.Constant cc j pos) x := plainT (s_const h) (fun _ => rfl)
section
variable {c : Cl}
theorem r_bin {a b : Expr} {op : Operator} {pos : Pos} {xa xb : Ex} (ha : PP X c a xa) (hb : PP X c b xb) : PP X c (.BinOp a op b pos) (.bin op xa xb) := plainT (s_bin ha.1 hb.1) (fun _ => rfl)
theorem r_not {a : Expr} {pos : Pos} {xa : Ex} (ha : PP X c a xa) : PP X c (.UnaryOp .Not a pos) (.not xa) := ⟨s_not ha.1, s_notT ha.2⟩
theorem r_neg {a : Expr} {pos : Pos} {xa : Ex} (ha : PP X c a xa) : PP X c (.UnaryOp .USub a pos) (.neg xa) := plainT (s_neg ha.1) (fun _ => rfl)
theorem r_bool {op : BoolOp} {es : List Expr} {pos : Pos} {x : Ex} (h : PB X c (.BoolOp op es pos) x) : PP X c (.BoolOp op es pos) x := ⟨h.1, h.2.pt⟩
theorem b_one {op : BoolOp} {a : Expr} {pos : Pos} {x : Ex} (h : PP X c a x) : PB X c (.BoolOp op [a] pos) x := ⟨pe_one h.1, oneT h.2⟩
theorem b_and {a b : Expr} {es : List Expr} {pos : Pos} {xa xb : Ex} (h : PP X c a xa) (h2 : PB X c (.BoolOp .And (b :: es) pos) xb) : PB X c (.BoolOp .And (a :: b :: es) pos) (.and xa xb) := ⟨s_and h.1 h2.1, s_andT h.2 h2.2⟩
theorem b_or {a b : Expr} {es : List Expr} {pos : Pos} {xa xb : Ex} (h : PP X c a xa) (h2 : PB X c (.BoolOp .Or (b :: es) pos) xb) : PB X c (.BoolOp .Or (a :: b :: es) pos) (.or xa xb) := ⟨s_or h.1 h2.1, s_orT h.2 h2.2⟩
theorem r_isN {a : Expr} {j : Nat} {p pos : Pos} {xa : Ex} (ha : PP X c a xa) : PP X c (.Compare a [.Is] [.Constant .none j p] pos) (.isN xa) := ⟨pe_cmp (s_isN ha.1) rfl, s_cmpT (s_isN ha.1) rfl⟩
theorem r_sub {a i : Expr} {pos : Pos} {xa xi : Ex} (hp : plainIx i = true) (ha : PP X c a xa) (hi : PP X c i xi) : PP X c (.Subscript a i pos) (.sub xa xi) := plainT (s_sub ha.1 hi.1 hp) (fun _ => rfl)
theorem r_slc {a : Expr} {lo hi : Option Expr} {p2 pos : Pos} {xa : Ex} {xl xh : Ox} (ha : PP X c a xa) (hl : PO X lo (tO X.K (evO c xl))) (hh : PO X hi (tO X.K (evO c xh))) : PP X c (.Subscript a (.Slice lo hi none p2) pos) (.slc xa xl xh) := plainT (s_slc ha.1 hl hh) (fun _ => rfl)
theorem o_none : PO X none (tO X.K (evO c .no)) := s_no
theorem o_some {e : Expr} {x : Ex} (h : PP X c e x) : PO X (some e) (tO X.K (evO c (.yes x))) := s_yes h.1
theorem r_tup {es : List Expr} {j : Nat} {pos : Pos} {xs : Exs} (h : AA X c es xs) : PP X c (.Tuple es j pos) (.tup xs) := plainT (s_tup h.1) (fun _ => rfl)
theorem r_lv {es : List Expr} {pos : Pos} {xs : Exs} (h : AA X c es xs) : PP X c (.List es pos) (.lv (.dsp xs)) := plainT (s_asL false (s_dsp h.1)) (fun _ => rfl)
theorem r_lr {es : List Expr} {pos : Pos} {xs : Exs} (h : AA X c es xs) : PP X c (.List es pos) (.lr (.dsp xs)) := plainT (s_asL true (s_dsp h.1)) (fun _ => rfl)
theorem a_nil : AA X c [] .nil := ⟨s_nil, fun _ => rfl⟩
theorem a_cons {e : Expr} {es : List Expr} {x : Ex} {xs : Exs} (hs : notStar e = true) (h : PP X c e x) (t : AA X c es xs) : AA X c (e :: es) (.cons x xs) := ⟨s_cons h.1 t.1 hs, fun z => nomatch z⟩
theorem ii_seq {tg e : Expr} {x : Ex} (hs : ∀ y, foldedSetIterable e X.env y = pure y) (h : PP X c e x) : II X c tg e (.seq x) := ⟨i_seq h.1, hs⟩
end
include r
theorem r_cmp {a b : Expr} {op : CmpOp} {pos : Pos} {xa xb : Ex} (hm : behindInMarks op b = false) (ho : isOp op = false) (ha : PP X (callN T W k) a xa) (hb : PP X (callN T W k) b xb) : PP X (callN T W k) (.Compare a [op] [b] pos) (.cmp op xa xb) := by
  have hu : X.A.units + 100 < cLine := by have := r.ok.room.un; omega
  exact ⟨pe_cmp (s_pc hu ha.1 hb.1) hm, s_cmpT (s_pc hu ha.1 hb.1) hm⟩
theorem r_call {f : Str} {es : List Expr} {p pos : Pos} {xs : Exs} (hn : nameOk f = true) (hg : nm.lookup f = some .globalImplicit) (hs : es.all notStar = true) (h : AA X (callN T W k) es xs) : PP X (callN T W k) (.Call (.Name f p) es [] pos) (.call f xs) := plainT (s_call r.ok hn (r.ok.kg _ hg) hs h.2 h.1) (fun _ => rfl)
theorem r_blt {f : Str} {b : Bi} {e : Expr} {es : List Expr} {p pos : Pos} {xs : Exs} (hf : biOf.lookup f = some b) (hn : nameOk f = true) (hg : nm.lookup f = some .globalImplicit) (hs : (e :: es).all notStar = true) (h : AA X (callN T W k) (e :: es) xs) : PP X (callN T W k) (.Call (.Name f p) (e :: es) [] pos) (.blt b xs) := plainT (s_blt r.ok hn (r.ok.kg _ hg) hf hs h.1) (fun _ => rfl)
theorem r_bltL {f : Str} {b : Bl} {e : Expr} {es : List Expr} {p pos : Pos} {xs : Exs} (hf : blOf.lookup f = some b) (hn : nameOk f = true) (hg : nm.lookup f = some .globalImplicit) (hs : (e :: es).all notStar = true) (h : AA X (callN T W k) (e :: es) xs) : PP X (callN T W k) (.Call (.Name f p) (e :: es) [] pos) (.lv (.blt b xs)) := plainT (s_asL false (s_bltL r.ok hn (r.ok.kg _ hg) hf hs h.1)) (fun _ => rfl)
theorem r_isi {a : Expr} {t : Str} {p pt pos : Pos} {xa : Ex} (hu : (isiTys.lookup t).isSome = true) (hg : nm.lookup ("isinstance" : Str) = some .globalImplicit) (ht : nm.lookup t = some .globalImplicit) (hs : notStar a = true) (ha : PP X (callN T W k) a xa) : PP X (callN T W k) (.Call (.Name "isinstance" p) [a, .Name t pt] [] pos) (.isi xa t) := by
  obtain ⟨u, hu⟩ := Option.isSome_iff_exists.mp hu
  exact plainT (s_isi r.ok ha.1 hs (r.ok.kg _ hg) (r.ok.kg _ ht) hu) (fun _ => rfl)
theorem r_mth {o : Expr} {m : Str} {t : Mt} {es : List Expr} {ap pos : Pos} {xo : Ex} {xs : Exs} (hm : mtOf.lookup m = some t) (hs : es.all notStar = true) (hl : lineOk ap pos = true) (hn : es.length ≤ 8) (hb : baseOk o = true) (ho : PP X (callN T W k) o xo) (ha : AA X (callN T W k) es xs) : PP X (callN T W k) (.Call (.Attribute o m ap) es [] pos) (.mth xo t xs) := plainT (s_mth hm ho.1 ha.1 ha.2 hs hl hn hb) (fun _ => rfl)
theorem r_dget {o f : Expr} {ks : List Expr} {jj : Nat} {pp ap pos : Pos} {xo xf : Ex} {xs : Exs} (hs : notStar f = true) (hl : lineOk ap pos = true) (hb : baseOk o = true) (ho : PP X (callN T W k) o xo) (hk : AA X (callN T W k) ks xs) (hf : PP X (callN T W k) f xf) : PP X (callN T W k) (.Call (.Attribute o "get" ap) [.Tuple ks jj pp, f] [] pos) (.dget xo xs xf) :=
  plainT (s_dget (by have := r.ok.room.un; omega) ho.1 hk.1 hf.1 (m2_of hs hl hb)) (fun _ => rfl)
omit r
include r
theorem ii_rng1 {tg a : Expr} {p pos : Pos} {x : Ex} (hg : nm.lookup ("range" : Str) = some .globalImplicit) (hs : notStar a = true) (h : PP X (callN T W k) a x) : II X (callN T W k) tg (.Call (.Name "range" p) [a] [] pos) (.rng1 x) := ⟨i_rng1 r.ok (r.ok.kg _ hg) hs h.1, fun _ => rfl⟩
theorem ii_enm {tg a : Expr} {p pos : Pos} {x : Ex} (ht : isTup tg = true) (hg : nm.lookup ("enumerate" : Str) = some .globalImplicit) (hs : notStar a = true) (h : PP X (callN T W k) a x) : II X (callN T W k) tg (.Call (.Name "enumerate" p) [a] [] pos) (.enm x) := ⟨i_enm r.ok (r.ok.kg _ hg) hs ht h.1, fun _ => rfl⟩
theorem gg_name {x : Str} {pos : Pos} {i : Nat} (hl : locOk nm x = true) (h1 : slot x N = some i) : PG X (.Name x pos) (tG X.K (asg (callN T W k) (.name i))) := g_name r.ok hl (by rw [r.n]; exact h1)
theorem gg_sub {o i : Expr} {pos : Pos} {xo xi : Ex} (hp : plainIx i = true) (ho : PP X (callN T W k) o xo) (hi : PP X (callN T W k) i xi) : PG X (.Subscript o i pos) (tG X.K (asg (callN T W k) (.sub xo xi))) := g_sub (by have := r.ok.room.un; omega) ho.1 hi.1 hp
omit r
end
end
end PF
namespace PF
open PySem PySem.Spec PyProof.Rows L2
section
variable {X : Cx} {T : Tab} {W k : Nat} {nm : List (Str × NameKind)} {N : List Str}
noncomputable def tgLen : Tgs → Nat
  | .nil => 0
  | .cons _ ts => tgLen ts + 1
theorem asgs_n {c : Cl} {ts : Tgs} : ∀ {ds : List D} {env : En} {S : Sto} {r : En × Sto}, asgs c ts ds env S = some r → ds.length = tgLen ts := by
  intro ds
  induction ds generalizing ts with
  | nil =>
    intro env S r h
    cases ts with
    | nil => rfl
    | cons t ts => simp [asgs] at h
  | cons d ds ih =>
    intro env S r h
    cases ts with
    | nil => simp [asgs] at h
    | cons t ts =>
      rw [asgs] at h
      obtain ⟨r1, h5, h2⟩ := Option.bind_eq_some_iff.mp h
      rw [List.length_cons, ih h2]; rfl
theorem gg_nil : PGs X [] (tGs X.K (asgs (callN T W k) .nil)) := g_nil
theorem gg_cons {e : Expr} {es : List Expr} {t : Tg} {ts : Tgs} (hs : notStar e = true) (h1 : PG X e (tG X.K (asg (callN T W k) t))) (h2 : PGs X es (tGs X.K (asgs (callN T W k) ts))) : PGs X (e :: es) (tGs X.K (asgs (callN T W k) (.cons t ts))) := g_cons h1 h2 hs
theorem gg_tup (r : RX X T W k nm N) {es : List Expr} {j : Nat} {pos : Pos} {ts : Tgs} (hs : es.all notStar = true) (hl : es.length = tgLen ts) (h : PGs X es (tGs X.K (asgs (callN T W k) ts))) : PG X (.Tuple es j pos) (tG X.K (asg (callN T W k) (.tup ts))) := by
  obtain ⟨l1, l2⟩ := asgEach_len (env := X.env) hs
  intro pins s σ H v u Q I rr ⟨mu, env, S, d, he, hw, hd, env', S', hf, q⟩
  cases d with
  | tup ds =>
    replace hf : asgs (callN T W k) ts ds env S = some (env', S') := hf
    obtain ⟨a, xs, rfl, hq, rs⟩ := hd.tup_at
    exact pg_tup r.ok.calm h l1 l2 pins s σ H _ u Q I rr ⟨a, xs, rfl, hq, by rw [← rs.length, asgs_n hf, hl], mu, env, S, ds, he, hw, rs, env', S', hf, q⟩
  | lst ds =>
    replace hf : asgs (callN T W k) ts ds env S = some (env', S') := hf
    obtain ⟨a, xs, rfl, hq, rs⟩ := hd.lst_at
    exact pg_lst r.ok.calm h l1 l2 pins s σ H _ u Q I rr ⟨a, xs, rfl, hq, by rw [← rs.length, asgs_n hf, hl], mu, env, S, ds, he, hw, rs, env', S', hf, q⟩
  | _ => (first | cases hf | (simp [asg] at hf))
theorem tj_nil {c : Cl} : TestsJ X [] (tT X.K (evTs c .nil)) := by
  intro pins s σ H Q I ⟨mu, env, S, he, hw, b, S', hf, q⟩
  rw [evTs] at hf
  cases hf
  exact wpAny_tests_nil ⟨H, I, q mu H .refl hw⟩
theorem tj_one {c : Cl} {e : Expr} {x : Ex} (h : PP X c e x) : TestsJ X [e] (tT X.K (evTs c (.cons x .nil))) := by
  intro pins s σ H Q I ⟨mu, env, S, he, hw, b, S', hf, q⟩
  refine wpAny_tests_one (h.2 pins s σ H Q I ⟨mu, env, S, he, hw, b, S', ?_, q⟩)
  rw [evTs] at hf
  obtain ⟨⟨d, S1⟩, h3, hf⟩ := Option.bind_eq_some_iff.mp hf
  obtain ⟨t, h4, hf⟩ := Option.bind_eq_some_iff.mp hf
  cases t with
  | true =>
    rw [if_pos rfl, evTs] at hf
    cases hf
    exact evT_of h3 h4
  | false =>
    rw [if_neg Bool.false_ne_true] at hf
    cases hf
    exact evT_of h3 h4
theorem RX.blk (r : RX X T W k nm N) {scope : Scope} (hc : compOk N nm scope = true) (hk : X.env.scope.kind = .function) (C : Addr) (s2 : Shared) (H2 : Hp) (fp : List Addr) (pins : List (Addr × Obj)) : RX (blockCx X (compN scope) scope C s2 H2 fp pins) T W k scope.names (compN scope) :=
  ⟨comp_ok r.ok (by rw [r.n]; exact hc) hk C s2 H2 fp pins, rfl⟩
theorem RX.cn (r : RX X T W k nm N) {scope : Scope} {own : Nat} {caps : List Nat} (hc : compOk N nm scope = true) (ho : (ownN scope).length = own) (hp : ((freeN scope).map fun y => (slot y N).getD 0) = caps) : CompN X scope (compN scope) own caps := by
  have := comp_n r.ok (scope := scope) (by rw [r.n]; exact hc)
  rw [r.n, ho, hp] at this
  exact this
structure CR (X : Cx) (T : Tab) (W k : Nat) (elt tgt iter : Expr) (ifs : List Expr) (scope : Scope) (own : Nat) (caps : List Nat) (t : Tg) (it : Itx) (xi : Exs) (xe : Ex) : Prop where
  n : CompN X scope (compN scope) own caps
  i : II X (callN T W k) tgt iter it
  b : X.env.scope.kind = .function → ∀ (C : Addr) (s2 : Shared) (H2 : Hp) (fp : List Addr) (pins : List (Addr × Obj)), PG (blockCx X (compN scope) scope C s2 H2 fp pins) tgt (tG X.K (fun d e S => asg (callN T W k) t d e S)) ∧ TestsJ (blockCx X (compN scope) scope C s2 H2 fp pins) ifs (tT X.K (fun e S => evTs (callN T W k) xi e S)) ∧ PE (blockCx X (compN scope) scope C s2 H2 fp pins) elt (tE X.K (fun e S => ev (callN T W k) xe e S))
theorem cr_mk (r : RX X T W k nm N) {elt tgt iter : Expr} {ifs : List Expr} {scope : Scope} {own : Nat} {caps : List Nat} {t : Tg} {it : Itx} {xi : Exs} {xe : Ex} (hc : compOk N nm scope = true) (ho : (ownN scope).length = own) (hp : ((freeN scope).map fun y => (slot y N).getD 0) = caps) (hi : II X (callN T W k) tgt iter it)
    (hb : ∀ Y : Cx, RX Y T W k scope.names (compN scope) → PG Y tgt (tG Y.K (asg (callN T W k) t)) ∧ TestsJ Y ifs (tT Y.K (evTs (callN T W k) xi)) ∧ PP Y (callN T W k) elt xe) : CR X T W k elt tgt iter ifs scope own caps t it xi xe :=
  ⟨r.cn hc ho hp, hi, fun hk C s2 H2 fp pins => by
    obtain ⟨a, b, c⟩ := hb _ (r.blk hc hk C s2 H2 fp pins)
    exact ⟨a, b, c.1⟩⟩
theorem r_comp (r : RX X T W k nm N) {elt tgt iter : Expr} {ifs : List Expr} {scope : Scope} {pos : Pos} {own : Nat} {caps : List Nat} {t : Tg} {it : Itx} {xi : Exs} {xe : Ex} (cr : CR X T W k elt tgt iter ifs scope own caps t it xi xe) (b : Bool) :
    PP X (callN T W k) (.ListComp elt [⟨tgt, iter, ifs, 0⟩] scope pos) (asL b (.comp own caps t it xi xe)) := by
  refine plainT (s_asL b ?_) (fun _ => rfl)
  intro pins s σ H Q I q
  have pc := pe_comp (elt := elt) (tgt := tgt) (iter := iter) (ifs := ifs) (pos := pos) r.ok.calm cr.n cr.i.1 cr.i.2 (cr.b I.ok.kind)
  refine pc pins s σ H Q I ?_
  obtain ⟨mu, env, S, he, hw, d, S', hf, k'⟩ := q
  exact ⟨mu, env, S, he, hw, d, S', by rw [evL] at hf; exact hf, k'⟩
theorem r_compV (r : RX X T W k nm N) {elt tgt iter : Expr} {ifs : List Expr} {scope : Scope} {pos : Pos} {own : Nat} {caps : List Nat} {t : Tg} {it : Itx} {xi : Exs} {xe : Ex} (cr : CR X T W k elt tgt iter ifs scope own caps t it xi xe) :
    PP X (callN T W k) (.ListComp elt [⟨tgt, iter, ifs, 0⟩] scope pos) (.lv (.comp own caps t it xi xe)) := r_comp r cr false
theorem r_dofT (r : RX X T W k nm N) {a v tgt iter : Expr} {j0 j1 : Nat} {p p1 p2 p3 p4 pos cp : Pos} {h : Int} {scope : Scope} {own : Nat} {caps : List Nat} {t : Tg} {it : Itx} {xa xv : Ex} (hg : nm.lookup ("dict" : Str) = some .globalImplicit) (hs : notStar v = true) (hc : compOk N nm scope = true) (ho : (ownN scope).length = own) (hp : ((freeN scope).map fun y => (slot y N).getD 0) = caps) (hi : II X (callN T W k) tgt iter it)
    (hb : ∀ Y : Cx, RX Y T W k scope.names (compN scope) → PG Y tgt (tG Y.K (asg (callN T W k) t)) ∧ PP Y (callN T W k) a xa ∧ PP Y (callN T W k) v xv) :
    PP X (callN T W k) (.Call (.Name "dict" p) [.ListComp (.Tuple [.Subscript a (.Slice none (some (.Constant (.int h) j0 p1)) none p2) p3, v] j1 p4) [⟨tgt, iter, [], 0⟩] scope cp] [] pos) (.dofT own caps t it xa h xv) :=
  plainT (s_dofT r.ok (r.ok.kg _ hg) (r.cn hc ho hp) hi.1 hi.2 (fun hk C s2 H2 fp pins => by
    obtain ⟨a, b, c⟩ := hb _ (r.blk hc hk C s2 H2 fp pins)
    exact ⟨a, b.1, c.1⟩) hs) (fun _ => rfl)
theorem q_asg {tg e : Expr} {pos : Pos} {t : Tg} {x : Ex} (hc : swapsWithSole [tg] e pos.line X.env = pure false) (hw : swappedStores [tg] e X.env = pure none) (h1 : (assignEach [tg] X.env).map (·.2) = [assign tg X.env]) (he : PP X (callN T W k) e x) (hg : PG X tg (tG X.K (asg (callN T W k) t))) : PS X (.Assign [tg] e pos) (tSt X.K (evS (callN T W k) W (.asg t x))) := p_asg he.1 hg hc hw h1
theorem q_asgC (r : RX X T W k nm N) {elt tgt iter : Expr} {ifs : List Expr} {y : Str} {py pos spos : Pos} {scope : Scope} {own : Nat} {caps : List Nat} {t t' : Tg} {it : Itx} {xi : Exs} {xe : Ex} (hs : swapY nm y py scope pos = true) (hg : PG X (.Name y py) (tG X.K (asg (callN T W k) t))) (cr : CR X T W k elt tgt iter ifs scope own caps t' it xi xe) :
    PS X (.Assign [.Name y py] (.ListComp elt [⟨tgt, iter, ifs, 0⟩] scope pos) spos) (tSt X.K (evS (callN T W k) W (.asg t (.lv (.comp own caps t' it xi xe))))) := by
  intro pins s σ H D I ⟨mu, env, S, her, hwr, fl, hf, q⟩
  rw [evS] at hf
  obtain ⟨⟨d, S1⟩, h2, hf⟩ := Option.bind_eq_some_iff.mp hf
  obtain ⟨⟨env', S2⟩, h3, e'⟩ := Option.map_eq_some_iff.mp hf
  cases e'
  unfold swapY at hs
  rw [Bool.and_eq_true, Bool.and_eq_true] at hs
  have hbk : X.env.blockKind = .function := by unfold Env.blockKind; rw [I.ok.kind]; rfl
  have hsw : swapsWith (.ListComp elt [⟨tgt, iter, ifs, 0⟩] scope pos) (some (.Name y py)) spos.line X.env = pure true := by
    unfold swapsWith
    show (pure (X.env.blockKind == .function && X.env.kindOf y == some .local && py.line == pos.line && !(scope.names.any fun (n, k) => n == y && (k == .local || k == .cell))) : Sem Bool) = _
    have ky : X.env.kindOf y = some .local := r.ok.kl y (of_decide_eq_true hs.1.1)
    rw [hbk, ky, hs.1.2, hs.2]
    rfl
  refine ps_comp (elt := elt) (tgt := tgt) (iter := iter) (ifs := ifs) (pos := pos) r.ok.calm cr.n cr.i.1 cr.i.2 (cr.b I.ok.kind) hsw hg pins s σ H D I ?_
  rw [ev] at h2
  obtain ⟨⟨ds, S3⟩, h4, e⟩ := Option.map_eq_some_iff.mp h2
  cases e
  rw [evL] at h4
  refine ⟨mu, env, S, her, hwr, ds, _, h4, fun vs p mu1 H1 e1 w1 hp r1 => ?_⟩
  exact ⟨mu1, env, _, _, her.mono (e1.trans (Ext.new w1 hp)), w1.keep hp, rd_lst w1 hp r1, env', S2, h3, fun σ' mu' H' e2 w2 r2 => q σ' mu' H' ((e1.trans (Ext.new w1 hp)).trans e2) w2 r2⟩
theorem q_par (r : RX X T W k nm N) {x y : Str} {px py pt pt2 pos : Pos} {kt k2 i j : Nat} {a b : Expr} {xa xb : Ex} (h : parOk nm x y px py a b = true) (hi : slot x N = some i) (hj : slot y N = some j) (ha : PP X (callN T W k) a xa) (hb : PP X (callN T W k) b xb) : PS X (.Assign [.Tuple [.Name x px, .Name y py] kt pt] (.Tuple [a, b] k2 pt2) pos) (tSt X.K (evS (callN T W k) W (.par i j xa xb))) := p_par r.ok h (by rw [r.n]; exact hi) (by rw [r.n]; exact hj) ha.1 hb.1
theorem q_ex {e : Expr} {pos : Pos} {x : Ex} (hc : notComp e = true) (he : PP X (callN T W k) e x) : PS X (.Expr e pos) (tSt X.K (evS (callN T W k) W (.ex x))) := p_ex he.1 hc
theorem q_ret {e : Expr} {pos : Pos} {x : Ex} (he : PP X (callN T W k) e x) : PS X (.Return (some e) pos) (tSt X.K (evS (callN T W k) W (.ret x))) := p_ret he.1
theorem q_if {t : Expr} {a b : List Stmt} {pos : Pos} {x : Ex} {xa xb : Sms} (ht : PP X (callN T W k) t x) (ha : PSs X a (tSt X.K (evSs (callN T W k) W xa))) (hb : PSs X b (tSt X.K (evSs (callN T W k) W xb))) : PS X (.If t a b pos) (tSt X.K (evS (callN T W k) W (.ifs x xa xb))) := p_if ht.2 ha hb
theorem q_for (r : RX X T W k nm N) {tg it : Expr} {b : List Stmt} {pos : Pos} {t : Tg} {x : Itx} {xb : Sms} (hi : II X (callN T W k) tg it x) (hg : PG X tg (tG X.K (asg (callN T W k) t))) (hb : PSs X b (tSt X.K (evSs (callN T W k) W xb))) : PS X (.For tg it b [] pos) (tSt X.K (evS (callN T W k) W (.fr t x xb))) := p_for r.ok hi.1 hi.2 hg hb
theorem q_while (r : RX X T W k nm N) {t : Expr} {b : List Stmt} {pos : Pos} {x : Ex} {xb : Sms} (ht : PP X (callN T W k) t x) (hb : PSs X b (tSt X.K (evSs (callN T W k) W xb))) : PS X (.While t b [] pos) (tSt X.K (evS (callN T W k) W (.whl x xb))) := p_while r.ok ht.2 hb
end
end PF
namespace PF
open PySem PySem.Spec PyProof.Rows L2
section
variable {X : Cx} {T : Tab} {W k : Nat} {nm : List (Str × NameKind)} {N : List Str}
theorem r_cmp2 (r : RX X T W k nm N) {a b e : Expr} {op op' : CmpOp} {pos : Pos} {xa xb xe : Ex} (hm : lastMarks [op, op'] [b, e] = false) (ha : PP X (callN T W k) a xa) (hb : PP X (callN T W k) b xb) (he : PP X (callN T W k) e xe) : PP X (callN T W k) (.Compare a [op, op'] [b, e] pos) (.cmp2 op op' xa xb xe) := by
  have hu : X.A.units + 100 < cLine := by have := r.ok.room.un; omega
  exact ⟨s_cmp2 hu ha.1 hb.1 he.1 hm, s_cmp2T hu ha.1 hb.1 he.1 hm⟩
theorem r_notB {c : Cl} {a : Expr} {b : Bool} {j : Nat} {p pos : Pos} {xa : Ex} (ha : PP X c a xa) : PP X c (.Compare a [.IsNot] [.Constant (.bool b) j p] pos) (.notB xa b) := ⟨pe_cmp (s_notB ha.1) rfl, s_cmpT (s_notB ha.1) rfl⟩
theorem ii_zip (r : RX X T W k nm N) {tg a b : Expr} {p pos : Pos} {x y : Ex} (ht : isTup tg = true) (hg : nm.lookup ("zip" : Str) = some .globalImplicit) (hs : notStar a = true) (hs2 : notStar b = true) (h : PP X (callN T W k) a x) (h2 : PP X (callN T W k) b y) : II X (callN T W k) tg (.Call (.Name "zip" p) [a, b] [] pos) (.zip x y) := ⟨i_zip r.ok (r.ok.kg _ hg) hs hs2 ht h.1 h2.1, fun _ => rfl⟩
theorem q_par3 (r : RX X T W k nm N) {x y z : Str} {px py pz pt pt2 pos : Pos} {kt k2 i j l : Nat} {a b d : Expr} {xa xb xd : Ex} (h : parOk3 nm x y z px py pz a b d = true) (hi : slot x N = some i) (hj : slot y N = some j) (hl : slot z N = some l) (ha : PP X (callN T W k) a xa) (hb : PP X (callN T W k) b xb) (hd : PP X (callN T W k) d xd) : PS X (.Assign [.Tuple [.Name x px, .Name y py, .Name z pz] kt pt] (.Tuple [a, b, d] k2 pt2) pos) (tSt X.K (evS (callN T W k) W (.par3 i j l xa xb xd))) := p_par3 r.ok h (by rw [r.n]; exact hi) (by rw [r.n]; exact hj) (by rw [r.n]; exact hl) ha.1 hb.1 hd.1
theorem r_lrng2 (r : RX X T W k nm N) {a b : Expr} {p p2 pos pos2 : Pos} {xa xb : Ex} (hg : nm.lookup ("list" : Str) = some .globalImplicit) (hg2 : nm.lookup ("range" : Str) = some .globalImplicit) (hs : notStar a = true) (hs2 : notStar b = true) (ha : PP X (callN T W k) a xa) (hb : PP X (callN T W k) b xb) : PP X (callN T W k) (.Call (.Name "list" p) [.Call (.Name "range" p2) [a, b] [] pos2] [] pos) (.lv (.lrng2 xa xb)) := plainT (s_asL false (s_lrng2 r.ok (r.ok.kg _ hg) (r.ok.kg _ hg2) hs hs2 ha.1 hb.1)) (fun _ => rfl)
end
end PF
namespace PF
open PySem PySem.Spec PyProof.Rows L2
section
variable {P : Program} {w : World} {K : Frag} {mg : Str → Option Value} {base : Heap} {T : Tab} {W : Nat}
noncomputable def paramsOf (st : Stmt) : List Str := (defArgs st).args.map (·.arg)
noncomputable def namesOf (st : Stmt) : List Str := paramsOf st ++ (((defScope st).names.filter fun p => (decide (p.2 = .local) || decide (p.2 = .cell)) && !(paramsOf st).contains p.1).map (·.1))
structure DefOk (T : Tab) (W : Nat) (K : Frag) (mg : Str → Option Value) (x : Str) (fi : FI) (st : Stmt) (fa : Addr) (fd : FuncData) : Prop where
  fn : Fun K x x st fa fd
  gl : mg x = some (.ref fa)
  sc : FnScope (namesOf st) (paramsOf st) (defScope st)
  bd : Binds K fd (paramsOf st) []
  pl : (paramsOf st).length = fi.ps
  nl : (namesOf st).length = fi.nn
  cs : ∀ (k : Nat) (X : Cx), RX X T W k (defScope st).names (namesOf st) → PSs X (defBody st) (tSt X.K (evSs (callN T W k) W fi.body))
theorem start_er {mu : List Addr} {H : Hp} {N : List Str} {ds : List D} {vs : List V} (r : RDs K mu H ds vs) : ER K mu H (startE N.length ds) (L2.start N vs) := by
  unfold startE L2.start
  have hl := r.length
  refine ⟨by simp [hl], fun i d h => ?_⟩
  by_cases hi : i < ds.length
  · rw [List.getElem?_append_left (by simpa using hi), List.getElem?_map] at h
    obtain ⟨d', h1, h2⟩ := Option.map_eq_some_iff.mp h
    cases h2
    obtain ⟨x, h3, h4⟩ := r.get h1
    exact ⟨x, by rw [List.getElem?_append_left (by simpa [← hl] using hi), List.getElem?_map, h3]; rfl, h4⟩
  · rw [List.getElem?_append_right (by simpa using hi), List.getElem?_replicate] at h
    split at h <;> cases h
theorem fns_ok (all : ∀ f fi, T.lookup f = some fi → ∃ st fa fd, DefOk T W K mg f fi st fa fd) (bl : ∀ f ∈ blts, mg f = none) (gl : ∀ x d, T.gls.lookup x = some d → ∃ u v, mg x = some u ∧ RelV v u ∧ ∀ mu H, RD K mu H d v) :
    ∀ (k : Nat) (f : Str) (fi : FI) (st : Stmt) (fa : Addr) (fd : FuncData), T.lookup f = some fi → DefOk T W K mg f fi st fa fd → FnOk P w K mg base CX0 k fa fd (paramsOf st) (spOf K T W k f) := by
  intro k
  induction k with
  | zero =>
    intro f fi st fa fd hl d
    refine ⟨fun vs H Q E h => ?_, fun A outer s H args us vs Q E hr he hb hv h => ?_⟩
    · obtain ⟨mu, S, ds, _, _, _, d, S', h, _⟩ := h
      cases h
    · obtain ⟨mu, S, ds, _, _, _, d, S', h, _⟩ := h
      cases h
  | succ k ih =>
    intro f fi st fa fd hl d
    refine d.fn.ok d.sc (fun vs H Q E h => ?_) (fun cdv A outer s H vs Q E hr h => ?_)
    · obtain ⟨mu, S, ds, _, r, ⟨fi', h1, h2⟩, _⟩ := h
      rw [hl] at h1; cases h1
      rw [← r.length, h2, d.pl]
    · obtain ⟨mu, S, ds, hw, r, _, dd, S', h, q⟩ := h
      let X : Cx := (cxOf CX0 P w K mg base (namesOf st) f (defScope st) fa cdv A outer s H E).nox
      have nf : ∀ x, (defScope st).names.lookup x ≠ some .free := fun x hx => d.sc.nofree _ (PySem.mem_of_lookup hx) rfl
      have ok : XOk X T W k (defScope st).names := by
        refine ⟨rfl, hr, d.sc.nd, PassesOwn.never, fun x hx => hx, fun x hx => ?_, fun x hx => hx, fun x hx => hx, fun x hx => ?_, bl, fun g gi hg => ?_, gl⟩
        · unfold locOk at hx
          rw [Bool.or_eq_true] at hx
          rcases hx with hx | hx
          · exact ⟨.inl (of_decide_eq_true hx), .inl rfl⟩
          · exact ⟨.inr (of_decide_eq_true hx), .inl rfl⟩
        · rcases hx with hx | hx
          · exact hx
          · exact absurd hx (nf x)
        obtain ⟨st', fa', fd', d'⟩ := all g gi hg
        exact ⟨fa', fd', paramsOf st', d'.pl, d'.gl, d'.fn.kp, d'.bd, ih g gi st' fa' fd' hg d'⟩
      refine ⟨_, d.cs k X ⟨ok, rfl⟩, ?_⟩
      replace h : ((T.lookup f).bind fun fi => if ds.length = fi.ps then (evSs (callN T W k) W fi.body (startE fi.nn ds) S).bind fin else none) = some (dd, S') := h
      rw [hl] at h
      replace h : (if ds.length = fi.ps then (evSs (callN T W k) W fi.body (startE fi.nn ds) S).bind fin else none) = some (dd, S') := h
      split at h
      · obtain ⟨fl, h1, h2⟩ := Option.bind_eq_some_iff.mp h
        refine ⟨mu, startE fi.nn ds, S, by rw [← d.nl]; exact start_er r, hw, fl, h1, ?_⟩
        cases fl with
        | rt d' S1 => cases h2; exact fun v mu' H' e w r => q v mu' H' e w r
        | nx env S1 => cases h2; exact fun σ mu' H' e w r => q .non mu' H' e w rd_non
        | bk env S1 => cases h2
        | ct env S1 => cases h2
      · cases h
theorem law_sp {k : Nat} {x : Str} {fi : FI} (hl : T.lookup x = some fi) (hp : fi.ps = 1) (run : ∀ ns : List Int, ns.length ≤ 63 → ∃ S', (callN T W k).fn x [.lst (ns.map D.int)] [] = some (.bl true, S'))
    (H : Hp) (a : Addr) (ns : List Int) (h : ns.length ≤ 63) (hS : SqL K H a (ns.map V.int)) (E : XK) : spOf K T W k x [.ref a] H (fun v _ => v = .bl true) E := by
  obtain ⟨S', h1⟩ := run ns h
  refine ⟨[], [], [.lst (ns.map D.int)], ⟨rfl, List.nodup_nil, fun n o e => by simp at e⟩, ?_, ⟨fi, hl, hp.symm⟩, .bl true, S', h1, fun v mu' H' e w r => bl_at r⟩
  refine .cons ?_ .nil
  rw [RD]
  refine ⟨a, ns.map V.int, rfl, ?_, ?_⟩
  · rcases hS with h | h
    · exact .inl ⟨by simp, h⟩
    · exact .inr h
  · clear h h1 hS
    induction ns with
    | nil => exact .nil
    | cons n ns ih => exact .cons rd_int ih
end
section
variable {K : Frag} {mg : Str → Option Value}
structure DefIn (K : Frag) (x : Str) (st : Stmt) : Prop where
  ex : ∃ (f : Addr) (oc : Value) (od an : Option Addr) (sl : Array (Option Value)) (kV doc pm cdv ct : Value), PySem.W.nsIn K mainGlobals x = some (some (.ref f)) ∧
    K.lookup f = some ⟨oc, od, .func (PySem.W.fnOf x x (defArgs st) (defBody st) (defScope st) .none kV doc pm an cdv ct), sl⟩ ∧ PySem.W.codeIn K cdv x = true ∧ PySem.W.keepIn K (.ref f) = true
theorem DefIn.mk' {x : Str} {st : Stmt} {f : Addr} {oc : Value} {od an : Option Addr} {sl : Array (Option Value)} {kV doc pm cdv ct : Value} (a : PySem.W.nsIn K mainGlobals x = some (some (.ref f)))
    (l : K.lookup f = some ⟨oc, od, .func (PySem.W.fnOf x x (defArgs st) (defBody st) (defScope st) .none kV doc pm an cdv ct), sl⟩) (c : PySem.W.codeIn K cdv x = true) (k : PySem.W.keepIn K (.ref f) = true) : DefIn K x st :=
  ⟨⟨f, oc, od, an, sl, kV, doc, pm, cdv, ct, a, l, c, k⟩⟩
def BindOk (x : Str) (st : Stmt) : Prop := ∀ (kV doc pm : Value) (an : Option Addr) (cdv ct : Value) (us : List Value), us.length = (paramsOf st).length → bindArgs (PySem.W.fnOf x x (defArgs st) (defBody st) (defScope st) .none kV doc pm an cdv ct) ⟨us, []⟩ = pure ((paramsOf st).zip us)
theorem DefIn.ok {T : Tab} {W : Nat} {h : Heap} {x : Str} {st : Stmt} {fi : FI} (KX : K.In h) (G : h.Ns mainGlobals mg) (d : DefIn K x st) (sc : FnScope (namesOf st) (paramsOf st) (defScope st)) (b : BindOk x st)
    (hp : (paramsOf st).length = fi.ps) (hn : (namesOf st).length = fi.nn) (hc : ∀ (k : Nat) (X : Cx), RX X T W k (defScope st).names (namesOf st) → PSs X (defBody st) (tSt X.K (evSs (callN T W k) W fi.body))) : ∃ st fa fd, DefOk T W K mg x fi st fa fd := by
  obtain ⟨f, oc, od, an, sl, kV, doc, pm, cdv, ct, a, l, c, k⟩ := d.ex
  have F := fun_mk (st := st) l c k
  exact ⟨st, f, _, F, PySem.W.mg_of KX G a, sc, F.binds (fun kV doc pm an cdv ct us hl => b kV doc pm an cdv ct us hl), hp, hn, hc⟩
theorem DefIn.ok2 {T : Tab} {W : Nat} {h : Heap} {x : Str} {st : Stmt} {fi : FI} (KX : K.In h) (G : h.Ns mainGlobals mg) (d : DefIn K x st) (sc : FnScope (namesOf st) (paramsOf st) (defScope st)) (b : BindOk x st)
    (hp : (paramsOf st).length = fi.ps) (hn : (namesOf st).length = fi.nn) (hc : ∀ (k : Nat) (X : Cx), RX X T W k (defScope st).names (namesOf st) → PSs X (defBody st) (tSt X.K (evSs (callN T W k) W fi.body))) :
    ∃ fa fd, DefOk T W K mg x fi st fa fd ∧ ∀ (s : Shared) (us : List Value), us.length = (paramsOf st).length → BindsTo s fd ⟨us, []⟩ ((paramsOf st).zip us) := by
  obtain ⟨f, oc, od, an, sl, kV, doc, pm, cdv, ct, a, l, c, k⟩ := d.ex
  have F := fun_mk (st := st) l c k
  exact ⟨f, _, ⟨F, PySem.W.mg_of KX G a, sc, F.binds (fun kV doc pm an cdv ct us hl => b kV doc pm an cdv ct us hl), hp, hn, hc⟩, fun s us hl => .of_eq (b _ _ _ _ _ _ us hl)⟩
theorem bl_of {h : Heap} (KX : K.In h) (G : h.Ns mainGlobals mg) (b : ∀ f ∈ blts, PySem.W.nsIn K mainGlobals f = some none) : ∀ f ∈ blts, mg f = none := fun f hf => PySem.W.mg_none_of KX G (b f hf)
theorem all_of {T : Tab} {C : Str → FI → Prop} (h : ∀ p ∈ T.fns, C p.1 p.2) : ∀ f fi, T.lookup f = some fi → C f fi := fun f fi hl => h (f, fi) (PySem.mem_of_lookup (l := T.fns) hl)
end
end PF
namespace PF
open PySem L2
section
variable {T : Tab} {W k : Nat} {S : Sto}
theorem call_eq {f : Str} {fi : FI} {ds : List D} (hl : T.lookup f = some fi) (hp : ds.length = fi.ps) : (callN T W (k + 1)).fn f ds S = (evSs (callN T W k) W fi.body (startE fi.nn ds) S).bind fin := by
  show ((T.lookup f).bind fun fi => if ds.length = fi.ps then (evSs (callN T W k) W fi.body (startE fi.nn ds) S).bind fin else none) = _
  rw [hl]
  show (if ds.length = fi.ps then _ else none) = _
  rw [if_pos hp]
theorem blt_min {i j : Int} : bltD S .min [.int i, .int j] = some (.int (if j < i then j else i)) := rfl
theorem blt_int_b {b : Bool} : bltD S .int [.bl b] = some (.int (if b then 1 else 0)) := rfl
theorem blt_len_lst {ds : List D} : bltD S .len [.lst ds] = some (.int ds.length) := rfl
theorem blt_len_tup {ds : List D} : bltD S .len [.tup ds] = some (.int ds.length) := rfl
theorem look_int : isiTys.lookup ("int" : Str) = some "int" := by decide +kernel
theorem look_bool : isiTys.lookup ("bool" : Str) = some "bool" := by decide +kernel
theorem isi_int_int {i : Int} : isiD S (.int i) "int" = some true := by rw [isiD, look_int]; rfl
theorem isi_int_bool {i : Int} : isiD S (.int i) "bool" = some false := by rw [isiD, look_bool]; rfl
theorem mul_small_l {i j : Int} (h1 : -(2 ^ 64) < i) (h2 : i < 2 ^ 64) : binop S .Mult (.int i) (.int j) = some (.int (i * j)) := by
  show (if MulOk i j then some (D.int (i * j)) else none) = _
  rw [if_pos (.inl ⟨h1, h2⟩)]
theorem mul_small_r {i j : Int} (h1 : -(2 ^ 64) < j) (h2 : j < 2 ^ 64) : binop S .Mult (.int i) (.int j) = some (.int (i * j)) := by
  show (if MulOk i j then some (D.int (i * j)) else none) = _
  rw [if_pos (.inr (.inl ⟨h1, h2⟩))]
theorem mul_big {i j : Int} (h1 : i.natAbs < 2 ^ 100000) (h2 : j.natAbs < 2 ^ 100000) : binop S .Mult (.int i) (.int j) = some (.int (i * j)) := by
  show (if MulOk i j then some (D.int (i * j)) else none) = _
  rw [if_pos (.inr (.inr ⟨h1, h2⟩))]
theorem mod_pos {i j : Int} (h : 0 < j) : binop S .Mod (.int i) (.int j) = some (.int (i % j)) := by
  show (if 0 < j then some (D.int (i % j)) else none) = _
  rw [if_pos h]
theorem big_of {j : Int} (h : j ≤ 10 ^ 70) : j < bigJ := by
  have e : (10 : Int) ^ 70 < bigJ := by unfold bigJ; decide +kernel
  omega
theorem fdiv_pos {i j : Int} (h : 0 < j) (h2 : j ≤ 10 ^ 70) : binop S .FloorDiv (.int i) (.int j) = some (.int (i / j)) := by
  show (if 0 < j ∧ j < bigJ then some (D.int (i / j)) else none) = _
  rw [if_pos ⟨h, big_of h2⟩]
theorem pow10 {n : Int} (h : 0 ≤ n) (h2 : n ≤ 1000) : binop S .Pow (.int 10) (.int n) = some (.int (10 ^ n.toNat)) := by
  show (if PowOk 10 n then some (D.int (10 ^ n.toNat)) else none) = _
  rw [if_pos ⟨h, .inl ⟨by omega, by decide⟩⟩]
end
end PF
namespace PF
open PySem L2
def Ev (o : Option (D × Sto)) (P : D → Sto → Prop) : Prop := ∃ d S, o = some (d, S) ∧ P d S
def Es (o : Option (List D × Sto)) (P : List D → Sto → Prop) : Prop := ∃ d S, o = some (d, S) ∧ P d S
def Eo (o : Option (Option Int × Sto)) (P : Option Int → Sto → Prop) : Prop := ∃ d S, o = some (d, S) ∧ P d S
def Eg (o : Option (En × Sto)) (P : En → Sto → Prop) : Prop := ∃ d S, o = some (d, S) ∧ P d S
def Op {α : Type} (o : Option α) (P : α → Prop) : Prop := ∃ d, o = some d ∧ P d
def Fo (o : Option Fl) (P : Fl → Prop) : Prop := ∃ f, o = some f ∧ P f
def thenK (c : Cl) (W : Nat) (ss : Sms) (P : Fl → Prop) : Fl → Prop
  | .nx e S => Fo (evSs c W ss e S) P
  | .rt d S => P (.rt d S)
  | .bk e S => P (.bk e S)
  | .ct e S => P (.ct e S)
def finK (P : D → Sto → Prop) : Fl → Prop
  | .rt d S => P d S
  | .nx _ S => P .non S
  | _ => False
section
variable {c : Cl} {W : Nat} {env : En} {S : Sto} {P : D → Sto → Prop} {Q : Fl → Prop} {R : List D → Sto → Prop} {G : En → Sto → Prop}
theorem Op.mk {α : Type} {o : Option α} {a : α} {P : α → Prop} (h : o = some a) (k : P a) : Op o P := ⟨a, h, k⟩
theorem ev_var {i : Nat} {d : D} (h : env[i]? = some (some d)) (k : P d S) : Ev (ev c (.var i) env S) P := ⟨d, S, by rw [ev, h], k⟩
theorem ev_bl {b : Bool} (k : P (.bl b) S) : Ev (ev c (.bl b) env S) P := ⟨_, S, by rw [ev], k⟩
theorem ev_int {b : Int} (k : P (.int b) S) : Ev (ev c (.int b) env S) P := ⟨_, S, by rw [ev], k⟩
theorem ev_str {b : Str} (k : P (.str b) S) : Ev (ev c (.str b) env S) P := ⟨_, S, by rw [ev], k⟩
theorem ev_bin {op : Operator} {a b : Ex} (h : Ev (ev c a env S) fun x S1 => Ev (ev c b env S1) fun y S2 => Op (binop S2 op x y) fun d => P d S2) : Ev (ev c (.bin op a b) env S) P := by
  obtain ⟨x, S1, h1, y, S2, h2, d, h3, k⟩ := h
  refine ⟨d, S2, ?_, k⟩
  rw [ev, h1]; show (ev c b env S1).bind _ = _; rw [h2]; show (binop S2 op x y).map _ = _; rw [h3]; rfl
theorem ev_neg {a : Ex} (h : Ev (ev c a env S) fun x S1 => ∃ i, x = .int i ∧ P (.int (-i)) S1) : Ev (ev c (.neg a) env S) P := by
  obtain ⟨x, S1, h1, i, rfl, k⟩ := h
  refine ⟨_, S1, ?_, k⟩
  rw [ev, h1]; rfl
theorem ev_not {a : Ex} (h : Ev (ev c a env S) fun x S1 => Op (truth S1 x) fun b => P (.bl (!b)) S1) : Ev (ev c (.not a) env S) P := by
  obtain ⟨x, S1, h1, b, h2, k⟩ := h
  refine ⟨_, S1, ?_, k⟩
  rw [ev, h1]; show (truth S1 x).map _ = _; rw [h2]; rfl
theorem ev_and {a b : Ex} (h : Ev (ev c a env S) fun x S1 => Op (truth S1 x) fun t => (t = true → Ev (ev c b env S1) P) ∧ (t = false → P x S1)) : Ev (ev c (.and a b) env S) P := by
  obtain ⟨x, S1, h1, t, h2, k1, k2⟩ := h
  cases t with
  | true =>
    obtain ⟨y, S2, h3, k⟩ := k1 rfl
    refine ⟨y, S2, ?_, k⟩
    rw [ev, h1]; show (truth S1 x).bind _ = _; rw [h2]; exact h3
  | false =>
    refine ⟨x, S1, ?_, k2 rfl⟩
    rw [ev, h1]; show (truth S1 x).bind _ = _; rw [h2]; rfl
theorem ev_or {a b : Ex} (h : Ev (ev c a env S) fun x S1 => Op (truth S1 x) fun t => (t = true → P x S1) ∧ (t = false → Ev (ev c b env S1) P)) : Ev (ev c (.or a b) env S) P := by
  obtain ⟨x, S1, h1, t, h2, k1, k2⟩ := h
  cases t with
  | false =>
    obtain ⟨y, S2, h3, k⟩ := k2 rfl
    refine ⟨y, S2, ?_, k⟩
    rw [ev, h1]; show (truth S1 x).bind _ = _; rw [h2]; exact h3
  | true =>
    refine ⟨x, S1, ?_, k1 rfl⟩
    rw [ev, h1]; show (truth S1 x).bind _ = _; rw [h2]; rfl
theorem ev_cmp {op : CmpOp} {a b : Ex} (h : Ev (ev c a env S) fun x S1 => Ev (ev c b env S1) fun y S2 => Op (cmpop S2 op x y) fun d => P (.bl d) S2) : Ev (ev c (.cmp op a b) env S) P := by
  obtain ⟨x, S1, h1, y, S2, h2, d, h3, k⟩ := h
  refine ⟨_, S2, ?_, k⟩
  rw [ev, h1]; show (ev c b env S1).bind _ = _; rw [h2]; show (cmpop S2 op x y).map _ = _; rw [h3]; rfl
theorem ev_isN {a : Ex} (h : Ev (ev c a env S) fun x S1 => P (.bl (decide (x = .non))) S1) : Ev (ev c (.isN a) env S) P := by
  obtain ⟨x, S1, h1, k⟩ := h
  refine ⟨_, S1, ?_, k⟩
  rw [ev, h1]; rfl
theorem ev_isi {a : Ex} {t : Str} (h : Ev (ev c a env S) fun x S1 => Op (isiD S1 x t) fun b => P (.bl b) S1) : Ev (ev c (.isi a t) env S) P := by
  obtain ⟨x, S1, h1, b, h2, k⟩ := h
  refine ⟨_, S1, ?_, k⟩
  rw [ev, h1]; show (isiD S1 x t).map _ = _; rw [h2]; rfl
theorem ev_sub {a i : Ex} (h : Ev (ev c a env S) fun x S1 => Ev (ev c i env S1) fun y S2 => Op (subD S2 x y) fun d => P d S2) : Ev (ev c (.sub a i) env S) P := by
  obtain ⟨x, S1, h1, y, S2, h2, d, h3, k⟩ := h
  refine ⟨_, S2, ?_, k⟩
  rw [ev, h1]; show (ev c i env S1).bind _ = _; rw [h2]; show (subD S2 x y).map _ = _; rw [h3]; rfl
theorem ev_slc {a : Ex} {lo hi : Ox} (h : Ev (ev c a env S) fun x S1 => Eo (evO c lo env S1) fun l S2 => Eo (evO c hi env S2) fun u S3 => Op (sliceD S3 x l u) fun d => P d S3) : Ev (ev c (.slc a lo hi) env S) P := by
  obtain ⟨x, S1, h1, l, S2, h2, u, S3, h3, d, h4, k⟩ := h
  refine ⟨_, S3, ?_, k⟩
  rw [ev, h1]; show (evO c lo env S1).bind _ = _; rw [h2]; show (evO c hi env S2).bind _ = _; rw [h3]; show (sliceD S3 x l u).map _ = _; rw [h4]; rfl
theorem eo_no {P : Option Int → Sto → Prop} (k : P none S) : Eo (evO c .no env S) P := ⟨_, S, by rw [evO], k⟩
theorem eo_yes {e : Ex} {P : Option Int → Sto → Prop} (h : Ev (ev c e env S) fun x S1 => ∃ i, x = .int i ∧ P (some i) S1) : Eo (evO c (.yes e) env S) P := by
  obtain ⟨x, S1, h1, i, rfl, k⟩ := h
  refine ⟨_, S1, ?_, k⟩
  rw [evO, h1]; rfl
theorem es_nil (k : R [] S) : Es (evs c .nil env S) R := ⟨_, S, by rw [evs], k⟩
theorem es_cons {e : Ex} {es : Exs} (h : Ev (ev c e env S) fun x S1 => Es (evs c es env S1) fun xs S2 => R (x :: xs) S2) : Es (evs c (.cons e es) env S) R := by
  obtain ⟨x, S1, h1, xs, S2, h2, k⟩ := h
  refine ⟨_, S2, ?_, k⟩
  rw [evs, h1]; show (evs c es env S1).map _ = _; rw [h2]; rfl
theorem ev_tup {es : Exs} (h : Es (evs c es env S) fun xs S1 => xs.length ≤ line ∧ P (.tup xs) S1) : Ev (ev c (.tup es) env S) P := by
  obtain ⟨xs, S1, h1, hz, k⟩ := h
  refine ⟨_, S1, ?_, k⟩
  rw [ev, h1]; show (if xs.length ≤ line then _ else _) = _; rw [if_pos hz]
theorem ev_lv {l : Lx} (h : Es (evL c l env S) fun xs S1 => P (.lst xs) S1) : Ev (ev c (.lv l) env S) P := by
  obtain ⟨xs, S1, h1, k⟩ := h
  exact ⟨_, _, by rw [ev, h1]; rfl, k⟩
theorem ev_lr {l : Lx} (h : Es (evL c l env S) fun xs S1 => P (.ref S1.length) (S1 ++ [.lst xs])) : Ev (ev c (.lr l) env S) P := by
  obtain ⟨xs, S1, h1, k⟩ := h
  exact ⟨_, _, by rw [ev, h1]; rfl, k⟩
theorem el_dsp {es : Exs} (h : Es (evs c es env S) fun xs S1 => xs.length ≤ line ∧ R xs S1) : Es (evL c (.dsp es) env S) R := by
  obtain ⟨xs, S1, h1, hz, k⟩ := h
  exact ⟨xs, S1, by rw [evL, h1]; show (if xs.length ≤ line then _ else _) = _; rw [if_pos hz], k⟩
theorem el_blt {f : Bl} {es : Exs} (h : Es (evs c es env S) fun xs S1 => Op (bltL S1 f xs) fun ds => R ds S1) : Es (evL c (.blt f es) env S) R := by
  obtain ⟨xs, S1, h1, d, h2, k⟩ := h
  exact ⟨d, S1, by rw [evL, h1]; show (bltL S1 f xs).map _ = _; rw [h2]; rfl, k⟩
theorem ev_gl {x : Str} {d : D} (h : c.gl x = some d) (k : P d S) : Ev (ev c (.gl x) env S) P := ⟨d, S, by rw [ev, h]; rfl, k⟩
theorem isLs2_of {S : Sto} {r : Nat} {ds : List D} (h : S[r]? = some (.lst ds)) : isLs2 S (.ref r) = true := by
  show (items S (.ref r)).isSome = true
  rw [items, h]; rfl
theorem ev_mth {o : Ex} {m : Mt} {es : Exs} (h : Ev (ev c o env S) fun x S1 => isLs2 S1 x = true ∧ Es (evs c es env S1) fun xs S2 => Ev (mthD S2 m x xs) P) : Ev (ev c (.mth o m es) env S) P := by
  obtain ⟨x, S1, h1, hl, xs, S2, h2, d, S3, h3, k⟩ := h
  exact ⟨d, S3, by rw [ev, h1]; show (if isLs2 S1 x = true then _ else _) = _; rw [if_pos hl, h2]; exact h3, k⟩
theorem ev_call {f : Str} {es : Exs} (h : Es (evs c es env S) fun xs S1 => Ev (c.fn f xs S1) P) : Ev (ev c (.call f es) env S) P := by
  obtain ⟨xs, S1, h1, d, S2, h2, k⟩ := h
  refine ⟨d, S2, ?_, k⟩
  rw [ev, h1]; exact h2
theorem ev_blt {f : Bi} {es : Exs} (h : Es (evs c es env S) fun xs S1 => Op (bltD S1 f xs) fun d => P d S1) : Ev (ev c (.blt f es) env S) P := by
  obtain ⟨xs, S1, h1, d, h2, k⟩ := h
  refine ⟨d, S1, ?_, k⟩
  rw [ev, h1]; show (bltD S1 f xs).map _ = _; rw [h2]; rfl
theorem g_nm {i : Nat} {d : D} (k : G (env.set i (some d)) S) : Eg (asg c (.name i) d env S) G := ⟨_, S, by rw [asg], k⟩
theorem g_tp {ts : Tgs} {ds : List D} (k : Eg (asgs c ts ds env S) G) : Eg (asg c (.tup ts) (.tup ds) env S) G := by
  obtain ⟨e, S1, h1, k⟩ := k
  exact ⟨e, S1, h1, k⟩
theorem gs_nil (k : G env S) : Eg (asgs c .nil [] env S) G := ⟨env, S, by rw [asgs], k⟩
theorem gs_cons {t : Tg} {ts : Tgs} {d : D} {ds : List D} (h : Eg (asg c t d env S) fun e1 S1 => Eg (asgs c ts ds e1 S1) G) : Eg (asgs c (.cons t ts) (d :: ds) env S) G := by
  obtain ⟨e1, S1, h1, e2, S2, h2, k⟩ := h
  exact ⟨e2, S2, by rw [asgs, h1]; exact h2, k⟩
theorem g_sb {o i : Ex} {d : D} (h : Ev (ev c o env S) fun x S1 => Ev (ev c i env S1) fun y S2 => ∃ n kk ds j, x = .ref n ∧ y = .int kk ∧ S2[n]? = some (.lst ds) ∧ L2.ixN ds.length kk = some j ∧ G env (S2.set n (.lst (ds.set j d)))) : Eg (asg c (.sub o i) d env S) G := by
  obtain ⟨x, S1, h1, y, S2, h2, n, kk, ds, j, rfl, rfl, h3, h4, k⟩ := h
  refine ⟨env, _, ?_, k⟩
  rw [asg, h1]; show (ev c i env S1).bind _ = _; rw [h2]; show (match S2[n]? with | some (.lst ds) => (L2.ixN ds.length kk).map fun j => (env, S2.set n (.lst (ds.set j d))) | some (.dk kvs) => (if kvs.length < line then some (env, S2.set n (.dk (putD kvs (.inl kk) d))) else none) | _ => none) = _
  rw [h3]; show (L2.ixN ds.length kk).map _ = _; rw [h4]; rfl
theorem g_sbn {o i : Ex} {d : D} (h : Ev (ev c o env S) fun x S1 => Ev (ev c i env S1) fun y S2 => ∃ n kk ds j ds', x = .ref n ∧ y = .int kk ∧ S2[n]? = some (.lst ds) ∧ L2.ixN ds.length kk = some j ∧ ds.set j d = ds' ∧
    ∀ S3 : Sto, S3[n]? = some (.lst ds') → (∀ m : Nat, m ≠ n → S3[m]? = S2[m]?) → S3.length = S2.length → G env S3) : Eg (asg c (.sub o i) d env S) G := by
  obtain ⟨x, S1, h1, y, S2, h2, n, kk, ds, j, ds', rfl, rfl, h3, h4, h5, k⟩ := h
  refine g_sb ⟨_, S1, h1, _, S2, h2, n, kk, ds, j, rfl, rfl, h3, h4, ?_⟩
  rw [h5]
  have hr : n < S2.length := (List.getElem?_eq_some_iff.mp h3).1
  exact k _ (List.getElem?_set_self hr) (fun m hm => List.getElem?_set_ne (Ne.symm hm)) (by simp)
theorem then_nx {ss : Sms} {e : En} (k : Fo (evSs c W ss e S) Q) : thenK c W ss Q (.nx e S) := k
theorem then_rt {ss : Sms} {d : D} (k : Q (.rt d S)) : thenK c W ss Q (.rt d S) := k
theorem fin_rt {d : D} (k : P d S) : finK P (.rt d S) := k
theorem o_nil (k : Q (.nx env S)) : Fo (evSs c W .nil env S) Q := ⟨_, by rw [evSs], k⟩
theorem o_cons {s : Sm} {ss : Sms} (h : Fo (evS c W s env S) (thenK c W ss Q)) : Fo (evSs c W (.cons s ss) env S) Q := by
  obtain ⟨f, h1, k⟩ := h
  cases f with
  | nx e S1 =>
    obtain ⟨g, h2, k⟩ := k
    exact ⟨g, by rw [evSs, h1]; exact h2, k⟩
  | rt d S1 => exact ⟨_, by rw [evSs, h1]; rfl, k⟩
  | bk d S1 => exact ⟨_, by rw [evSs, h1]; rfl, k⟩
  | ct d S1 => exact ⟨_, by rw [evSs, h1]; rfl, k⟩
theorem o_asg {t : Tg} {e : Ex} (h : Ev (ev c e env S) fun x S1 => Eg (asg c t x env S1) fun e2 S2 => Q (.nx e2 S2)) : Fo (evS c W (.asg t e) env S) Q := by
  obtain ⟨x, S1, h1, e2, S2, h2, k⟩ := h
  exact ⟨_, by rw [evS, h1]; show (asg c t x env S1).map _ = _; rw [h2]; rfl, k⟩
theorem o_ex {e : Ex} (h : Ev (ev c e env S) fun x S1 => Q (.nx env S1)) : Fo (evS c W (.ex e) env S) Q := by
  obtain ⟨x, S1, h1, k⟩ := h
  exact ⟨_, by rw [evS, h1]; rfl, k⟩
theorem o_ret {e : Ex} (h : Ev (ev c e env S) fun x S1 => Q (.rt x S1)) : Fo (evS c W (.ret e) env S) Q := by
  obtain ⟨x, S1, h1, k⟩ := h
  exact ⟨_, by rw [evS, h1]; rfl, k⟩
theorem o_ifs {x : Ex} {a b : Sms} (h : Ev (ev c x env S) fun x S1 => Op (truth S1 x) fun t => (t = true → Fo (evSs c W a env S1) Q) ∧ (t = false → Fo (evSs c W b env S1) Q)) : Fo (evS c W (.ifs x a b) env S) Q := by
  obtain ⟨x', S1, h1, t, h2, k1, k2⟩ := h
  cases t with
  | true =>
    obtain ⟨f, h3, k⟩ := k1 rfl
    exact ⟨f, by rw [evS, evT_of h1 h2]; exact h3, k⟩
  | false =>
    obtain ⟨f, h3, k⟩ := k2 rfl
    exact ⟨f, by rw [evS, evT_of h1 h2]; exact h3, k⟩
theorem o_cut {o : Option Fl} (R : Fl → Prop) (h : Fo o R) (k : ∀ fl, R fl → Q fl) : Fo o Q := by
  obtain ⟨f, e, r⟩ := h
  exact ⟨f, e, k f r⟩
def turnK (N : En → Sto → Prop) (Q : Fl → Prop) : Fl → Prop
  | .nx e S => N e S
  | .ct e S => N e S
  | .bk e S => Q (.nx e S)
  | .rt d S => Q (.rt d S)
theorem turn_nx {N : En → Sto → Prop} {e : En} (k : N e S) : turnK N Q (.nx e S) := k
theorem o_for {t : Tg} {it : Itx} {b : Sms} (ds : List D) (S1 : Sto) (hi : evI c it env S = some (.vs ds, S1)) (Pv : Nat → En → Sto → Prop) (h0 : Pv 0 env S1)
    (hs : ∀ (i : Nat) (d : D) (e2 : En) (S2 : Sto), ds[i]? = some d → Pv i e2 S2 → Eg (asg c t d e2 S2) fun e3 S3 => Fo (evSs c W b e3 S3) (turnK (Pv (i + 1)) Q)) (hd : ∀ e2 S2, Pv ds.length e2 S2 → Q (.nx e2 S2)) : Fo (evS c W (.fr t it b) env S) Q := by
  suffices gen : ∀ (n i : Nat) e2 S2, i ≤ ds.length → n = ds.length - i → Pv i e2 S2 → Fo (forL (.vs ds) (fun d e1 S1 => (asg c t d e1 S1).bind fun q => evSs c W b q.1 q.2) (n + 1) i e2 S2) Q by
    obtain ⟨f, h1, k⟩ := gen ds.length 0 env S1 (Nat.zero_le _) rfl h0
    refine ⟨f, ?_, k⟩
    rw [evS, hi]
    exact h1
  intro n
  induction n with
  | zero =>
    intro i e2 S2 hle hn hp
    have e : i = ds.length := by lia
    subst e
    refine ⟨.nx e2 S2, ?_, hd e2 S2 hp⟩
    rw [forL]
    show (some ds[ds.length]?).bind _ = _
    rw [List.getElem?_eq_none (Nat.le_refl _)]
    rfl
  | succ n ih =>
    intro i e2 S2 hle hn hp
    have hlt : i < ds.length := by lia
    have hdd : ds[i]? = some ds[i] := List.getElem?_eq_getElem hlt
    obtain ⟨e3, S3, h1, f, h2, k⟩ := hs i _ e2 S2 hdd hp
    have hst : (asg c t ds[i] e2 S2).bind (fun q => evSs c W b q.1 q.2) = some f := by rw [h1]; exact h2
    have un : ∀ X, (match some f with
      | some (.nx e1 S1) => forL (.vs ds) (fun d e1 S1 => (asg c t d e1 S1).bind fun q => evSs c W b q.1 q.2) (n + 1) (i + 1) e1 S1
      | some (.ct e1 S1) => forL (.vs ds) (fun d e1 S1 => (asg c t d e1 S1).bind fun q => evSs c W b q.1 q.2) (n + 1) (i + 1) e1 S1
      | some (.bk e1 S1) => some (.nx e1 S1)
      | some (.rt d S1) => some (.rt d S1)
      | none => none) = X → forL (.vs ds) (fun d e1 S1 => (asg c t d e1 S1).bind fun q => evSs c W b q.1 q.2) (n + 1 + 1) i e2 S2 = X := fun X hX => by
      rw [forL]
      show (some ds[i]?).bind _ = _
      rw [hdd]
      rw [← hst] at hX
      exact hX
    cases f with
    | nx e4 S4 =>
      obtain ⟨g, h5, k5⟩ := ih (i + 1) e4 S4 hlt (by lia) k
      exact ⟨g, un _ h5, k5⟩
    | ct e4 S4 =>
      obtain ⟨g, h5, k5⟩ := ih (i + 1) e4 S4 hlt (by lia) k
      exact ⟨g, un _ h5, k5⟩
    | bk e4 S4 => exact ⟨_, un _ rfl, k⟩
    | rt d4 S4 => exact ⟨_, un _ rfl, k⟩
def Et (o : Option (Bool × Sto)) (P : Bool → Sto → Prop) : Prop := ∃ b S, o = some (b, S) ∧ P b S
theorem et_nil {P : Bool → Sto → Prop} (k : P true S) : Et (evTs c .nil env S) P := ⟨_, S, by rw [evTs], k⟩
theorem et_cons {e : Ex} {es : Exs} {P : Bool → Sto → Prop} (h : Ev (ev c e env S) fun x S1 => Op (truth S1 x) fun t => (t = true → Et (evTs c es env S1) P) ∧ (t = false → P false S1)) : Et (evTs c (.cons e es) env S) P := by
  obtain ⟨x, S1, h1, t, h2, k1, k2⟩ := h
  cases t with
  | true =>
    obtain ⟨b, S2, h3, k⟩ := k1 rfl
    refine ⟨b, S2, ?_, k⟩
    rw [evTs, h1]; show (truth S1 x).bind _ = _; rw [h2]; exact h3
  | false =>
    refine ⟨false, S1, ?_, k2 rfl⟩
    rw [evTs, h1]; show (truth S1 x).bind _ = _; rw [h2]; rfl
theorem el_comp {own : Nat} {caps : List Nat} {t : Tg} {it : Itx} {ifs : Exs} {elt : Ex} (r : Sr) (ds : List D) (S1 : Sto) (hi : evI c it env S = some (r, S1)) (Pv : Nat → En → Sto → List D → Prop) (h0 : Pv 0 (compEn own caps env) S1 [])
    (hr : r = .vs ds ∨ (ds.length ≤ line ∧ ∃ m, r = .rf m ∧ ∀ i e2 S2 acc, Pv i e2 S2 acc → S2[m]? = some (.lst ds)))
    (hs : ∀ (i : Nat) (d : D) (e2 : En) (S2 : Sto) (acc : List D), ds[i]? = some d → Pv i e2 S2 acc → Eg (asg c t d e2 S2) fun e3 S3 => Et (evTs c ifs e3 S3) fun b S4 => (b = true → Ev (ev c elt e3 S4) fun x S5 => acc.length < line ∧ Pv (i + 1) e3 S5 (acc ++ [x])) ∧ (b = false → Pv (i + 1) e3 S4 acc))
    (hd : ∀ e2 S2 acc, Pv ds.length e2 S2 acc → R acc S2) : Es (evL c (.comp own caps t it ifs elt) env S) R := by
  have nx : ∀ i e2 S2 acc, Pv i e2 S2 acc → r.nx i S2 = some ds[i]? := fun i e2 S2 acc hp => by
    rcases hr with rfl | ⟨_, m, rfl, hm⟩
    · rfl
    · show (items S2 (.ref m)).map (fun ds' => ds'[i]?) = _
      rw [items, hm _ _ _ _ hp]; rfl
  have fu : ds.length < r.fuel := by
    rcases hr with rfl | ⟨hl, m, rfl, hm⟩
    · exact Nat.lt_succ_self _
    · have e : (Sr.rf m).fuel = line + 2 := rfl
      rw [e]; lia
  suffices gen : ∀ (n i m : Nat) e2 S2 acc, i ≤ ds.length → n = ds.length - i → n < m → Pv i e2 S2 acc → ∃ acc' S3, compL r (stepC (fun d e S => asg c t d e S) (fun e S => evTs c ifs e S) (fun e S => ev c elt e S)) m i e2 S2 acc = some (acc', S3) ∧ R acc' S3 by
    obtain ⟨acc', S3, h1, k⟩ := gen ds.length 0 r.fuel _ S1 [] (Nat.zero_le _) rfl fu h0
    refine ⟨acc', S3, ?_, k⟩
    rw [evL, hi]
    exact h1
  intro n
  induction n with
  | zero =>
    intro i m e2 S2 acc hle hn hm hp
    have e : i = ds.length := by lia
    subst e
    obtain ⟨m, rfl⟩ : ∃ m', m = m' + 1 := ⟨m - 1, by lia⟩
    refine ⟨acc, S2, ?_, hd e2 S2 acc hp⟩
    rw [compL, nx _ _ _ _ hp, List.getElem?_eq_none (Nat.le_refl _)]
    rfl
  | succ n ih =>
    intro i m e2 S2 acc hle hn hm hp
    have hlt : i < ds.length := by lia
    have hdd : ds[i]? = some ds[i] := List.getElem?_eq_getElem hlt
    obtain ⟨m, rfl⟩ : ∃ m', m = m' + 1 := ⟨m - 1, by lia⟩
    obtain ⟨e3, S3, h1, b, S4, h2, kt, kf⟩ := hs _ _ e2 S2 acc hdd hp
    rw [compL, nx _ _ _ _ hp, hdd]
    cases b with
    | true =>
      obtain ⟨x, S5, h3, hz, k⟩ := kt rfl
      have hst : stepC (fun d e S => asg c t d e S) (fun e S => evTs c ifs e S) (fun e S => ev c elt e S) ds[i] e2 S2 = some (some x, e3, S5) := by
        unfold stepC; dsimp only; rw [h1]; show (evTs c ifs e3 S3).bind _ = _; rw [h2]; show (ev c elt e3 S4).map _ = _; rw [h3]; rfl
      obtain ⟨acc', S6, h6, k6⟩ := ih (i + 1) m e3 S5 (acc ++ [x]) hlt (by lia) (by lia) k
      refine ⟨acc', S6, ?_, k6⟩
      show (stepC _ _ _ ds[i] e2 S2).bind _ = _
      rw [hst]
      show (if acc.length < line then _ else _) = _
      rw [if_pos hz]; exact h6
    | false =>
      have hst : stepC (fun d e S => asg c t d e S) (fun e S => evTs c ifs e S) (fun e S => ev c elt e S) ds[i] e2 S2 = some (none, e3, S4) := by
        unfold stepC; dsimp only; rw [h1]; show (evTs c ifs e3 S3).bind _ = _; rw [h2]; rfl
      obtain ⟨acc', S6, h6, k6⟩ := ih (i + 1) m e3 S4 acc hlt (by lia) (by lia) (kf rfl)
      refine ⟨acc', S6, ?_, k6⟩
      show (stepC _ _ _ ds[i] e2 S2).bind _ = _
      rw [hst]; exact h6
theorem ev_fn {T : Tab} {k : Nat} {f : Str} {fi : FI} {ds : List D} (hl : T.lookup f = some fi) (hp : ds.length = fi.ps) (h : Fo (evSs (callN T W k) W fi.body (startE fi.nn ds) S) (finK P)) : Ev ((callN T W (k + 1)).fn f ds S) P := by
  obtain ⟨fl, h1, k⟩ := h
  unfold Ev
  rw [call_eq hl hp, h1]
  cases fl with
  | rt d S1 => exact ⟨d, S1, rfl, k⟩
  | nx e S1 => exact ⟨.non, S1, rfl, k⟩
  | bk e S1 => exact k.elim
  | ct e S1 => exact k.elim
variable {i j : Int} {PD : D → Prop} {PB : Bool → Prop}
theorem p_add (k : PD (.int (i + j))) : Op (binop S .Add (.int i) (.int j)) PD := ⟨_, rfl, k⟩
theorem p_sub (k : PD (.int (i - j))) : Op (binop S .Sub (.int i) (.int j)) PD := ⟨_, rfl, k⟩
theorem p_mull (h1 : -(2 ^ 64) < i) (h2 : i < 2 ^ 64) (k : PD (.int (i * j))) : Op (binop S .Mult (.int i) (.int j)) PD := ⟨_, mul_small_l h1 h2, k⟩
theorem p_mulr (h1 : -(2 ^ 64) < j) (h2 : j < 2 ^ 64) (k : PD (.int (i * j))) : Op (binop S .Mult (.int i) (.int j)) PD := ⟨_, mul_small_r h1 h2, k⟩
theorem p_mod (h : 0 < j) (k : PD (.int (i % j))) : Op (binop S .Mod (.int i) (.int j)) PD := ⟨_, mod_pos h, k⟩
theorem p_fdiv (h : 0 < j) (h2 : j ≤ 10 ^ 70) (k : PD (.int (i / j))) : Op (binop S .FloorDiv (.int i) (.int j)) PD := ⟨_, fdiv_pos h h2, k⟩
theorem p_pow10 {n v : Int} (h : 0 ≤ n) (h2 : n ≤ 1000) (hv : (10 : Int) ^ n.toNat = v) (k : PD (.int v)) : Op (binop S .Pow (.int 10) (.int n)) PD := ⟨_, pow10 h h2, by rw [hv]; exact k⟩
theorem c_lt (k : PB (decide (i < j))) : Op (cmpop S .Lt (.int i) (.int j)) PB := ⟨_, rfl, k⟩
theorem c_gt (k : PB (decide (j < i))) : Op (cmpop S .Gt (.int i) (.int j)) PB := ⟨_, rfl, k⟩
theorem c_ge (k : PB (decide (j ≤ i))) : Op (cmpop S .GtE (.int i) (.int j)) PB := ⟨_, rfl, k⟩
theorem c_eqi (k : PB (decide (i = j))) : Op (cmpop S .Eq (.int i) (.int j)) PB := by
  refine ⟨_, rfl, ?_⟩
  have e : decide (D.int i = D.int j) = decide (i = j) := by simp
  rw [e]; exact k
theorem t_bl {b : Bool} (k : PB b) : Op (truth S (.bl b)) PB := ⟨_, rfl, k⟩
theorem two_of {p : Prop} [Decidable p] {A B : Prop} (h1 : p → A) (h2 : ¬ p → B) : (decide p = true → A) ∧ (decide p = false → B) := ⟨fun h => h1 (of_decide_eq_true h), fun h => h2 (of_decide_eq_false h)⟩
theorem two_t {A B : Prop} (h : A) : (true = true → A) ∧ (true = false → B) := ⟨fun _ => h, fun z => nomatch z⟩
theorem two_f {A B : Prop} (h : B) : (false = true → A) ∧ (false = false → B) := ⟨fun z => (nomatch z), fun _ => h⟩
theorem two_nt {A B : Prop} (h : A) : ((!false) = true → A) ∧ ((!false) = false → B) := ⟨fun _ => h, fun z => nomatch z⟩
theorem two_nf {A B : Prop} (h : B) : ((!true) = true → A) ∧ ((!true) = false → B) := ⟨fun z => (nomatch z), fun _ => h⟩
theorem sub_lst {ds : List D} {d : D} (h : L2.atI ds i = some d) (k : PD d) : Op (subD S (.lst ds) (.int i)) PD := ⟨d, h, k⟩
theorem sub_tup {ds : List D} {d : D} (h : L2.atI ds i = some d) (k : PD d) : Op (subD S (.tup ds) (.int i)) PD := ⟨d, h, k⟩
theorem sub_ref {n : Nat} {ds : List D} {d : D} (hS : S[n]? = some (.lst ds)) (h : L2.atI ds i = some d) (k : PD d) : Op (subD S (.ref n) (.int i)) PD := ⟨d, by show (items S (.ref n)).bind (fun ds => L2.atI ds i) = some d; rw [items, hS]; exact h, k⟩
end
end PF
namespace PF
open PySem L2
def Gr (S S' : Sto) : Prop := ∃ z, S' = S ++ z
theorem Gr.refl {S : Sto} : Gr S S := ⟨[], by simp⟩
theorem Gr.trans {S S1 S2 : Sto} (a : Gr S S1) (b : Gr S1 S2) : Gr S S2 := by
  obtain ⟨z, rfl⟩ := a
  obtain ⟨y, rfl⟩ := b
  exact ⟨z ++ y, by simp⟩
theorem Gr.one {S : Sto} {o : Ob} : Gr S (S ++ [o]) := ⟨[o], rfl⟩
theorem Gr.get {S S' : Sto} (g : Gr S S') {r : Nat} {o : Ob} (h : S[r]? = some o) : S'[r]? = some o := by
  obtain ⟨z, rfl⟩ := g
  rw [List.getElem?_append_left (List.getElem?_eq_some_iff.mp h).1]; exact h
def Fr (r : Nat) (S S' : Sto) : Prop := S.length ≤ S'.length ∧ ∀ m, m < S.length → m ≠ r → S'[m]? = S[m]?
theorem fr_of {r : Nat} {S S' : Sto} (hl : S'.length = S.length) (ho : ∀ m : Nat, m ≠ r → S'[m]? = S[m]?) : Fr r S S' := ⟨by omega, fun m _ hm => ho m hm⟩
theorem get_new {S : Sto} {o : Ob} : (S ++ [o])[S.length]? = some o := by simp
theorem set_new {S : Sto} {o o' : Ob} : (S ++ [o]).set S.length o' = S ++ [o'] := by simp
section
variable {c : Cl} {W : Nat} {env : En} {S : Sto} {P : D → Sto → Prop} {Q : Fl → Prop} {G : En → Sto → Prop} {i j : Int} {PD : D → Prop} {PB : Bool → Prop}
theorem op_blt {b : Bi} {ds : List D} {d : D} (h : bltD S b ds = some d) (k : PD d) : Op (bltD S b ds) PD := ⟨d, h, k⟩
theorem op_slc {x d : D} {lo hi : Option Int} (h : sliceD S x lo hi = some d) (k : PD d) : Op (sliceD S x lo hi) PD := ⟨d, h, k⟩
theorem m_append {r : Nat} {ds : List D} {d : D} (h : S[r]? = some (.lst ds)) (hz : ds.length < line) (k : P .non (S.set r (.lst (ds ++ [d])))) : Ev (mthD S .append (.ref r) [d]) P := by
  refine ⟨_, _, ?_, k⟩
  show (items S (.ref r)).bind _ = _
  rw [items, h]
  show (if ds.length < line then _ else _) = _
  rw [if_pos hz]
theorem b_lenr {r : Nat} {ds : List D} (h : S[r]? = some (.lst ds)) (k : PD (.int ds.length)) : Op (bltD S .len [.ref r]) PD := by
  refine ⟨_, ?_, k⟩
  show (match S[r]? with
    | some (.lst ds) => some (D.int ds.length)
    | some (.dt kvs) => some (D.int kvs.length)
    | _ => none) = _
  rw [h]
theorem c_nei (k : PB (!decide (i = j))) : Op (cmpop S .NotEq (.int i) (.int j)) PB := by
  refine ⟨_, rfl, ?_⟩
  have e : decide (D.int i = D.int j) = decide (i = j) := by simp
  rw [e]; exact k
theorem ten_big {n : Nat} (h : n ≤ 3840) : ((10 : Int) ^ n).natAbs < 2 ^ 100000 := by
  rw [Int.natAbs_pow]
  have h1 : Int.natAbs 10 ^ n ≤ 16 ^ n := Nat.pow_le_pow_left (by decide) n
  have h2 : (16 : Nat) ^ n = 2 ^ (4 * n) := by rw [show (16 : Nat) = 2 ^ 4 by decide, ← Nat.pow_mul]
  have h3 : (2 : Nat) ^ (4 * n) < 2 ^ 100000 := Nat.pow_lt_pow_right (by decide) (by omega)
  omega
theorem mul1010 : binop S .Mult (.int 1000000000000000000000000000000000000000000000000000000000000) (.int 1000000000000000000000000000000000000000000000000000000000000) = some (.int 1000000000000000000000000000000000000000000000000000000000000000000000000000000000000000000000000000000000000000000000000) := by
  have h : ((1000000000000000000000000000000000000000000000000000000000000 : Int)).natAbs < 2 ^ 100000 := ten_big (n := 60) (by decide)
  rw [mul_big h h]; clear h; simp only [Int.reduceMul]
theorem pow60 : binop S .Pow (.int 10) (.int 60) = some (.int 1000000000000000000000000000000000000000000000000000000000000) := by
  rw [pow10 (by decide) (by decide)]; rfl
theorem ev_p60 (k : P (.int 1000000000000000000000000000000000000000000000000000000000000000000000000000000000000000000000000000000000000000000000000) S) : Ev (ev c (.bin .Mult (.bin .Pow (.int 10) (.int 60)) (.bin .Pow (.int 10) (.int 60))) env S) P :=
  ev_bin (ev_bin (ev_int (ev_int ⟨_, pow60, ev_bin (ev_int (ev_int ⟨_, pow60, ⟨_, mul1010, k⟩⟩))⟩)))
theorem ev_dinT {es : Exs} {o : Ex} (h : Es (evs c es env S) fun xs S1 => xs.length ≤ line ∧ Ev (ev c o env S1) fun x S2 => ∃ n kvs ks, x = .ref n ∧ S2[n]? = some (.dt kvs) ∧ keysT xs = some ks ∧ P (.bl (kvs.any fun kv => decide (kv.1 = ks))) S2) : Ev (ev c (.dinT es o) env S) P := by
  obtain ⟨xs, S1, h1, hz, x, S2, h2, n, kvs, ks, rfl, h3, h4, k⟩ := h
  refine ⟨_, S2, ?_, k⟩
  rw [ev, h1]
  show (if xs.length ≤ line then _ else _) = _
  rw [if_pos hz, h2]
  show (match S2[n]? with | some (.dt kvs) => some kvs | _ => none).bind _ = _
  rw [h3]
  show (keysT xs).map _ = _
  rw [h4]; rfl
theorem el_lrng2 {a b : Ex} {R : List D → Sto → Prop} (h : Ev (ev c a env S) fun x S1 => Ev (ev c b env S1) fun y S2 => ∃ i j, x = .int i ∧ y = .int j ∧ (-(2 ^ 62) ≤ i ∧ i < 2 ^ 62 ∧ -(2 ^ 62) ≤ j ∧ j < 2 ^ 62 ∧ j - i ≤ 1000000) ∧ R ((List.range (j - i).toNat).map fun (k : Nat) => D.int (i + (k : Int))) S2) : Es (evL c (.lrng2 a b) env S) R := by
  obtain ⟨x, S1, h1, y, S2, h2, i, j, rfl, rfl, hz, k⟩ := h
  refine ⟨_, S2, ?_, k⟩
  rw [evL, h1]
  show (ev c b env S1).bind _ = _
  rw [h2]
  show (if -(2 ^ 62) ≤ i ∧ i < 2 ^ 62 ∧ -(2 ^ 62) ≤ j ∧ j < 2 ^ 62 ∧ j - i ≤ 1000000 then _ else _) = _
  rw [if_pos hz]
theorem dt_of_get {n : Nat} {kvs : List (List Key × D)} (h : S[n]? = some (.dt kvs)) : dtOf S (.ref n) = some kvs := by
  show (match S[n]? with | some (.dt kvs) => some kvs | _ => none) = _
  rw [h]
theorem ev_dget {o f : Ex} {es : Exs} (h : Ev (ev c o env S) fun x S1 => ∃ n kvs0, x = .ref n ∧ S1[n]? = some (.dt kvs0) ∧ Es (evs c es env S1) fun xs S2 => xs.length ≤ line ∧ Ev (ev c f env S2) fun z S3 => ∃ kvs ks, S3[n]? = some (.dt kvs) ∧ keysT xs = some ks ∧ P ((valD kvs ks).getD z) S3) : Ev (ev c (.dget o es f) env S) P := by
  obtain ⟨x, S1, h1, n, kvs0, rfl, h2, xs, S2, h3, hz, z, S3, h4, kvs, ks, h5, h6, k⟩ := h
  refine ⟨_, S3, ?_, k⟩
  rw [ev, h1]
  show (dtOf S1 (.ref n)).bind _ = _
  rw [dt_of_get h2]
  show (evs c es env S1).bind _ = _
  rw [h3]
  show (if xs.length ≤ line then _ else none) = _
  rw [if_pos hz, h4]
  show (dtOf S3 (.ref n)).bind _ = _
  rw [dt_of_get h5]
  show (keysT xs).map _ = _
  rw [h6]
  rfl
theorem ev_notB {a : Ex} {b : Bool} (h : Ev (ev c a env S) fun x S1 => ∃ y, x = .bl y ∧ P (.bl (!(y == b))) S1) : Ev (ev c (.notB a b) env S) P := by
  obtain ⟨x, S1, h1, y, rfl, k⟩ := h
  exact ⟨_, S1, by rw [ev, h1]; rfl, k⟩
theorem two_bn {p : Prop} [Decidable p] {A B : Prop} (h1 : p → B) (h2 : ¬ p → A) : ((!decide p) = true → A) ∧ ((!decide p) = false → B) := by
  by_cases h : p
  · rw [decide_eq_true h]; exact ⟨fun z => (nomatch z), fun _ => h1 h⟩
  · rw [decide_eq_false h]; exact ⟨fun _ => h2 h, fun z => (nomatch z)⟩
theorem rng_get {n i : Nat} {d : D} (h : ((List.range n).map fun (k : Nat) => D.int (0 + (k : Int)))[i]? = some d) : i < n ∧ d = .int i := by
  have hi : i < n := by
    have := (List.getElem?_eq_some_iff.mp h).1
    simpa using this
  refine ⟨hi, ?_⟩
  rw [List.getElem?_map, List.getElem?_range hi] at h
  have := (Option.some.inj h).symm
  rw [this]; simp
theorem rng_ev {e : Ex} {S' : Sto} {z : Int} (he : ev c e env S = some (.int z, S')) (z1 : -(2 ^ 62) ≤ z) (z2 : z < 2 ^ 62) : evI c (.rng1 e) env S = some (.vs ((List.range z.toNat).map fun (k : Nat) => D.int (0 + (k : Int))), S') := by
  rw [evI, he]; show (if -(2 ^ 62) ≤ z ∧ z < 2 ^ 62 then _ else _) = _; rw [if_pos ⟨z1, z2⟩]
theorem o_rng1 {t : Tg} {a : Ex} {b : Sms} (h : Ev (ev c a env S) fun d S1 => ∃ (z : Int) (Pv : Nat → En → Sto → Prop), d = .int z ∧ -(2 ^ 62) ≤ z ∧ z < 2 ^ 62 ∧ Pv 0 env S1 ∧
      (∀ (i : Nat) (e2 : En) (S2 : Sto), i < z.toNat → Pv i e2 S2 → Eg (asg c t (.int i) e2 S2) fun e3 S3 => Fo (evSs c W b e3 S3) (turnK (Pv (i + 1)) Q)) ∧ (∀ e2 S2, Pv z.toNat e2 S2 → Q (.nx e2 S2))) : Fo (evS c W (.fr t (.rng1 a) b) env S) Q := by
  obtain ⟨d, S1, h1, z, Pv, rfl, z1, z2, h0, hs, hd⟩ := h
  refine o_for _ S1 (by rw [evI, h1]; show (if -(2 ^ 62) ≤ z ∧ z < 2 ^ 62 then _ else _) = _; rw [if_pos ⟨z1, z2⟩]) Pv h0 ?_ ?_
  · intro i d e2 S2 hi hp
    obtain ⟨a1, rfl⟩ := rng_get hi
    exact hs i e2 S2 a1 hp
  · intro e2 S2 hp
    refine hd e2 S2 ?_
    simpa using hp
theorem o_seq {t : Tg} {e : Ex} {b : Sms} (h : Ev (ev c e env S) fun d S1 => ∃ (ds : List D) (Pv : Nat → En → Sto → Prop), vals d = some ds ∧ Pv 0 env S1 ∧
      (∀ (i : Nat) (d : D) (e2 : En) (S2 : Sto), ds[i]? = some d → Pv i e2 S2 → Eg (asg c t d e2 S2) fun e3 S3 => Fo (evSs c W b e3 S3) (turnK (Pv (i + 1)) Q)) ∧ (∀ e2 S2, Pv ds.length e2 S2 → Q (.nx e2 S2))) : Fo (evS c W (.fr t (.seq e) b) env S) Q := by
  obtain ⟨d, S1, h1, ds, Pv, hv, h0, hs, hd⟩ := h
  refine o_for ds S1 ?_ Pv h0 hs hd
  rw [evI, h1]
  cases d <;> first | (cases hv; done) | (cases hv; rfl)
end
end PF
open PySem L2 PF
local macro_rules | `(tactic| walk_at "s1") => `(tactic| first
  | with_reducible first
    | refine ev_var rfl ?_ | refine ev_int ?_ | refine ev_bin ?_ | refine ev_bl ?_ | refine ev_str ?_ | refine p_add ?_ | refine p_sub ?_ | refine es_cons ?_ | refine es_nil ?_ | refine ev_call ?_ | refine ev_blt ?_ | refine o_cons ?_ | refine o_nil ?_ | refine o_asg ?_ | refine g_nm ?_ | refine then_nx ?_ | refine then_rt ?_ | refine fin_rt ?_ | refine o_ret ?_ | refine ev_cmp ?_ | refine ev_sub ?_ | refine ev_not ?_ | refine ev_and ?_ | refine ev_or ?_ | refine ev_isi ?_ | refine ev_isN ?_ | refine c_lt ?_ | refine c_gt ?_ | refine c_ge ?_ | refine c_eqi ?_ | refine c_nei ?_ | refine t_bl ?_ | refine ev_slc ?_ | refine eo_no ?_ | refine eo_yes ?_ | refine ev_neg ?_ | refine g_sbn ?_ | refine g_tp ?_ | refine gs_cons ?_ | refine gs_nil ?_ | refine ev_dget ?_ | refine o_ex ?_ | refine turn_nx ?_ | refine Op.mk blt_min ?_ | refine Op.mk blt_int_b ?_ | refine Op.mk blt_len_lst ?_ | refine Op.mk blt_len_tup ?_ | refine Op.mk isi_int_int ?_ | refine Op.mk isi_int_bool ?_ | refine two_t ?_ | refine two_f ?_ | refine two_nt ?_ | refine two_nf ?_ | refine ev_lv ?_ | refine ev_tup ?_ | refine ev_lr ?_ | refine el_dsp ?_ | refine el_blt ?_
  | (refine sub_ref (by with_reducible assumption) rfl ?_) | (refine sub_lst rfl ?_) | (refine sub_tup rfl ?_) | (refine p_mod (by first | with_reducible assumption | omega) ?_) | (refine p_fdiv (by omega) (by omega) ?_) | (refine p_mull (by omega) (by omega) ?_) | (refine p_mulr (by omega) (by omega) ?_) | (refine p_pow10 (by omega) (by omega) (by simp only [Int.reduceToNat, Int.reducePow]; rfl) ?_)
  | ((with_reducible refine' Exists.intro _ (Exists.intro _ (Exists.intro _ (Exists.intro _ (Exists.intro _ (And.intro rfl (And.intro rfl (And.intro ?ax (And.intro ?bx (And.intro ?cx ?dx)))))))))); (case ax => assumption); (case bx => exact rfl); (case cx => (simp only [Int.reduceToNat, List.set_cons_succ, List.set_cons_zero]; rfl)); intro Sn hSn hOn hLn) | (with_reducible refine And.intro (by simp only [List.length_cons, List.length_nil]; decide) ?_) | (refine op_blt rfl ?_) | (refine op_slc rfl ?_) | (with_reducible refine Exists.intro _ (And.intro rfl ?_)))
local macro_rules | `(tactic| walk_at "go") => `(tactic| repeat (walk_at "s1"))
local macro_rules | `(tactic| walk_at "st") => `(tactic| (dsimp only [startE, List.map_cons, List.map_nil, List.length_cons, List.length_nil, List.replicate, List.cons_append, List.nil_append, Nat.reduceSub, Nat.reduceAdd]; walk_at "go"))
local macro_rules | `(tactic| walk_at "r1") => `(tactic| first
  | with_reducible first
    | exact p_nil | refine p_cons ?_ ?_ | exact o_none | exact a_nil | exact gg_nil | exact tj_nil | refine q_ret ?_ | refine q_if ?_ ?_ ?_ | refine q_for (by assumption) ?_ ?_ ?_ | refine q_while (by assumption) ?_ ?_ | refine q_par (by assumption) ?_ ?_ ?_ ?_ ?_ | refine q_par3 (by assumption) ?_ ?_ ?_ ?_ ?_ ?_ ?_ | refine q_asgC (by assumption) ?_ ?_ ?_ | refine q_asg ?_ ?_ ?_ ?_ ?_ | refine q_ex ?_ ?_ | refine r_var (by assumption) ?_ ?_ ?_ | refine r_const ?_ | refine r_bin ?_ ?_ | refine r_cmp (by assumption) ?_ ?_ ?_ ?_ | refine r_cmp2 (by assumption) ?_ ?_ ?_ ?_ | refine r_notB ?_ | refine r_isN ?_ | refine r_not ?_ | refine r_neg ?_ | refine r_bool ?_ | refine b_and ?_ ?_ | refine b_or ?_ ?_ | refine b_one ?_ | refine r_slc ?_ ?_ ?_ | refine o_some ?_ | refine r_sub ?_ ?_ ?_ | refine r_tup ?_ | refine r_lv ?_ | refine r_lr ?_ | refine a_cons ?_ ?_ ?_ | refine r_dofT (by assumption) ?_ ?_ ?_ ?_ ?_ ?_ ?_ | refine r_isi (by assumption) ?_ ?_ ?_ ?_ ?_ | refine r_lrng2 (by assumption) ?_ ?_ ?_ ?_ ?_ ?_ | refine r_blt (by assumption) ?_ ?_ ?_ ?_ ?_ | refine r_bltL (by assumption) ?_ ?_ ?_ ?_ ?_ | refine r_call (by assumption) ?_ ?_ ?_ ?_ | refine r_dget (by assumption) ?_ ?_ ?_ ?_ ?_ ?_ | refine r_mth (by assumption) ?_ ?_ ?_ ?_ ?_ ?_ ?_ | refine r_compV (by assumption) ?_ | refine cr_mk (by assumption) ?_ ?_ ?_ ?_ ?_ | refine ii_rng1 (by assumption) ?_ ?_ ?_ | refine ii_zip (by assumption) ?_ ?_ ?_ ?_ ?_ ?_ | refine ii_enm (by assumption) ?_ ?_ ?_ ?_ | refine ii_seq ?_ ?_ | refine gg_name (by assumption) ?_ ?_ | refine gg_tup (by assumption) ?_ ?_ ?_ | refine gg_cons ?_ ?_ ?_ | refine gg_sub (by assumption) ?_ ?_ ?_ | refine tj_one ?_ | refine r_gl (by assumption) ?_ ?_
  | refine fun Y ry => ⟨?_, ?_, ?_⟩ | with_reducible assumption | decide +kernel | rfl | exact fun _ => rfl | with_reducible refine And.intro ?_ ?_)
namespace PF
open PySem PySem.Spec PyProof.Rows L2
def GlIn (K : Frag) (x : Str) (d : D) : Prop := ∃ (u : Value) (v : V), PySem.W.nsIn K mainGlobals x = some (some u) ∧ RelV v u ∧ ∀ mu H, RD K mu H d v
section
variable {K : Frag} {mg : Str → Option Value}
theorem gl_str {x s s' : Str} {tk : Tok} (h : PySem.W.nsIn K mainGlobals x = some (some (.str s' tk))) (e : s' = s) : GlIn K x (.str s) := by
  subst e
  exact ⟨_, .str s', h, ⟨tk, rfl⟩, fun mu H => by rw [RD]⟩
theorem gl_int {x : Str} {z : Int} {tk : Tok} (h : PySem.W.nsIn K mainGlobals x = some (some (.int z tk))) : GlIn K x (.int z) := ⟨_, .int z, h, ⟨tk, rfl⟩, fun mu H => by rw [RD]⟩
theorem gls_of {T : Tab} {h : Heap} (KX : K.In h) (G : h.Ns mainGlobals mg) (b : ∀ p ∈ T.gls, GlIn K p.1 p.2) : ∀ x d, T.gls.lookup x = some d → ∃ u v, mg x = some u ∧ RelV v u ∧ ∀ mu H, RD K mu H d v := fun x d hl => by
  obtain ⟨u, v, h1, h2, h3⟩ := b (x, d) (PySem.mem_of_lookup (l := T.gls) hl)
  exact ⟨u, v, PySem.W.mg_of KX G h1, h2, h3⟩
end
end PF
namespace LA
open PySem L2 PF
noncomputable def take : FI := ⟨2, 4, (.cons (.ifs (.cmp .Gt (.sub (.var 0) (.int (0))) (.int (0))) (.cons (.asg (.name 2) (.bin .Mod (.sub (.var 0) (.int (0))) (.var 1)))
    (.cons (.asg (.sub (.var 0) (.int (0))) (.bin .FloorDiv (.sub (.var 0) (.int (0))) (.var 1)))
    (.cons (.ret (.var 2))
    .nil))) .nil)
    (.cons (.asg (.sub (.var 0) (.int (2))) (.bin .Add (.sub (.var 0) (.int (2))) (.int (1))))
    (.cons (.asg (.name 3) (.bin .Mod (.bin .Mult (.bin .Add (.bin .Add (.sub (.var 0) (.int (1))) (.bin .Mult (.bin .Mult (.int (65537)) (.sub (.var 0) (.int (2)))) (.sub (.var 0) (.int (2))))) (.int (11))) (.int (48271))) (.int (2305843009213693921))))
    (.cons (.asg (.name 3) (.bin .Mod (.bin .Mult (.var 3) (.bin .Add (.bin .Mod (.var 3) (.int (1000003))) (.bin .Mult (.int (99991)) (.sub (.var 0) (.int (2)))))) (.int (2305843009213693907))))
    (.cons (.ret (.bin .Mod (.bin .Add (.bin .FloorDiv (.var 3) (.int (97))) (.bin .FloorDiv (.var 3) (.int (1000033)))) (.var 1)))
    .nil)))))⟩
noncomputable def hand : FI := ⟨2, 4, (.cons (.asg (.name 2) (.int (0)))
    (.cons (.ifs (.cmp .Lt (.var 1) (.blt .len (.cons (.var 0) .nil))) (.cons (.asg (.name 2) (.sub (.var 0) (.var 1)))
    .nil) .nil)
    (.cons (.asg (.name 3) (.bin .Mult (.bin .Mod (.var 2) (.bin .Mult (.bin .Pow (.int (10)) (.int (60))) (.bin .Pow (.int (10)) (.int (60))))) (.blt .int (.cons (.cmp .GtE (.var 2) (.bin .Pow (.int (10)) (.int (18)))) .nil))))
    (.cons (.ret (.lr (.dsp (.cons (.var 3) (.cons (.bin .Mod (.bin .Add (.bin .Add (.bin .Mod (.var 2) (.int (2305843009213693951))) (.bin .Mult (.int (7919)) (.var 1))) (.int (3))) (.int (2305843009213693951))) (.cons (.int (0)) .nil))))))
    .nil))))⟩
def St3 (S : Sto) (r : Nat) (B : Int) : Prop := ∃ a b n : Int, S[r]? = some (.lst [.int a, .int b, .int n]) ∧ 0 ≤ n ∧ n ≤ B
theorem St3.mono {S : Sto} {r : Nat} {B B' : Int} (h : St3 S r B) (hb : B ≤ B') : St3 S r B' := by
  obtain ⟨a, b, n, h1, h2, h3⟩ := h
  exact ⟨a, b, n, h1, h2, by omega⟩
theorem St3.gr {S S' : Sto} {r : Nat} {B : Int} (h : St3 S r B) (g : Gr S S') : St3 S' r B := by
  obtain ⟨a, b, n, h1, h2, h3⟩ := h
  exact ⟨a, b, n, g.get h1, h2, h3⟩
section
variable {T : Tab} {W k : Nat}
theorem take_ok (hT : T.lookup ("_law_take" : Str) = some take) {S : Sto} {r : Nat} {B m : Int} {P : D → Sto → Prop} (h : St3 S r B) (hB : B < 10 ^ 6) (hm : 0 < m) (hm2 : m ≤ 10 ^ 70) (kk : ∀ (d : Int) (S' : Sto), St3 S' r (B + 1) → Fr r S S' → 0 ≤ d → d < m → P (.int d) S') : Ev ((callN T W (k + 1)).fn "_law_take" [.ref r, .int m] S) P := by
  obtain ⟨a, b, n, hS, h0, h1⟩ := h
  have hr : r < S.length := (List.getElem?_eq_some_iff.mp hS).1
  refine ev_fn hT rfl ?_
  dsimp only [take]
  walk_at "st"
  refine o_ifs ?_
  walk_at "go"
  refine two_of (fun ha => ?_) (fun ha => ?_)
  · walk_at "go"
    exact kk _ _ ⟨_, _, _, by assumption, h0, by omega⟩ (fr_of (by assumption) (by assumption)) (Int.emod_nonneg _ (by omega)) (Int.emod_lt_of_pos _ hm)
  · walk_at "go"
    exact kk _ _ ⟨_, _, _, by assumption, by omega, by omega⟩ (fr_of (by assumption) (by assumption)) (Int.emod_nonneg _ (by omega)) (Int.emod_lt_of_pos _ hm)
theorem hand_ok (hT : T.lookup ("_law_hand" : Str) = some hand) {ns : List Int} {S : Sto} {q : Int} {P : D → Sto → Prop} (h0 : 0 ≤ q) (h1 : q ≤ 63) (kk : ∀ (S' : Sto), St3 S' S.length 0 → Gr S S' → P (.ref S.length) S') : Ev ((callN T W (k + 1)).fn "_law_hand" [.lst (ns.map D.int), .int q] S) P := by
  refine ev_fn hT rfl ?_
  dsimp only [hand]
  walk_at "st"
  refine o_cut (fun fl => ∃ (z : Int), fl = .nx [some (.lst (ns.map D.int)), some (.int q), some (.int z), none] S) ?_ ?_
  · refine o_ifs ?_
    walk_at "go"
    refine two_of (fun hp => ?_) (fun hp => ?_)
    · obtain ⟨z, hz0⟩ : ∃ z, atI (ns.map D.int) q = some (.int z) := by
        simp only [List.length_map] at hp
        have hl : q.toNat < ns.length := by omega
        obtain ⟨n, rfl⟩ : ∃ n : Nat, q = n := ⟨q.toNat, by omega⟩
        have hl' : n < ns.length := by simpa using hl
        exact ⟨ns[n], atI_nat (by rw [List.getElem?_map, List.getElem?_eq_getElem hl']; rfl)⟩
      walk_at "go"
      refine sub_lst hz0 ?_
      walk_at "go"
      exact ⟨z, rfl⟩
    · walk_at "go"
      exact ⟨0, rfl⟩
  · rintro fl ⟨z, rfl⟩
    refine then_nx (o_cons (o_asg (ev_bin (ev_bin (ev_var rfl (ev_p60 ?_))))))
    walk_at "go"
    exact kk _ ⟨_, _, 0, get_new, by omega, by omega⟩ Gr.one
end
end LA
namespace LC
open PySem L2 PF LA
noncomputable def same : FI := ⟨2, 2, (.cons (.ifs (.isi (.var 1) "tuple") (.cons (.ifs (.or (.not (.isi (.var 0) "tuple")) (.cmp .NotEq (.blt .len (.cons (.var 0) .nil)) (.blt .len (.cons (.var 1) .nil)))) (.cons (.ret (.bl false))
    .nil) .nil)
    (.cons (.ret (.blt .all (.cons (.lv (.comp 3 [] (.tup (.cons (.name 1) (.cons (.name 2) .nil))) (.zip (.var 0) (.var 1)) .nil (.call "_law_same" (.cons (.var 1) (.cons (.var 2) .nil))))) .nil)))
    .nil)) .nil)
    (.cons (.ifs (.isN (.var 1)) (.cons (.ret (.isN (.var 0)))
    .nil) .nil)
    (.cons (.ifs (.isi (.var 1) "str") (.cons (.ret (.and (.isi (.var 0) "str") (.cmp .Eq (.var 0) (.var 1))))
    .nil) .nil)
    (.cons (.ret (.and (.isi (.var 0) "int") (.and (.not (.isi (.var 0) "bool")) (.cmp .Eq (.var 0) (.var 1)))))
    .nil))))⟩
section
variable {T : Tab} {W k : Nat}
end
mutual
noncomputable def plain : D → Bool
  | .non => true
  | .int _ => true
  | .str x => decide (x.length ≤ line)
  | .tup ds => plains ds && decide (ds.length < line)
  | _ => false
noncomputable def plains : List D → Bool
  | [] => true
  | d :: ds => plain d && plains ds
end
mutual
noncomputable def dep : D → Nat
  | .tup ds => deps ds + 1
  | _ => 0
noncomputable def deps : List D → Nat
  | [] => 0
  | d :: ds => max (dep d) (deps ds)
end
theorem plains_get : ∀ {ds : List D} {i : Nat} {d : D}, plains ds = true → ds[i]? = some d → plain d = true ∧ dep d ≤ deps ds
  | [], i, d, _, h => by simp at h
  | e :: es, 0, d, hp, h => by
    rw [plains, Bool.and_eq_true] at hp
    simp at h; subst h
    exact ⟨hp.1, by rw [deps]; omega⟩
  | e :: es, i + 1, d, hp, h => by
    rw [plains, Bool.and_eq_true] at hp
    obtain ⟨a, b⟩ := plains_get hp.2 (by simpa using h)
    exact ⟨a, by rw [deps]; omega⟩
theorem bools_rep {n : Nat} : boolsD (List.replicate n (.bl true)) = some (List.replicate n true) := by
  induction n with
  | zero => rfl
  | succ n ih => rw [List.replicate_succ, boolsD, ih]; rfl
theorem all_lst {S : Sto} {ds : List D} {bs : List Bool} {b : Bool} (h : boolsD ds = some bs) (hb : bs.all id = b) : bltD S .all [.lst ds] = some (.bl b) := by
  show (boolsD ds).map _ = _
  rw [h]
  show some (D.bl (bs.all id)) = _
  rw [hb]
theorem look_tuple : isiTys.lookup ("tuple" : Str) = some "tuple" := by decide +kernel
theorem look_str : isiTys.lookup ("str" : Str) = some "str" := by decide +kernel
section
variable {T : Tab} {W k : Nat}
theorem isi_at {S : Sto} {d : D} {ty : Str} {u t : String} {PB : Bool → Prop} (hl : isiTys.lookup ty = some u) (ht : tyD S d = some t) (kk : PB (decide (t = u) || (decide (t = "bool") && decide (u = "int")))) : Op (isiD S d ty) PB := ⟨_, by rw [isiD, hl]; show (tyD S d).map _ = _; rw [ht]; rfl, kk⟩
theorem isi_t {S : Sto} {d : D} {ty : Str} {u : String} {PB : Bool → Prop} (hl : isiTys.lookup ty = some u) (ht : tyD S d = some u) (kk : PB true) : Op (isiD S d ty) PB := isi_at hl ht (by rw [decide_eq_true rfl]; exact kk)
theorem isi_f {S : Sto} {d : D} {ty : Str} {u t : String} {PB : Bool → Prop} (hl : isiTys.lookup ty = some u) (ht : tyD S d = some t) (hn : (decide (t = u) || (decide (t = "bool") && decide (u = "int"))) = false) (kk : PB false) : Op (isiD S d ty) PB := isi_at hl ht (by rw [hn]; exact kk)
theorem same_scal (hT : T.lookup ("_law_same" : Str) = some same) {d : D} {S : Sto} {P : D → Sto → Prop} (hp : plain d = true) (hd : dep d = 0) (kk : P (.bl true) S) : Ev ((callN T W (k + 1)).fn "_law_same" [d, d] S) P := by
  refine ev_fn hT rfl ?_
  dsimp only [same]
  walk_at "st"
  refine o_ifs ?_
  walk_at "go"
  cases d with
  | non =>
    refine isi_f look_tuple rfl (by decide) ?_
    walk_at "go"
    refine o_ifs ?_
    walk_at "go"
    rw [decide_eq_true rfl]
    walk_at "go"
    rw [decide_eq_true rfl]
    exact kk
  | int i =>
    refine isi_f look_tuple rfl (by decide) ?_
    walk_at "go"
    refine o_ifs ?_
    walk_at "go"
    rw [decide_eq_false (by intro z; cases z)]
    walk_at "go"
    refine o_ifs ?_
    walk_at "go"
    refine isi_f look_str rfl (by decide) ?_
    walk_at "go"
    rw [decide_eq_true rfl]
    exact kk
  | str x =>
    refine isi_f look_tuple rfl (by decide) ?_
    walk_at "go"
    refine o_ifs ?_
    walk_at "go"
    rw [decide_eq_false (by intro z; cases z)]
    walk_at "go"
    refine o_ifs ?_
    walk_at "go"
    refine isi_t look_str rfl ?_
    walk_at "go"
    refine isi_t look_str rfl ?_
    walk_at "go"
    refine Op.mk (a := true) ?_ ?_
    · show eqD S (.str x) (.str x) = _
      unfold eqD
      have e : scalD (D.str x) (D.str x) = true := rfl
      rw [if_pos e, decide_eq_true rfl]
    exact kk
  | tup ds => rw [dep] at hd; omega
  | _ => cases hp
theorem same_refl (hT : T.lookup ("_law_same" : Str) = some same) : ∀ (j : Nat) (d : D) {k : Nat} {S : Sto} {P : D → Sto → Prop}, plain d = true → dep d ≤ j → P (.bl true) S → Ev ((callN T W (k + j + 1)).fn "_law_same" [d, d] S) P := by
  intro j
  induction j with
  | zero =>
    intro d k S P hp hd kk
    exact same_scal hT hp (by omega) kk
  | succ j ih =>
    intro d k S P hp hd kk
    by_cases ht : ∃ ds, d = .tup ds
    · obtain ⟨ds, rfl⟩ := ht
      rw [plain, Bool.and_eq_true] at hp
      rw [dep] at hd
      refine ev_fn hT rfl ?_
      dsimp only [same]
      walk_at "st"
      refine o_ifs ?_
      walk_at "go"
      refine isi_t look_tuple rfl ?_
      walk_at "go"
      refine o_ifs ?_
      walk_at "go"
      refine isi_t look_tuple rfl ?_
      walk_at "go"
      refine two_bn (fun h => ?_) (fun h => absurd rfl h)
      walk_at "go"
      refine el_comp (.vs (List.zipWith (fun x y => D.tup [x, y]) ds ds)) (List.zipWith (fun x y => D.tup [x, y]) ds ds) S ?_ (fun i e2 S2 acc => S2 = S ∧ acc = List.replicate i (.bl true) ∧ i ≤ ds.length ∧ ∃ y0 y1 y2, e2 = [y0, y1, y2]) ⟨rfl, rfl, Nat.zero_le _, _, _, _, rfl⟩ (.inl rfl) ?_ ?_
      · rw [evI, ev]; rfl
      · rintro i d e2 S2 acc hd2 ⟨rfl, rfl, hi, y0, y1, y2, rfl⟩
        rw [List.getElem?_zipWith] at hd2
        have hil : i < ds.length := by
          cases q : ds[i]? with
          | none => rw [q] at hd2; cases hd2
          | some x => exact (List.getElem?_eq_some_iff.mp q).1
        obtain ⟨x, hx⟩ : ∃ x, ds[i]? = some x := ⟨_, List.getElem?_eq_getElem hil⟩
        rw [hx] at hd2
        have ed : d = .tup [x, x] := (Option.some.inj hd2).symm
        subst ed
        obtain ⟨px, dx⟩ := plains_get hp.1 hx
        have hlt := of_decide_eq_true hp.2
        walk_at "go"
        refine et_nil ⟨fun _ => ?_, fun z => nomatch z⟩
        walk_at "go"
        refine ih x px (by omega) ?_
        refine ⟨by rw [List.length_replicate]; omega, rfl, ?_, hil, _, _, _, rfl⟩
        rw [← List.replicate_succ']
      · rintro e2 S2 acc ⟨rfl, rfl, hi, y0, y1, y2, rfl⟩
        walk_at "go"
        have hlen : (List.zipWith (fun x y => D.tup [x, y]) ds ds).length = ds.length := by simp
        rw [hlen]
        refine ⟨.bl true, ?_, ?_⟩
        · exact all_lst bools_rep (by simp)
        walk_at "go"
        exact kk
    · have hd0 : dep d = 0 := by
        cases d <;> first | (exact absurd ⟨_, rfl⟩ ht) | rfl
      exact same_scal (k := k + (j + 1)) hT hp hd0 kk
end
end LC
namespace K84
open PySem L2 PF
noncomputable def Fis_tuple_of : FI := ⟨2, 2, (.cons (.ret (.and (.isi (.var 0) "tuple") (.cmp .Eq (.blt .len (.cons (.var 0) .nil)) (.var 1))))
    .nil)⟩
noncomputable def Fis_name : FI := ⟨1, 1, (.cons (.ifs (.or (.not (.isi (.var 0) "str")) (.not (.cmp2 .LtE .LtE (.int (1)) (.blt .len (.cons (.var 0) .nil)) (.gl "LONGEST_NAME")))) (.cons (.ret (.bl false))
    .nil) .nil)
    (.cons (.ret (.blt .all (.cons (.lv (.comp 2 [] (.name 1) (.seq (.var 0)) .nil (.cmp2 .LtE .LtE (.str "a") (.var 1) (.str "z")))) .nil)))
    .nil))⟩
noncomputable def Fis_neighbour : FI := ⟨1, 1, (.cons (.ret (.and (.isi (.var 0) "str") (.or (.cmp .Eq (.var 0) (.gl "NOBODY")) (.call "is_name" (.cons (.var 0) .nil)))))
    .nil)⟩
noncomputable def Fis_table_row : FI := ⟨3, 8, (.cons (.ifs (.not (.call "is_tuple_of" (.cons (.var 0) (.cons (.int (4)) .nil)))) (.cons (.ret (.bl false))
    .nil) .nil)
    (.cons (.asg (.tup (.cons (.name 3) (.cons (.name 4) (.cons (.name 5) (.cons (.name 6) .nil))))) (.var 0))
    (.cons (.ifs (.not (.and (.call "is_neighbour" (.cons (.var 3) .nil)) (.and (.call "is_name" (.cons (.var 4) .nil)) (.and (.call "is_neighbour" (.cons (.var 5) .nil)) (.call "is_name" (.cons (.var 6) .nil)))))) (.cons (.ret (.bl false))
    .nil) .nil)
    (.cons (.ifs (.or (.cmp .Eq (.var 4) (.var 6)) (.cmp .Eq (.var 4) (.var 2))) (.cons (.ret (.bl false))
    .nil) .nil)
    (.cons (.asg (.name 7) (.tup (.cons (.var 1) (.cons (.gl "NOBODY") .nil))))
    (.cons (.ret (.or (.cmp .NotEq (.var 4) (.var 1)) (.or (.cmp .NotIn (.var 3) (.var 7)) (.cmp .NotIn (.var 5) (.var 7)))))
    .nil))))))⟩
noncomputable def Fare_table_rows : FI := ⟨3, 3, (.cons (.ifs (.not (.isi (.var 0) "tuple")) (.cons (.ret (.bl false))
    .nil) .nil)
    (.cons (.ifs (.not (.blt .all (.cons (.lv (.comp 2 [2, 1] (.name 1) (.seq (.var 0)) .nil (.call "is_table_row" (.cons (.var 1) (.cons (.var 3) (.cons (.var 2) .nil)))))) .nil))) (.cons (.ret (.bl false))
    .nil) .nil)
    (.cons (.ret (.blt .all (.cons (.lv (.comp 3 [] (.tup (.cons (.name 1) (.cons (.name 2) .nil))) (.zip (.var 0) (.slc (.var 0) (.yes (.int (1))) .no)) .nil (.cmp .Lt (.slc (.var 1) .no (.yes (.int (3)))) (.slc (.var 2) .no (.yes (.int (3))))))) .nil)))
    .nil)))⟩
noncomputable def Fis_table : FI := ⟨1, 6, (.cons (.ifs (.not (.call "is_tuple_of" (.cons (.var 0) (.cons (.int (5)) .nil)))) (.cons (.ret (.bl false))
    .nil) .nil)
    (.cons (.asg (.tup (.cons (.name 1) (.cons (.name 2) (.cons (.name 3) (.cons (.name 4) (.cons (.name 5) .nil)))))) (.var 0))
    (.cons (.ifs (.or (.not (.isi (.var 1) "str")) (.cmp .NotEq (.var 1) (.str "table"))) (.cons (.ret (.bl false))
    .nil) .nil)
    (.cons (.ifs (.not (.and (.call "is_name" (.cons (.var 2) .nil)) (.and (.call "is_name" (.cons (.var 3) .nil)) (.call "is_name" (.cons (.var 4) .nil))))) (.cons (.ret (.bl false))
    .nil) .nil)
    (.cons (.ifs (.or (.cmp .Eq (.var 2) (.var 3)) (.or (.cmp .Eq (.var 2) (.var 4)) (.cmp .Eq (.var 3) (.var 4)))) (.cons (.ret (.bl false))
    .nil) .nil)
    (.cons (.ret (.call "are_table_rows" (.cons (.var 5) (.cons (.var 2) (.cons (.var 4) .nil)))))
    .nil))))))⟩
noncomputable def Fspare_name : FI := ⟨1, 4, (.cons (.asg (.name 1) (.str ""))
    (.cons (.asg (.name 2) (.bin .Add (.var 0) (.int (1))))
    (.cons (.whl (.cmp .Gt (.var 2) (.int (0))) (.cons (.asg (.tup (.cons (.name 2) (.cons (.name 3) .nil))) (.blt .divmod (.cons (.bin .Sub (.var 2) (.int (1))) (.cons (.blt .len (.cons (.gl "LETTERS") .nil)) .nil))))
    (.cons (.asg (.name 1) (.bin .Add (.sub (.gl "LETTERS") (.var 3)) (.var 1)))
    .nil)))
    (.cons (.ret (.var 1))
    .nil))))⟩
noncomputable def Fplace_at : FI := ⟨2, 6, (.cons (.asg (.tup (.cons (.name 2) (.cons (.name 3) (.cons (.name 4) (.cons (.name 5) .nil))))) (.var 0))
    (.cons (.ret (.bin .Add (.var 2) (.bin .Mult (.var 4) (.bin .FloorDiv (.bin .Sub (.var 1) (.var 3)) (.var 5)))))
    .nil))⟩
noncomputable def Fgap : FI := ⟨3, 3, (.cons (.ret (.bin .Sub (.call "place_at" (.cons (.var 1) (.cons (.var 2) .nil))) (.call "place_at" (.cons (.var 0) (.cons (.var 2) .nil)))))
    .nil)⟩
noncomputable def Ffirst_near : FI := ⟨4, 5, (.cons (.whl (.cmp .Gt (.bin .Sub (.var 3) (.var 2)) (.int (1))) (.cons (.asg (.name 4) (.bin .FloorDiv (.bin .Add (.var 2) (.var 3)) (.int (2))))
    (.cons (.ifs (.cmp .Gt (.call "gap" (.cons (.var 0) (.cons (.var 1) (.cons (.var 4) .nil)))) (.int (1))) (.cons (.asg (.name 2) (.var 4))
    .nil) (.cons (.asg (.name 3) (.var 4))
    .nil))
    .nil)))
    (.cons (.ret (.var 3))
    .nil))⟩
noncomputable def Fmeet : FI := ⟨2, 5, (.cons (.asg (.name 2) (.blt .max (.cons (.sub (.var 0) (.int (1))) (.cons (.sub (.var 1) (.int (1))) .nil))))
    (.cons (.asg (.name 3) (.call "gap" (.cons (.var 0) (.cons (.var 1) (.cons (.var 2) .nil)))))
    (.cons (.ifs (.cmp .Gt (.var 3) (.int (1))) (.cons (.asg (.name 4) (.lv (.comp 2 [] (.name 1) (.seq (.tup (.cons (.var 0) (.cons (.var 1) .nil)))) (.cons (.cmp .NotEq (.sub (.var 1) (.int (2))) (.int (0))) .nil) (.sub (.var 1) (.int (3))))))
    (.cons (.ifs (.cmp .Eq (.blt .len (.cons (.var 4) .nil)) (.int (0))) (.cons (.ret .non)
    .nil) .nil)
    (.cons (.asg (.name 2) (.call "first_near" (.cons (.var 0) (.cons (.var 1) (.cons (.var 2) (.cons (.bin .Add (.var 2) (.bin .Mult (.var 3) (.blt .min (.cons (.var 4) .nil)))) .nil))))))
    .nil))) .nil)
    (.cons (.ret (.tup (.cons (.var 2) (.cons (.call "place_at" (.cons (.var 0) (.cons (.var 2) .nil))) (.cons (.call "place_at" (.cons (.var 1) (.cons (.var 2) .nil))) .nil)))))
    .nil))))⟩
noncomputable def Fmarked : FI := ⟨2, 5, (.cons (.asg (.tup (.cons (.name 2) (.cons (.name 3) (.cons (.name 4) .nil)))) (.call "meet" (.cons (.tup (.cons (.int (0)) (.cons (.int (0)) (.cons (.int (1)) (.cons (.var 1) .nil))))) (.cons (.tup (.cons (.bin .Sub (.var 0) (.int (1))) (.cons (.bin .Sub (.var 0) (.int (1))) (.cons (.neg (.int (1))) (.cons (.int (1)) .nil))))) .nil))))
    (.cons (.ifs (.cmp .Eq (.var 3) (.var 4)) (.cons (.ret (.tup (.cons (.var 2) (.cons (.var 3) (.cons (.var 3) .nil)))))
    .nil) .nil)
    (.cons (.ret (.tup (.cons (.bin .Add (.var 2) (.int (1))) (.cons (.var 3) (.cons (.var 4) .nil)))))
    .nil)))⟩
noncomputable def Fslow_states : FI := ⟨1, 1, (.cons (.ret (.blt .tuple (.cons (.lv (.comp 2 [] (.name 1) (.rng1 (.var 0)) .nil (.bin .Add (.str "s") (.call "spare_name" (.cons (.var 1) .nil))))) .nil)))
    .nil)⟩
noncomputable def Ffast_rows : FI := ⟨1, 3, (.cons (.asg (.name 1) (.lr (.dsp (.cons (.tup (.cons (.gl "QUIET") (.cons (.gl "AWAY") (.cons (.gl "QUIET") (.cons (.gl "QUIET") .nil))))) (.cons (.tup (.cons (.gl "QUIET") (.cons (.gl "BACK") (.cons (.gl "QUIET") (.cons (.gl "QUIET") .nil))))) (.cons (.tup (.cons (.gl "QUIET") (.cons (.gl "BACK") (.cons (.gl "NOBODY") (.cons (.gl "QUIET") .nil))))) .nil))))))
    (.cons (.fr (.name 2) (.seq (.tup (.cons (.gl "START") (.cons (.gl "AWAY") .nil)))) (.cons (.ex (.mth (.var 1) .append (.cons (.tup (.cons (.var 2) (.cons (.gl "QUIET") (.cons (.gl "QUIET") (.cons (.gl "AWAY") .nil))))) .nil)))
    (.cons (.ex (.mth (.var 1) .append (.cons (.tup (.cons (.var 2) (.cons (.gl "QUIET") (.cons (.gl "NOBODY") (.cons (.gl "BACK") .nil))))) .nil)))
    .nil)))
    (.cons (.fr (.name 2) (.seq (.bin .Add (.tup (.cons (.gl "QUIET") .nil)) (.slc (.var 0) .no (.yes (.neg (.int (1))))))) (.cons (.ex (.mth (.var 1) .append (.cons (.tup (.cons (.var 2) (.cons (.gl "QUIET") (.cons (.gl "BACK") (.cons (.gl "BACK") .nil))))) .nil)))
    .nil))
    (.cons (.ret (.var 1))
    .nil))))⟩
noncomputable def Fslow_rows : FI := ⟨1, 7, (.cons (.asg (.name 1) (.bin .Add (.slc (.var 0) (.yes (.int (1))) .no) (.tup (.cons (.gl "QUIET") .nil))))
    (.cons (.asg (.name 2) (.lr (.dsp (.cons (.tup (.cons (.gl "NOBODY") (.cons (.gl "START") (.cons (.gl "QUIET") (.cons (.sub (.var 1) (.int (0))) .nil))))) .nil))))
    (.cons (.fr (.tup (.cons (.name 3) (.cons (.name 4) .nil))) (.zip (.var 0) (.var 1)) (.cons (.fr (.name 5) (.seq (.tup (.cons (.gl "NOBODY") (.cons (.gl "QUIET") .nil)))) (.cons (.fr (.name 6) (.seq (.tup (.cons (.gl "QUIET") (.cons (.gl "AWAY") .nil)))) (.cons (.ex (.mth (.var 2) .append (.cons (.tup (.cons (.var 5) (.cons (.var 3) (.cons (.var 6) (.cons (.var 4) .nil))))) .nil)))
    .nil))
    .nil))
    .nil))
    (.cons (.fr (.name 6) (.seq (.tup (.cons (.gl "QUIET") (.cons (.gl "AWAY") .nil)))) (.cons (.ex (.mth (.var 2) .append (.cons (.tup (.cons (.sub (.var 0) (.neg (.int (1)))) (.cons (.gl "QUIET") (.cons (.var 6) (.cons (.sub (.var 0) (.int (0))) .nil))))) .nil)))
    .nil))
    (.cons (.ret (.var 2))
    .nil)))))⟩
noncomputable def Fparting_rows : FI := ⟨1, 1, (.cons (.ifs (.cmp .Eq (.blt .len (.cons (.var 0) .nil)) (.int (2))) (.cons (.ret (.lr (.dsp (.cons (.tup (.cons (.sub (.var 0) (.int (1))) (.cons (.gl "AWAY") (.cons (.gl "QUIET") (.cons (.sub (.var 0) (.int (0))) .nil))))) (.cons (.tup (.cons (.sub (.var 0) (.int (0))) (.cons (.gl "AWAY") (.cons (.gl "QUIET") (.cons (.gl "QUIET") .nil))))) .nil)))))
    .nil) .nil)
    (.cons (.ret (.lv (.comp 2 [] (.name 1) (.seq (.slc (.var 0) (.yes (.int (1))) (.yes (.int (2))))) .nil (.tup (.cons (.var 1) (.cons (.gl "AWAY") (.cons (.gl "QUIET") (.cons (.gl "QUIET") .nil))))))))
    .nil))⟩
noncomputable def Fmeeting_rows : FI := ⟨1, 4, (.cons (.asg (.name 1) (.lr (.dsp (.cons (.tup (.cons (.sub (.var 0) (.neg (.int (1)))) (.cons (.gl "QUIET") (.cons (.gl "BACK") (.cons (.gl "FIRE") .nil))))) .nil))))
    (.cons (.fr (.name 2) (.seq (.var 0)) (.cons (.fr (.name 3) (.seq (.tup (.cons (.gl "NOBODY") (.cons (.gl "QUIET") .nil)))) (.cons (.ex (.mth (.var 1) .append (.cons (.tup (.cons (.var 3) (.cons (.var 2) (.cons (.gl "BACK") (.cons (.gl "FIRE") .nil))))) .nil)))
    (.cons (.ex (.mth (.var 1) .append (.cons (.tup (.cons (.var 2) (.cons (.gl "BACK") (.cons (.var 3) (.cons (.gl "FIRE") .nil))))) .nil)))
    .nil)))
    .nil))
    (.cons (.ret (.var 1))
    .nil)))⟩
noncomputable def Fmarker : FI := ⟨1, 3, (.cons (.asg (.name 1) (.call "slow_states" (.cons (.var 0) .nil)))
    (.cons (.asg (.name 2) (.bin .Add (.bin .Add (.bin .Add (.call "fast_rows" (.cons (.var 1) .nil)) (.call "slow_rows" (.cons (.var 1) .nil))) (.call "parting_rows" (.cons (.var 1) .nil))) (.call "meeting_rows" (.cons (.var 1) .nil))))
    (.cons (.ret (.tup (.cons (.str "table") (.cons (.gl "QUIET") (.cons (.gl "START") (.cons (.gl "FIRE") (.cons (.blt .tuple (.cons (.lv (.blt .sorted (.cons (.var 2) .nil))) .nil)) .nil)))))))
    .nil)))⟩
noncomputable abbrev F_law_hand : FI := LA.hand
noncomputable abbrev F_law_take : FI := LA.take
noncomputable abbrev F_law_same : FI := LC.same
noncomputable def F_law_behind : FI := ⟨2, 3, (.cons (.asg (.name 2) (.bin .Add (.bin .Add (.lv (.dsp (.cons (.str "") .nil))) (.var 1)) (.lv (.dsp (.cons (.str "") .nil)))))
    (.cons (.ret (.lv (.comp 3 [0, 2] (.tup (.cons (.name 1) (.cons (.name 2) .nil))) (.enm (.var 1)) .nil (.dget (.var 3) (.cons (.sub (.var 4) (.var 1)) (.cons (.var 2) (.cons (.sub (.var 4) (.bin .Add (.var 1) (.int (2)))) .nil))) (.var 2)))))
    .nil))⟩
noncomputable def F_law_meeting : FI := ⟨2, 6, (.cons (.par3 2 3 4 (.int (0)) (.int (0)) (.bin .Sub (.var 0) (.int (1))))
    (.cons (.fr (.name 5) (.rng1 (.bin .Sub (.var 0) (.int (1)))) (.cons (.asg (.name 3) (.bin .Add (.var 3) (.int (1))))
    (.cons (.ifs (.cmp .Eq (.var 3) (.var 1)) (.cons (.par 2 3 (.bin .Add (.var 2) (.int (1))) (.int (0)))
    .nil) .nil)
    .nil)))
    (.cons (.asg (.name 5) (.bin .Sub (.var 0) (.int (1))))
    (.cons (.whl (.cmp .Gt (.bin .Sub (.var 4) (.var 2)) (.int (1))) (.cons (.asg (.name 5) (.bin .Add (.var 5) (.int (1))))
    (.cons (.asg (.name 3) (.bin .Add (.var 3) (.int (1))))
    (.cons (.asg (.name 4) (.bin .Sub (.var 4) (.int (1))))
    (.cons (.ifs (.cmp .Eq (.var 3) (.var 1)) (.cons (.par 2 3 (.bin .Add (.var 2) (.int (1))) (.int (0)))
    .nil) .nil)
    .nil)))))
    (.cons (.ret (.tup (.cons (.bin .Sub (.bin .Add (.var 5) (.var 4)) (.var 2)) (.cons (.var 2) (.cons (.var 4) .nil)))))
    .nil)))))⟩
noncomputable def F_law_fires_so : FI := ⟨3, 9, (.cons (.asg (.name 4) (.dofT 2 [] (.name 1) (.seq (.sub (.var 0) (.int (4)))) (.var 1) 3 (.sub (.var 1) (.int (3)))))
    (.cons (.asg (.tup (.cons (.name 5) (.cons (.name 6) (.cons (.name 7) .nil)))) (.var 2))
    (.cons (.asg (.name 3) (.bin .Add (.lv (.dsp (.cons (.sub (.var 0) (.int (2))) .nil))) (.bin .Mult (.lv (.dsp (.cons (.sub (.var 0) (.int (1))) .nil))) (.bin .Sub (.var 1) (.int (1))))))
    (.cons (.fr (.name 8) (.rng1 (.var 5)) (.cons (.ifs (.cmp .In (.sub (.var 0) (.int (3))) (.var 3)) (.cons (.ret (.bl false))
    .nil) .nil)
    (.cons (.asg (.name 3) (.call "_law_behind" (.cons (.var 4) (.cons (.var 3) .nil))))
    .nil)))
    (.cons (.ret (.cmp .Eq (.lv (.comp 2 [3, 0] (.name 1) (.rng1 (.var 1)) (.cons (.cmp .Eq (.sub (.var 2) (.var 1)) (.sub (.var 3) (.int (3)))) .nil) (.var 1))) (.lv (.lrng2 (.var 6) (.bin .Add (.var 7) (.int (1)))))))
    .nil)))))⟩
noncomputable def Flaw : FI := ⟨1, 7, (.cons (.fr (.name 1) (.rng1 (.bin .Add (.int (1)) (.blt .min (.cons (.int (3)) (.cons (.blt .len (.cons (.var 0) .nil)) .nil))))) (.cons (.asg (.name 2) (.call "_law_hand" (.cons (.var 0) (.cons (.var 1) .nil))))
    (.cons (.asg (.name 3) (.bin .Add (.int (2)) (.call "_law_take" (.cons (.var 2) (.cons (.int (8)) .nil)))))
    (.cons (.asg (.name 4) (.call "marker" (.cons (.var 3) .nil)))
    (.cons (.ifs (.or (.notB (.call "is_table" (.cons (.var 4) .nil)) true) (.cmp .NotEq (.call "marker" (.cons (.var 3) .nil)) (.var 4))) (.cons (.ret (.bl false))
    .nil) .nil)
    (.cons (.fr (.name 5) (.seq (.bin .Add (.lv (.lrng2 (.int (2)) (.int (12)))) (.lv (.comp 2 [2] (.name 1) (.rng1 (.int (3))) .nil (.bin .Add (.int (12)) (.call "_law_take" (.cons (.var 2) (.cons (.int (29)) .nil)))))))) (.cons (.asg (.name 6) (.call "_law_meeting" (.cons (.var 5) (.cons (.var 3) .nil))))
    (.cons (.ifs (.or (.not (.call "_law_same" (.cons (.call "marked" (.cons (.var 5) (.cons (.var 3) .nil))) (.cons (.var 6) .nil)))) (.not (.call "_law_fires_so" (.cons (.var 4) (.cons (.var 5) (.cons (.var 6) .nil)))))) (.cons (.ret (.bl false))
    .nil) .nil)
    .nil)))
    .nil))))))
    (.cons (.ret (.bl true))
    .nil))⟩
noncomputable def T : Tab := ⟨[("is_tuple_of", Fis_tuple_of), ("is_name", Fis_name), ("is_neighbour", Fis_neighbour), ("is_table_row", Fis_table_row), ("are_table_rows", Fare_table_rows), ("is_table", Fis_table), ("spare_name", Fspare_name), ("place_at", Fplace_at), ("gap", Fgap), ("first_near", Ffirst_near), ("meet", Fmeet), ("marked", Fmarked), ("slow_states", Fslow_states), ("fast_rows", Ffast_rows), ("slow_rows", Fslow_rows), ("parting_rows", Fparting_rows), ("meeting_rows", Fmeeting_rows), ("marker", Fmarker), ("_law_hand", F_law_hand), ("_law_take", F_law_take), ("_law_same", F_law_same), ("_law_behind", F_law_behind), ("_law_meeting", F_law_meeting), ("_law_fires_so", F_law_fires_so), ("law", Flaw)], [("LONGEST_NAME", .int (8)), ("NOBODY", .str ""), ("LETTERS", .str "abcdefghijklmnopqrstuvwxyz"), ("QUIET", .str "o"), ("START", .str "g"), ("FIRE", .str "f"), ("AWAY", .str "r"), ("BACK", .str "l")]⟩
theorem l_fast_rows : T.lookup ("fast_rows" : Str) = some Ffast_rows := by kernel_rfl
theorem l_slow_rows : T.lookup ("slow_rows" : Str) = some Fslow_rows := by kernel_rfl
theorem l_parting_rows : T.lookup ("parting_rows" : Str) = some Fparting_rows := by kernel_rfl
theorem l_meeting_rows : T.lookup ("meeting_rows" : Str) = some Fmeeting_rows := by kernel_rfl
theorem l_marker : T.lookup ("marker" : Str) = some Fmarker := by kernel_rfl
theorem l_law_behind : T.lookup ("_law_behind" : Str) = some F_law_behind := by kernel_rfl
theorem l_law_fires_so : T.lookup ("_law_fires_so" : Str) = some F_law_fires_so := by kernel_rfl
theorem l_law : T.lookup ("law" : Str) = some Flaw := by kernel_rfl
end K84
namespace K84
open PySem L2 PF
noncomputable def cO : Str := "o"
noncomputable def cR : Str := "r"
noncomputable def cL : Str := "l"
noncomputable def cG : Str := "g"
noncomputable def cF : Str := "f"
noncomputable def cN : Str := ""
noncomputable def fast0 : List (List Str) := [[cO, cR, cO, cO], [cO, cL, cO, cO], [cO, cL, cN, cO]]
noncomputable def fast1 : List (List Str) := [[cG, cO, cO, cR], [cG, cO, cN, cL], [cR, cO, cO, cR], [cR, cO, cN, cL]]
noncomputable def fastR (ss : List Str) : List (List Str) := fast0 ++ fast1 ++ (cO :: ss.dropLast).map fun x => [x, cO, cL, cL]
noncomputable def four (p : Str × Str) : List (List Str) := [[cN, p.1, cO, p.2], [cN, p.1, cR, p.2], [cO, p.1, cO, p.2], [cO, p.1, cR, p.2]]
noncomputable def slowR (a z : Str) (ss : List Str) : List (List Str) :=
  [[cN, cG, cO, (ss.tail ++ [cO]).headD cN]] ++ (ss.zip (ss.tail ++ [cO])).flatMap four ++ [[z, cO, cO, a], [z, cO, cR, a]]
noncomputable def partR (a b : Str) (ss : List Str) : List (List Str) := if ss.length = 2 then [[b, cR, cO, a], [a, cR, cO, cO]] else [[b, cR, cO, cO]]
noncomputable def meets (s : Str) : List (List Str) := [[cN, s, cL, cF], [s, cL, cN, cF], [cO, s, cL, cF], [s, cL, cO, cF]]
noncomputable def meetR (z : Str) (ss : List Str) : List (List Str) := [[z, cO, cL, cF]] ++ ss.flatMap meets
noncomputable def names : List Str := ["sa", "sb", "sc", "sd", "se", "sf", "sg", "sh", "si"]
noncomputable def ssOf (n : Nat) : List Str := names.take n
noncomputable def rowsOf (n : Nat) : List (List Str) := fastR (ssOf n) ++ slowR (names.headD cN) ((ssOf n).getLastD cN) (ssOf n) ++ partR (names.headD cN) (names.tail.headD cN) (ssOf n) ++ meetR ((ssOf n).getLastD cN) (ssOf n)
noncomputable def tb (n : Nat) : D := .tup [.str "table", .str cO, .str cG, .str cF, .tup ((sortR (rowsOf n)).map rowD)]
end K84
namespace K84
open PySem L2 PF
noncomputable def mt (slow : Nat) : Nat → Nat → Nat → Nat × Nat
  | 0, at', w => (at', w)
  | b + 1, at', w => if w + 1 = slow then mt slow b (at' + 1) 0 else mt slow b at' (w + 1)
noncomputable def me (slow : Nat) : Nat → Nat → Nat → Nat → Nat → Nat × Nat × Nat
  | 0, t, at', _, back => (t + back - at', at', back)
  | f + 1, t, at', w, back => if at' + 1 < back then (if w + 1 = slow then me slow f (t + 1) (at' + 1) 0 (back - 1) else me slow f (t + 1) at' (w + 1) (back - 1)) else (t + back - at', at', back)
noncomputable def due (n slow : Nat) : Nat × Nat × Nat := me slow 40 (n - 1) (mt slow (n - 1) 0 0).1 (mt slow (n - 1) 0 0).2 (n - 1)
noncomputable def dueD (n slow : Nat) : D := .tup [.int ((due n slow).1 : Nat), .int ((due n slow).2.1 : Nat), .int ((due n slow).2.2 : Nat)]
def AllN (P : Nat → Prop) : Nat → Prop
  | 0 => True
  | m + 1 => P (m + 2) ∧ AllN P m
def MP (slow : Nat) (n : Nat) : Prop := ∀ (k : Nat) (S : Sto), (callN T 40 (k + 6)).fn "_law_meeting" [.int (n : Nat), .int (slow : Nat)] S = some (dueD n slow, S) ∧ (callN T 40 (k + 6)).fn "marked" [.int (n : Nat), .int (slow : Nat)] S = some (dueD n slow, S)
end K84
namespace K84
open PySem L2 PF
noncomputable def allN : List Str := [cN, cO, cG, cF, cR, cL, "sa", "sb", "sc", "sd", "se", "sf", "sg", "sh", "si"]
noncomputable def nam (c : Nat) : Str := allN.getD c cN
noncomputable def cod (x : Str) : Nat := (allN.findIdx? fun y => decide (y = x)).getD 99
noncomputable def numR (r : List Str) : Nat × Nat := match r with
  | [a, b, c, d] => (cod a + 16 * cod b + 256 * cod c, cod d)
  | _ => (9999, 99)
noncomputable def rulesN (s : Nat) : List (Nat × Nat) := (sortR (rowsOf s)).map numR
noncomputable def lk (key : Nat) : List (Nat × Nat) → Option Nat
  | [] => none
  | p :: r => if p.1 == key then some p.2 else lk key r
noncomputable def nib (T key : Nat) : Nat := (T >>> (4 * key)) % 16
noncomputable def tabN (rs : List (Nat × Nat)) : Nat := rs.foldl (fun t p => t ^^^ ((p.2 ^^^ (p.1 / 16 % 16)) <<< (4 * p.1))) 0
noncomputable def tab (s : Nat) : Nat := tabN (rulesN s)
noncomputable def nst (T l o r : Nat) : Nat := o ^^^ nib T (l + 16 * o + 256 * r)
noncomputable def stp (T : Nat) : Nat → List Nat → List Nat
  | _, [] => []
  | l, o :: r => nst T l o (r.headD 0) :: stp T o r
noncomputable def force {α : Type} (n : Nat) (f : Nat → α) : α := Nat.rec (f 0) (fun m _ => f (Nat.succ m)) n
theorem force_eq {α : Type} (n : Nat) (f : Nat → α) : force n f = f n := by cases n <;> rfl
noncomputable def stpF (T : Nat) : Nat → List Nat → (List Nat → Bool) → Bool
  | _, [], k => k []
  | l, o :: r, k => force (nst T l o (r.headD 0)) fun v => stpF T o r fun r' => k (v :: r')
theorem stpF_eq (T : Nat) : ∀ (row : List Nat) (l : Nat) (k : List Nat → Bool), stpF T l row k = k (stp T l row)
  | [], _, _ => rfl
  | o :: r, l, k => by rw [stpF, force_eq, stpF_eq T r, stp]
noncomputable def fl : Nat → List Nat → List Nat
  | _, [] => []
  | i, c :: r => if c == 3 then i :: fl (i + 1) r else fl (i + 1) r
noncomputable def good (m c : Nat) : Bool := Nat.ble 1 c && Nat.blt c m
noncomputable def simF (T m : Nat) (due : List Nat) : Nat → List Nat → Bool
  | 0, row => row.all (good m) && decide (fl 0 row = due)
  | b + 1, row => (row.all fun c => good m c && !(Nat.beq c 3)) && stpF T 0 row fun row' => simF T m due b row'
def simP (T m : Nat) (due : List Nat) : Nat → List Nat → Prop
  | 0, row => (∀ c ∈ row, good m c = true) ∧ fl 0 row = due
  | b + 1, row => (∀ c ∈ row, good m c = true ∧ c ≠ 3) ∧ simP T m due b (stp T 0 row)
theorem simF_at {T m : Nat} {due : List Nat} : ∀ {b : Nat} {row : List Nat}, simF T m due b row = true → simP T m due b row
  | 0, row, h => by
    rw [simF, Bool.and_eq_true] at h
    exact ⟨fun c hc => List.all_eq_true.mp h.1 c hc, of_decide_eq_true h.2⟩
  | b + 1, row, h => by
    rw [simF, Bool.and_eq_true, stpF_eq] at h
    refine ⟨fun c hc => ?_, simF_at h.2⟩
    have := List.all_eq_true.mp h.1 c hc
    rw [Bool.and_eq_true] at this
    refine ⟨this.1, fun e => ?_⟩
    subst e
    exact absurd this.2 (by decide)
noncomputable def row0 (n : Nat) : List Nat := 2 :: List.replicate (n - 1) 1
noncomputable def simN (s n : Nat) : Bool := simF (tab s) (6 + s) (List.range' (due n s).2.1 ((due n s).2.2 + 1 - (due n s).2.1)) (due n s).1 (row0 n)
noncomputable def AllB (P : Nat → Bool) : Nat → Bool
  | 0 => true
  | m + 1 => P (m + 2) && AllB P m
noncomputable def rowB (r : List Str) : Bool := match r with
  | [a, b, c, d] => decide (nam (cod a) = a) && decide (nam (cod b) = b) && decide (nam (cod c) = c) && decide (nam (cod d) = d) && (Nat.blt (cod a) 15 && Nat.blt (cod b) 15 && Nat.blt (cod c) 15 && Nat.blt (cod d) 15)
  | _ => false
theorem nib_xor (a b key : Nat) : nib (a ^^^ b) key = nib a key ^^^ nib b key := by
  unfold nib
  rw [Nat.shiftRight_xor_distrib, show (16 : Nat) = 2 ^ 4 from rfl, Nat.xor_mod_two_pow]
theorem nib_sh {v : Nat} (k key : Nat) (h : v < 16) : nib (v <<< (4 * k)) key = if key = k then v else 0 := by
  unfold nib
  rw [Nat.shiftLeft_eq, Nat.shiftRight_eq_div_pow]
  split
  · rename_i e
    subst e
    rw [Nat.mul_div_cancel _ (Nat.two_pow_pos _), Nat.mod_eq_of_lt h]
  · rename_i e
    rcases Nat.lt_or_ge key k with hk | hk
    · obtain ⟨d, rfl⟩ : ∃ d, k = key + 1 + d := ⟨k - (key + 1), by omega⟩
      have e2 : v * 2 ^ (4 * (key + 1 + d)) = v * 2 ^ (4 * d) * 16 * 2 ^ (4 * key) := by
        rw [show 4 * (key + 1 + d) = 4 * d + 4 + 4 * key by omega, Nat.pow_add, Nat.pow_add, ← Nat.mul_assoc, ← Nat.mul_assoc]
      rw [e2, Nat.mul_div_cancel _ (Nat.two_pow_pos _)]
      exact Nat.mul_mod_left _ _
    · obtain ⟨d, rfl⟩ : ∃ d, key = k + 1 + d := ⟨key - (k + 1), by omega⟩
      have hp : v * 2 ^ (4 * k) < 2 ^ (4 * (k + 1 + d)) := by
        rw [show 4 * (k + 1 + d) = 4 * d + 4 + 4 * k by omega, Nat.pow_add]
        refine Nat.mul_lt_mul_of_pos_right ?_ (Nat.two_pow_pos _)
        rw [Nat.pow_add]
        have := Nat.two_pow_pos (4 * d)
        show v < 2 ^ (4 * d) * 16
        omega
      rw [Nat.div_eq_of_lt hp]
theorem xor_lt16 {a b : Nat} (h : a < 16) (g : b < 16) : a ^^^ b < 16 := Nat.xor_lt_two_pow (n := 4) h g
theorem lk_none {key : Nat} : ∀ {rs : List (Nat × Nat)}, key ∉ rs.map (·.1) → lk key rs = none
  | [], _ => rfl
  | p :: r, h => by
    rw [List.map_cons, List.mem_cons, not_or] at h
    rw [lk, lk_none h.2]
    have : (p.1 == key) = false := by rw [beq_eq_false_iff_ne]; exact fun e => h.1 e.symm
    rw [this]; rfl
theorem nib_fold {key : Nat} : ∀ {rs : List (Nat × Nat)} {t : Nat}, (∀ p ∈ rs, p.2 < 16) → (rs.map (·.1)).Nodup →
    nib (rs.foldl (fun t p => t ^^^ ((p.2 ^^^ (p.1 / 16 % 16)) <<< (4 * p.1))) t) key = nib t key ^^^ (match lk key rs with | some d => d ^^^ (key / 16 % 16) | none => 0)
  | [], t, _, _ => by rw [List.foldl_nil, lk, Nat.xor_zero]
  | p :: r, t, h, n => by
    rw [List.map_cons, List.nodup_cons] at n
    have hp := h p (List.mem_cons_self ..)
    rw [List.foldl_cons, nib_fold (fun q hq => h q (List.mem_cons_of_mem _ hq)) n.2, nib_xor, nib_sh _ _ (xor_lt16 hp (Nat.mod_lt _ (by decide))), lk]
    by_cases e : key = p.1
    · subst e
      rw [if_pos rfl, lk_none n.1, beq_self_eq_true, Nat.xor_zero]; rfl
    · rw [if_neg e, Nat.xor_zero]
      have : (p.1 == key) = false := by rw [beq_eq_false_iff_ne]; exact fun z => e z.symm
      rw [this]; rfl
theorem nst_eq {rs : List (Nat × Nat)} {l o r : Nat} (h : ∀ p ∈ rs, p.2 < 16) (n : (rs.map (·.1)).Nodup) (hl : l < 16) (ho : o < 16) : nst (tabN rs) l o r = (lk (l + 16 * o + 256 * r) rs).getD o := by
  unfold nst tabN
  rw [nib_fold h n]
  have e : (l + 16 * o + 256 * r) / 16 % 16 = o := by omega
  rw [e]
  have z : nib 0 (l + 16 * o + 256 * r) = 0 := by unfold nib; rw [Nat.zero_shiftRight]
  rw [z, Nat.zero_xor]
  cases lk (l + 16 * o + 256 * r) rs with
  | none => exact Nat.xor_zero _
  | some d => show o ^^^ (d ^^^ o) = d; rw [Nat.xor_comm d o, ← Nat.xor_assoc, Nat.xor_self, Nat.zero_xor]
noncomputable def kvOf (r : List Str) : List Key × D := ((r.take 3).map .inr, .str (r.getD 3 cN))
theorem cod_nam : ∀ i < 15, cod (nam i) = i := by decide +kernel
theorem nam_inj {a b : Nat} (h : a < 15) (g : b < 15) (e : nam a = nam b) : a = b := by rw [← cod_nam a h, ← cod_nam b g, e]
theorem val_num {l o r : Nat} (hl : l < 15) (ho : o < 15) (hr : r < 15) : ∀ {rows : List (List Str)}, (∀ x ∈ rows, rowB x = true) →
    (valD (rows.map kvOf) [.inr (nam l), .inr (nam o), .inr (nam r)]).getD (.str (nam o)) = .str (nam ((lk (l + 16 * o + 256 * r) (rows.map numR)).getD o))
  | [], _ => rfl
  | x :: rows, h => by
    have ih := val_num hl ho hr (rows := rows) (fun y hy => h y (List.mem_cons_of_mem _ hy))
    have hx := h x (List.mem_cons_self ..)
    match x, hx with
    | [a, b, c, d], hx =>
      simp only [rowB, Bool.and_eq_true, decide_eq_true_eq, Nat.blt_eq] at hx
      obtain ⟨⟨⟨⟨h1, h2⟩, h3⟩, h4⟩, ⟨⟨g1, g2⟩, g3⟩, g4⟩ := hx
      unfold valD at ih ⊢
      rw [List.map_cons, List.map_cons, List.find?_cons, lk]
      have key : decide ((kvOf [a, b, c, d]).1 = [.inr (nam l), .inr (nam o), .inr (nam r)]) = ((numR [a, b, c, d]).1 == l + 16 * o + 256 * r) := by
        rw [Bool.eq_iff_iff, decide_eq_true_eq, beq_iff_eq]
        show ([.inr a, .inr b, .inr c] : List Key) = [.inr (nam l), .inr (nam o), .inr (nam r)] ↔ cod a + 16 * cod b + 256 * cod c = l + 16 * o + 256 * r
        constructor
        · intro e
          simp only [List.cons.injEq, Sum.inr.injEq, and_true] at e
          rw [e.1, e.2.1, e.2.2, cod_nam _ hl, cod_nam _ ho, cod_nam _ hr]
        · intro e
          have e1 : cod a = l := by omega
          have e2 : cod b = o := by omega
          have e3 : cod c = r := by omega
          rw [← e1, ← e2, ← e3, h1, h2, h3]
      rw [key]
      cases q : ((numR [a, b, c, d]).1 == l + 16 * o + 256 * r) with
      | false => exact ih
      | true =>
        show D.str d = .str (nam (cod d))
        rw [h4]
noncomputable def bnd (s n : Nat) : Bool := Nat.blt (due n s).1 1000 && Nat.blt (due n s).2.1 1000 && Nat.blt (due n s).2.2 1000
noncomputable def chk (s : Nat) : Bool := AllB (bnd s) 39 && AllB (simN s) 39 && (sortR (rowsOf s)).all rowB && decide ((rulesN s).map (·.1)).Nodup && okD (tb s) && decide ((sortR (rowsOf s)).length < 128) && decide ((rowsOf s).length < 128)
end K84
namespace K84
open PySem L2 PF
noncomputable abbrev Wn : Nat := 40
section
variable {k : Nat}
theorem gl_at {x : Str} {d : D} (h : T.gls.lookup x = some d) : (callN T Wn k).gl x = some d := by cases k <;> exact h
theorem gO : (callN T Wn k).gl "QUIET" = some (.str cO) := gl_at (by kernel_rfl)
theorem gR : (callN T Wn k).gl "AWAY" = some (.str cR) := gl_at (by kernel_rfl)
theorem gL : (callN T Wn k).gl "BACK" = some (.str cL) := gl_at (by kernel_rfl)
theorem gG : (callN T Wn k).gl "START" = some (.str cG) := gl_at (by kernel_rfl)
theorem gF : (callN T Wn k).gl "FIRE" = some (.str cF) := gl_at (by kernel_rfl)
theorem gN : (callN T Wn k).gl "NOBODY" = some (.str cN) := gl_at (by kernel_rfl)
local macro_rules | `(tactic| walk_at "s1") => `(tactic| with_reducible first | refine ev_gl gO ?_ | refine ev_gl gR ?_ | refine ev_gl gL ?_ | refine ev_gl gG ?_ | refine ev_gl gF ?_ | refine ev_gl gN ?_)
theorem o_grow {c : Cl} {W : Nat} {env : En} {S S0 : Sto} {t : Tg} {it : Itx} {b : Sms} {Q : Fl → Prop} {ds acc : List D} (g : D → List D) (E : En → Prop) (hi : evI c it env S0 = some (.vs ds, S ++ [.lst acc])) (h0 : E env)
    (hs : ∀ (d : D) (e2 : En) (a2 : List D), d ∈ ds → E e2 → a2.length + (g d).length ≤ acc.length + (ds.flatMap g).length → Eg (asg c t d e2 (S ++ [.lst a2])) fun e3 S3 => Fo (evSs c W b e3 S3) (turnK (fun e4 S4 => E e4 ∧ S4 = S ++ [.lst (a2 ++ g d)]) Q))
    (hd : ∀ e2, E e2 → Q (.nx e2 (S ++ [.lst (acc ++ ds.flatMap g)]))) : Fo (evS c W (.fr t it b) env S0) Q := by
  refine o_for ds _ hi (fun i e2 S2 => E e2 ∧ S2 = S ++ [.lst (acc ++ (ds.take i).flatMap g)]) ⟨h0, by simp⟩ ?_ ?_
  · rintro i d e2 S2 hg ⟨h1, rfl⟩
    have sp : ds = ds.take i ++ d :: ds.drop (i + 1) := by
      have hlt := (List.getElem?_eq_some_iff.mp hg).1
      have e := (List.getElem?_eq_some_iff.mp hg).2
      rw [← e, ← List.drop_eq_getElem_cons hlt, List.take_append_drop]
    have tk : ds.take (i + 1) = ds.take i ++ [d] := by rw [List.take_succ, hg]; rfl
    have e : acc ++ (ds.take (i + 1)).flatMap g = acc ++ (ds.take i).flatMap g ++ g d := by rw [tk, List.flatMap_append, ← List.append_assoc]; simp
    have ln : (ds.flatMap g).length = ((ds.take i).flatMap g).length + ((g d).length + ((ds.drop (i + 1)).flatMap g).length) := by
      conv => lhs; rw [sp]
      rw [List.flatMap_append, List.length_append, List.flatMap_cons, List.length_append]
    have := hs d e2 (acc ++ (ds.take i).flatMap g) (List.mem_of_getElem? hg) h1 (by rw [List.length_append]; omega)
    rw [e]; exact this
  · rintro e2 S2 ⟨h1, rfl⟩
    rw [List.take_length]; exact hd e2 h1
local macro_rules | `(tactic| walk_at "ap") => `(tactic| (refine ev_mth ?_; walk_at "go"; refine ⟨isLs2_of get_new, ?_⟩; walk_at "go"; refine m_append get_new (by show _ < 16777216; simp only [List.length_append, List.length_cons, List.length_nil] at *; omega) ?_; rw [set_new]; walk_at "go"))
theorem o_growS {c : Cl} {W : Nat} {env : En} {S S0 : Sto} {t : Tg} {e : Ex} {b : Sms} {Q : Fl → Prop} (ds acc : List D) (g : D → List D) (E : En → Prop) (hi : Ev (ev c e env S0) fun d S1 => vals d = some ds ∧ S1 = S ++ [.lst acc]) (h0 : E env)
    (hs : ∀ (d : D) (e2 : En) (a2 : List D), d ∈ ds → E e2 → a2.length + (g d).length ≤ acc.length + (ds.flatMap g).length → Eg (asg c t d e2 (S ++ [.lst a2])) fun e3 S3 => Fo (evSs c W b e3 S3) (turnK (fun e4 S4 => E e4 ∧ S4 = S ++ [.lst (a2 ++ g d)]) Q))
    (hd : ∀ e2, E e2 → Q (.nx e2 (S ++ [.lst (acc ++ ds.flatMap g)]))) : Fo (evS c W (.fr t (.seq e) b) env S0) Q := by
  obtain ⟨d, S1, h1, hv, rfl⟩ := hi
  refine o_grow g E ?_ h0 hs hd
  rw [evI, h1]
  cases d <;> first | (cases hv; done) | (cases hv; rfl)
section
variable {ss : List Str} {a b z : Str} {S : Sto}
theorem at0 (h : ss[0]? = some a) : atI (ss.map D.str) 0 = some (.str a) := by
  have hl := (List.getElem?_eq_some_iff.mp h).1
  unfold atI L2.ixN
  rw [List.length_map, if_pos (by omega), if_pos (by omega)]
  show (ss.map D.str)[0]? = _
  rw [List.getElem?_map, h]; rfl
theorem at1 (h : ss[1]? = some b) : atI (ss.map D.str) 1 = some (.str b) := by
  have hl := (List.getElem?_eq_some_iff.mp h).1
  unfold atI L2.ixN
  rw [List.length_map, if_pos (by omega), if_pos (by omega)]
  show (ss.map D.str)[1]? = _
  rw [List.getElem?_map, h]; rfl
theorem atz (h : ss.getLast? = some z) : atI (ss.map D.str) (-1) = some (.str z) := by
  rw [List.getLast?_eq_getElem?] at h
  have hl := (List.getElem?_eq_some_iff.mp h).1
  unfold atI L2.ixN
  rw [List.length_map, if_neg (by omega), if_pos (by omega)]
  show (ss.map D.str)[(-1 + (ss.length : Int)).toNat]? = _
  rw [show (-1 + (ss.length : Int)).toNat = ss.length - 1 by omega, List.getElem?_map, h]; rfl
theorem sl_init (h : 0 < ss.length) : sliceD S (.tup (ss.map D.str)) none (some (-1)) = some (.tup (ss.dropLast.map D.str)) := by
  have e2 : HT.sIx (ss.map D.str).length (ss.map D.str).length (some (-1)) = ss.length - 1 := by
    show (if (-1 : Int) < 0 then (-1 + ((ss.map D.str).length : Int)).toNat else min (-1 : Int).toNat (ss.map D.str).length) = _
    rw [if_pos (by decide), List.length_map]; omega
  show (if HT.sIx (ss.map D.str).length 0 none = 0 ∧ HT.sIx (ss.map D.str).length (ss.map D.str).length (some (-1)) = (ss.map D.str).length then _ else some (D.tup (cutD _ none (some (-1))))) = _
  rw [if_neg (by rw [e2, List.length_map]; omega)]
  unfold cutD
  rw [e2]
  show some (D.tup (((ss.map D.str).drop 0).take (ss.length - 1 - 0))) = _
  rw [List.drop_zero, Nat.sub_zero, List.dropLast_eq_take, List.map_take]
theorem sl_tail (h : 0 < ss.length) : sliceD S (.tup (ss.map D.str)) (some 1) none = some (.tup (ss.tail.map D.str)) := by
  have e1 : HT.sIx (ss.map D.str).length 0 (some 1) = 1 := by
    show (if (1 : Int) < 0 then (1 + ((ss.map D.str).length : Int)).toNat else min (1 : Int).toNat (ss.map D.str).length) = 1
    rw [if_neg (by decide), List.length_map]; omega
  show (if HT.sIx (ss.map D.str).length 0 (some 1) = 0 ∧ HT.sIx (ss.map D.str).length (ss.map D.str).length none = (ss.map D.str).length then _ else some (D.tup (cutD _ (some 1) none))) = _
  rw [if_neg (by rw [e1]; omega)]
  unfold cutD
  rw [e1]
  show some (D.tup (((ss.map D.str).drop 1).take ((ss.map D.str).length - 1))) = _
  rw [List.take_of_length_le (by rw [List.length_drop]; omega), List.drop_one, List.map_tail]
theorem sl_mid (h : ss[1]? = some b) (h2 : ss.length ≠ 2) : sliceD S (.tup (ss.map D.str)) (some 1) (some 2) = some (.tup [.str b]) := by
  have hl := (List.getElem?_eq_some_iff.mp h).1
  have e1 : HT.sIx (ss.map D.str).length 0 (some 1) = 1 := by
    show (if (1 : Int) < 0 then (1 + ((ss.map D.str).length : Int)).toNat else min (1 : Int).toNat (ss.map D.str).length) = 1
    rw [if_neg (by decide), List.length_map]; omega
  have e2 : HT.sIx (ss.map D.str).length (ss.map D.str).length (some 2) = 2 := by
    show (if (2 : Int) < 0 then (2 + ((ss.map D.str).length : Int)).toNat else min (2 : Int).toNat (ss.map D.str).length) = 2
    rw [if_neg (by decide), List.length_map]; omega
  show (if HT.sIx (ss.map D.str).length 0 (some 1) = 0 ∧ HT.sIx (ss.map D.str).length (ss.map D.str).length (some 2) = (ss.map D.str).length then _ else some (D.tup (cutD _ (some 1) (some 2)))) = _
  rw [if_neg (by rw [e1]; omega)]
  unfold cutD
  rw [e1, e2]
  show some (D.tup (((ss.map D.str).drop 1).take 1)) = _
  have hm : (ss.map D.str)[1]? = some (.str b) := by rw [List.getElem?_map, h]; rfl
  have hlt := (List.getElem?_eq_some_iff.mp hm).1
  rw [List.drop_eq_getElem_cons hlt, (List.getElem?_eq_some_iff.mp hm).2]; rfl
end
theorem p_catT {S : Sto} {xs ys : List D} {PD : D → Prop} (hz : xs.length + ys.length ≤ line) (k : PD (.tup (xs ++ ys))) : Op (binop S .Add (.tup xs) (.tup ys)) PD :=
  ⟨_, by show (if xs.length + ys.length ≤ line then some (D.tup (xs ++ ys)) else none) = _; rw [if_pos hz], k⟩
local macro_rules | `(tactic| walk_at "ap") => `(tactic| (refine ev_mth ?_; walk_at "go"; refine ⟨isLs2_of get_new, ?_⟩; walk_at "go"; refine m_append get_new (by show _ < 16777216; first | omega | (simp only [List.length_append, List.length_cons, List.length_nil]; omega)) ?_; rw [set_new]; walk_at "go"))
theorem fast_ok {S : Sto} {ss : List Str} {P : D → Sto → Prop} (h0 : 0 < ss.length) (hs : ss.length < 20) (kk : P (.ref S.length) (S ++ [.lst ((fastR ss).map rowD)])) : Ev ((callN T Wn (k + 1)).fn "fast_rows" [.tup (ss.map .str)] S) P := by
  refine ev_fn l_fast_rows rfl ?_
  dsimp only [Ffast_rows]
  walk_at "st"
  refine o_growS (S := S) [.str cG, .str cR] (fast0.map rowD) (fun d => [.tup [d, .str cO, .str cO, .str cR], .tup [d, .str cO, .str cN, .str cL]]) (fun e => ∃ y, e = [some (.tup (ss.map .str)), some (.ref S.length), y]) ?_ ⟨_, rfl⟩ ?_ ?_
  · walk_at "go"
    exact ⟨rfl, rfl⟩
  · rintro d e2 a2 hd ⟨y, rfl⟩ hl
    replace hl : a2.length + 2 ≤ 7 := hl
    walk_at "go"
    walk_at "ap"
    walk_at "ap"
    exact ⟨⟨_, rfl⟩, by rw [List.append_assoc]; rfl⟩
  · rintro e2 ⟨y, rfl⟩
    walk_at "go"
    refine o_growS (S := S) ((cO :: ss.dropLast).map D.str) ((fast0 ++ fast1).map rowD) (fun d => [.tup [d, .str cO, .str cL, .str cL]]) (fun e => ∃ y, e = [some (.tup (ss.map .str)), some (.ref S.length), y]) ?_ ⟨_, rfl⟩ ?_ ?_
    · walk_at "go"
      refine op_slc (sl_init h0) ?_
      refine p_catT (by rw [List.length_map, List.length_dropLast]; show 1 + (ss.length - 1) ≤ 16777216; omega) ?_
      exact ⟨rfl, rfl⟩
    · rintro d e2 a2 hd ⟨y, rfl⟩ hl
      have hl2 : ∀ l : List D, (l.flatMap fun d => [D.tup [d, .str cO, .str cL, .str cL]]).length = l.length := fun l => by induction l with
        | nil => rfl
        | cons x l ih => rw [List.flatMap_cons, List.length_append, ih, List.length_cons]; simp; omega
      rw [hl2] at hl
      replace hl : a2.length + 1 ≤ 7 + ((cO :: ss.dropLast).map D.str).length := hl
      rw [List.length_map, List.length_cons, List.length_dropLast] at hl
      walk_at "go"
      walk_at "ap"
      exact ⟨⟨_, rfl⟩, rfl⟩
    · rintro e2 ⟨y, rfl⟩
      walk_at "go"
      have e : (fast0 ++ fast1).map rowD ++ ((cO :: ss.dropLast).map D.str).flatMap (fun d => [D.tup [d, .str cO, .str cL, .str cL]]) = (fastR ss).map rowD := by
        unfold fastR
        rw [List.map_append (l₁ := fast0 ++ fast1)]
        congr 1
        generalize cO :: ss.dropLast = l
        induction l with
        | nil => rfl
        | cons x l ih => rw [List.map_cons, List.flatMap_cons, ih]; rfl
      rw [e]
      exact kk
end
end K84
namespace K84
open PySem L2 PF
section
variable {k : Nat}
local macro_rules | `(tactic| walk_at "s1") => `(tactic| with_reducible first | refine ev_gl gO ?_ | refine ev_gl gR ?_ | refine ev_gl gL ?_ | refine ev_gl gG ?_ | refine ev_gl gF ?_ | refine ev_gl gN ?_)
local macro_rules | `(tactic| walk_at "ap") => `(tactic| (refine ev_mth ?_; walk_at "go"; refine ⟨isLs2_of get_new, ?_⟩; walk_at "go"; refine m_append get_new (by show _ < 16777216; first | omega | (simp only [List.length_append, List.length_cons, List.length_nil]; omega)) ?_; rw [set_new]; walk_at "go"))
theorem o_growZ {c : Cl} {W : Nat} {env : En} {S S0 : Sto} {t : Tg} {e e' : Ex} {b : Sms} {Q : Fl → Prop} (xs ys acc : List D) (g : D → List D) (E : En → Prop)
    (hi : Ev (ev c e env S0) fun d S1 => Ev (ev c e' env S1) fun d' S2 => vals d = some xs ∧ vals d' = some ys ∧ S2 = S ++ [.lst acc]) (h0 : E env)
    (hs : ∀ (d : D) (e2 : En) (a2 : List D), d ∈ List.zipWith (fun x y => D.tup [x, y]) xs ys → E e2 → a2.length + (g d).length ≤ acc.length + ((List.zipWith (fun x y => D.tup [x, y]) xs ys).flatMap g).length → Eg (asg c t d e2 (S ++ [.lst a2])) fun e3 S3 => Fo (evSs c W b e3 S3) (turnK (fun e4 S4 => E e4 ∧ S4 = S ++ [.lst (a2 ++ g d)]) Q))
    (hd : ∀ e2, E e2 → Q (.nx e2 (S ++ [.lst (acc ++ (List.zipWith (fun x y => D.tup [x, y]) xs ys).flatMap g)]))) : Fo (evS c W (.fr t (.zip e e') b) env S0) Q := by
  obtain ⟨d, S1, h1, d', S2, h2, hv, hv', rfl⟩ := hi
  refine o_grow g E ?_ h0 hs hd
  rw [evI, h1]
  show (ev c e' env S1).bind _ = _
  rw [h2]
  show (match vals d, vals d' with | some xs, some ys => some (Sr.vs (List.zipWith (fun x y => D.tup [x, y]) xs ys), _) | _, _ => none) = _
  rw [hv, hv']
noncomputable def fourD (d : D) : List D := match d with
  | .tup [x, y] => [.tup [.str cN, x, .str cO, y], .tup [.str cN, x, .str cR, y], .tup [.str cO, x, .str cO, y], .tup [.str cO, x, .str cR, y]]
  | _ => []
theorem zw_four : ∀ xs ys : List Str, (List.zipWith (fun x y => D.tup [x, y]) (xs.map D.str) (ys.map D.str)).flatMap fourD = ((xs.zip ys).flatMap four).map rowD
  | [], _ => rfl
  | _ :: _, [] => rfl
  | x :: xs, y :: ys => by
    rw [List.map_cons, List.map_cons, List.zipWith_cons_cons, List.flatMap_cons, zw_four xs ys, List.zip_cons_cons, List.flatMap_cons, List.map_append]; rfl
theorem zw_mem : ∀ {xs ys : List Str} {d : D}, d ∈ List.zipWith (fun x y => D.tup [x, y]) (xs.map D.str) (ys.map D.str) → ∃ x y : Str, d = .tup [.str x, .str y]
  | [], _, d, h => by simp at h
  | _ :: _, [], d, h => by simp at h
  | x :: xs, y :: ys, d, h => by
    rw [List.map_cons, List.map_cons, List.zipWith_cons_cons, List.mem_cons] at h
    rcases h with rfl | h
    · exact ⟨x, y, rfl⟩
    · exact zw_mem h
theorem four_len : ∀ l : List (Str × Str), (l.flatMap four).length = 4 * l.length
  | [] => rfl
  | p :: l => by rw [List.flatMap_cons, List.length_append, four_len l, List.length_cons]; show 4 + _ = _; omega
theorem slow_ok {S : Sto} {ss : List Str} {a b z : Str} {P : D → Sto → Prop} (ha : ss[0]? = some a) (hb : ss[1]? = some b) (hz : ss.getLast? = some z) (hs : ss.length < 20) (kk : P (.ref S.length) (S ++ [.lst ((slowR a z ss).map rowD)])) : Ev ((callN T Wn (k + 1)).fn "slow_rows" [.tup (ss.map .str)] S) P := by
  have hl := (List.getElem?_eq_some_iff.mp hb).1
  have hc : (ss.tail ++ [cO])[0]? = some b := by
    rw [List.getElem?_append_left (by rw [List.length_tail]; omega), List.getElem?_tail]; exact hb
  refine ev_fn l_slow_rows rfl ?_
  dsimp only [Fslow_rows]
  walk_at "st"
  refine op_slc (sl_tail (by omega)) ?_
  walk_at "go"
  refine p_catT (by rw [List.length_map, List.length_tail]; show (ss.length - 1) + 1 ≤ 16777216; omega) ?_
  rw [show ss.tail.map D.str ++ [D.str cO] = (ss.tail ++ [cO]).map D.str by rw [List.map_append]; rfl]
  have hcl : (ss.tail ++ [cO]).length = ss.length := by rw [List.length_append, List.length_tail]; show ss.length - 1 + 1 = _; omega
  have hcd : (ss.tail ++ [cO]).headD cN = b := by
    cases q : ss.tail ++ [cO] with
    | nil => rw [q] at hc; cases hc
    | cons x l => rw [q] at hc; exact Option.some.inj hc
  have e0 : (slowR a z ss).map rowD = [rowD [cN, cG, cO, b]] ++ ((ss.zip (ss.tail ++ [cO])).flatMap four).map rowD ++ [rowD [z, cO, cO, a], rowD [z, cO, cR, a]] := by
    unfold slowR; rw [hcd, List.map_append, List.map_append]; rfl
  rw [e0] at kk
  have hzl : (ss.zip (ss.tail ++ [cO])).length = ss.length := by rw [List.length_zip, hcl]; omega
  have h4 : (((ss.zip (ss.tail ++ [cO])).flatMap four).map rowD).length = 4 * ss.length := by rw [List.length_map, four_len, hzl]
  rw [← zw_four] at kk h4
  clear e0 hcd hzl
  generalize ss.tail ++ [cO] = co at hc hcl kk h4 ⊢
  walk_at "go"
  refine sub_tup (at0 hc) ?_
  walk_at "go"
  refine o_growZ (S := S) (ss.map D.str) (co.map D.str) [rowD [cN, cG, cO, b]] fourD (fun e => ∃ y3 y4 y5 y6, e = [some (.tup (ss.map .str)), some (.tup (co.map .str)), some (.ref S.length), y3, y4, y5, y6]) ?_ ⟨_, _, _, _, rfl⟩ ?_ ?_
  · walk_at "go"
    exact ⟨rfl, rfl, rfl⟩
  · rintro d e2 a2 hd ⟨y3, y4, y5, y6, rfl⟩ hl2
    obtain ⟨x, y, rfl⟩ := zw_mem hd
    rw [h4] at hl2
    replace hl2 : a2.length + 4 ≤ 1 + 4 * ss.length := hl2
    walk_at "go"
    refine o_growS (S := S) [.str cN, .str cO] a2 (fun d => [.tup [d, .str x, .str cO, .str y], .tup [d, .str x, .str cR, .str y]]) (fun e => ∃ y5 y6, e = [some (.tup (ss.map .str)), some (.tup (co.map .str)), some (.ref S.length), some (.str x), some (.str y), y5, y6]) ?_ ⟨_, _, rfl⟩ ?_ ?_
    · walk_at "go"
      exact ⟨rfl, rfl⟩
    · rintro d e2 a3 hd ⟨y5, y6, rfl⟩ hl3
      replace hl3 : a3.length + 2 ≤ a2.length + 4 := hl3
      walk_at "go"
      refine o_growS (S := S) [.str cO, .str cR] a3 (fun r => [.tup [d, .str x, r, .str y]]) (fun e => ∃ y6, e = [some (.tup (ss.map .str)), some (.tup (co.map .str)), some (.ref S.length), some (.str x), some (.str y), some d, y6]) ?_ ⟨_, rfl⟩ ?_ ?_
      · walk_at "go"
        exact ⟨rfl, rfl⟩
      · rintro r e2 a4 hr ⟨y6, rfl⟩ hl4
        replace hl4 : a4.length + 1 ≤ a3.length + 2 := hl4
        walk_at "go"
        walk_at "ap"
        exact ⟨⟨_, rfl⟩, rfl⟩
      · rintro e2 ⟨y6, rfl⟩
        walk_at "go"
        exact ⟨⟨_, _, rfl⟩, rfl⟩
    · rintro e2 ⟨y5, y6, rfl⟩
      walk_at "go"
      exact ⟨⟨_, _, _, _, rfl⟩, rfl⟩
  · rintro e2 ⟨y3, y4, y5, y6, rfl⟩
    walk_at "go"
    refine o_growS (S := S) [.str cO, .str cR] ([rowD [cN, cG, cO, b]] ++ (List.zipWith (fun x y => D.tup [x, y]) (ss.map D.str) (co.map D.str)).flatMap fourD) (fun r => [.tup [.str z, .str cO, r, .str a]]) (fun e => ∃ y3 y4 y5 y6, e = [some (.tup (ss.map .str)), some (.tup (co.map .str)), some (.ref S.length), y3, y4, y5, y6]) ?_ ⟨_, _, _, _, rfl⟩ ?_ ?_
    · walk_at "go"
      exact ⟨rfl, rfl⟩
    · rintro r e2 a4 hr ⟨y3, y4, y5, y6, rfl⟩ hl4
      rw [List.length_append, h4] at hl4
      replace hl4 : a4.length + 1 ≤ 1 + 4 * ss.length + 2 := hl4
      walk_at "go"
      refine ev_mth ?_
      walk_at "go"
      refine ⟨isLs2_of get_new, ?_⟩
      walk_at "go"
      refine sub_tup (atz hz) ?_
      walk_at "go"
      refine sub_tup (at0 ha) ?_
      walk_at "go"
      refine m_append get_new (by show _ < 16777216; omega) ?_
      rw [set_new]
      walk_at "go"
      exact ⟨⟨_, _, _, _, rfl⟩, rfl⟩
    · rintro e2 ⟨y3, y4, y5, y6, rfl⟩
      walk_at "go"
      exact kk
theorem part_ok {S : Sto} {ss : List Str} {a b : Str} {P : D → Sto → Prop} (ha : ss[0]? = some a) (hb : ss[1]? = some b) (hs : ss.length < 20)
    (k1 : ∀ S1 d, Gr S S1 → lsOf S1 d = some ((partR a b ss).map rowD) → P d S1) : Ev ((callN T Wn (k + 1)).fn "parting_rows" [.tup (ss.map .str)] S) P := by
  have hl := (List.getElem?_eq_some_iff.mp hb).1
  refine ev_fn l_parting_rows rfl ?_
  dsimp only [Fparting_rows]
  walk_at "st"
  refine o_ifs ?_
  walk_at "go"
  rw [List.length_map]
  refine two_of (fun h => ?_) (fun h => ?_)
  · have h2 : ss.length = 2 := by omega
    walk_at "go"
    refine sub_tup (at1 hb) ?_
    walk_at "go"
    refine sub_tup (at0 ha) ?_
    walk_at "go"
    refine sub_tup (at0 ha) ?_
    walk_at "go"
    refine k1 _ _ Gr.one ?_
    show items _ (.ref S.length) = _
    rw [items, get_new]
    unfold partR
    rw [if_pos h2]; rfl
  · have h2 : ss.length ≠ 2 := by omega
    walk_at "go"
    refine el_comp (.vs [.str b]) [.str b] S ?_ (fun i e2 S2 acc => (∃ y z, e2 = [y, z]) ∧ S2 = S ∧ acc = ([[b, cR, cO, cO]].take i).map rowD) ⟨⟨_, _, rfl⟩, rfl, rfl⟩ (.inl rfl) ?_ ?_
    · have h : ev (callN T Wn k) (.slc (.var 0) (.yes (.int 1)) (.yes (.int 2))) [some (.tup (ss.map .str))] S = some (.tup [.str b], S) := by
        show (sliceD S (.tup (ss.map D.str)) (some 1) (some 2)).map (fun d => (d, S)) = _
        rw [sl_mid hb h2]; rfl
      have h' : evI (callN T Wn k) (.seq (.slc (.var 0) (.yes (.int 1)) (.yes (.int 2)))) [some (.tup (ss.map .str))] S = some (.vs [.str b], S) := by rw [evI, h]; rfl
      exact h'
    · rintro i d e2 S2 acc hd ⟨⟨y, z, rfl⟩, rfl, rfl⟩
      match i, hd with
      | 0, hd =>
        cases hd
        refine g_nm (et_nil ⟨fun _ => ?_, fun z => nomatch z⟩)
        show Ev (ev _ _ [y, some (.str b)] S2) _
        walk_at "go"
        exact ⟨by show 0 < 16777216; decide, ⟨_, _, rfl⟩, rfl, rfl⟩
      | i + 1, hd => cases i <;> cases hd
    · rintro e2 S2 acc ⟨_, rfl, rfl⟩
      walk_at "go"
      refine k1 _ _ Gr.refl ?_
      unfold partR
      rw [if_neg h2]; rfl
noncomputable def meetsD (d : D) : List D := [.tup [.str cN, d, .str cL, .str cF], .tup [d, .str cL, .str cN, .str cF], .tup [.str cO, d, .str cL, .str cF], .tup [d, .str cL, .str cO, .str cF]]
theorem meets_D : ∀ ss : List Str, (ss.map D.str).flatMap meetsD = (ss.flatMap meets).map rowD
  | [] => rfl
  | s :: ss => by rw [List.map_cons, List.flatMap_cons, meets_D ss, List.flatMap_cons, List.map_append]; rfl
theorem meets_len : ∀ ss : List Str, (ss.flatMap meets).length = 4 * ss.length
  | [] => rfl
  | s :: ss => by rw [List.flatMap_cons, List.length_append, meets_len ss, List.length_cons]; show 4 + _ = _; omega
theorem meet_ok {S : Sto} {ss : List Str} {z : Str} {P : D → Sto → Prop} (hz : ss.getLast? = some z) (hs : ss.length < 20) (kk : P (.ref S.length) (S ++ [.lst ((meetR z ss).map rowD)])) : Ev ((callN T Wn (k + 1)).fn "meeting_rows" [.tup (ss.map .str)] S) P := by
  refine ev_fn l_meeting_rows rfl ?_
  dsimp only [Fmeeting_rows]
  walk_at "st"
  refine sub_tup (atz hz) ?_
  walk_at "go"
  have h4 : ((ss.map D.str).flatMap meetsD).length = 4 * ss.length := by rw [meets_D, List.length_map, meets_len]
  refine o_growS (S := S) (ss.map D.str) [rowD [z, cO, cL, cF]] meetsD (fun e => ∃ y2 y3, e = [some (.tup (ss.map .str)), some (.ref S.length), y2, y3]) ?_ ⟨_, _, rfl⟩ ?_ ?_
  · walk_at "go"
    exact ⟨rfl, rfl⟩
  · rintro d e2 a2 hd ⟨y2, y3, rfl⟩ hl
    rw [h4] at hl
    replace hl : a2.length + 4 ≤ 1 + 4 * ss.length := hl
    walk_at "go"
    refine o_growS (S := S) [.str cN, .str cO] a2 (fun o => [.tup [o, d, .str cL, .str cF], .tup [d, .str cL, o, .str cF]]) (fun e => ∃ y3, e = [some (.tup (ss.map .str)), some (.ref S.length), some d, y3]) ?_ ⟨_, rfl⟩ ?_ ?_
    · walk_at "go"
      exact ⟨rfl, rfl⟩
    · rintro o e2 a3 ho ⟨y3, rfl⟩ hl3
      replace hl3 : a3.length + 2 ≤ a2.length + 4 := hl3
      walk_at "go"
      walk_at "ap"
      walk_at "ap"
      exact ⟨⟨_, rfl⟩, by rw [List.append_assoc]; rfl⟩
    · rintro e2 ⟨y3, rfl⟩
      walk_at "go"
      exact ⟨⟨_, _, rfl⟩, rfl⟩
  · rintro e2 ⟨y2, y3, rfl⟩
    walk_at "go"
    have e : (meetR z ss).map rowD = [rowD [z, cO, cL, cF]] ++ (ss.map D.str).flatMap meetsD := by rw [meets_D]; unfold meetR; rw [List.map_append]; rfl
    rw [← e]
    exact kk
theorem p_cat {S : Sto} {x y : D} {xs ys : List D} {PD : D → Prop} (hx : lsOf S x = some xs) (hy : lsOf S y = some ys) (hz : xs.length + ys.length ≤ 1000) (k : PD (.lst (xs ++ ys))) : Op (binop S .Add x y) PD := by
  refine ⟨_, ?_, k⟩
  have e : binopL S .Add x y = some (xs ++ ys) := by
    show ((lsOf S x).bind fun xs => (lsOf S y).bind fun ys => if xs.length + ys.length ≤ line then some (xs ++ ys) else none) = _
    rw [hx, hy]
    show (if xs.length + ys.length ≤ line then some (xs ++ ys) else none) = _
    rw [if_pos (by show _ ≤ 16777216; omega)]
  cases x with
  | lst l => show (binopL S .Add (.lst l) y).map D.lst = _; rw [e]; rfl
  | ref n => show (binopL S .Add (.ref n) y).map D.lst = _; rw [e]; rfl
  | _ => cases hx
theorem ls_new {S : Sto} {ds : List D} : lsOf (S ++ [.lst ds]) (.ref S.length) = some ds := by
  show items _ (.ref S.length) = _
  rw [items, get_new]
theorem ls_gr {S S' : Sto} {d : D} {ds : List D} (g : Gr S S') (h : lsOf S d = some ds) : lsOf S' d = some ds := by
  cases d with
  | lst l => exact h
  | ref n =>
    replace h : items S (.ref n) = some ds := h
    show items S' (.ref n) = some ds
    rw [items] at h ⊢
    cases q : S[n]? with
    | none => rw [q] at h; cases h
    | some o => rw [g.get q]; rw [q] at h; exact h
  | _ => cases h
structure Sl (s : Nat) : Prop where
  st : ∀ (k : Nat) (S : Sto), (callN T Wn (k + 3)).fn "slow_states" [.int (s : Nat)] S = some (.tup ((ssOf s).map .str), S)
  h0 : (ssOf s)[0]? = some (names.headD cN)
  h1 : (ssOf s)[1]? = some (names.tail.headD cN)
  hz : (ssOf s).getLast? = some ((ssOf s).getLastD cN)
  hl : (ssOf s).length < 20
  l1 : (fastR (ssOf s)).length ≤ 200
  l2 : (slowR (names.headD cN) ((ssOf s).getLastD cN) (ssOf s)).length ≤ 200
  l3 : (partR (names.headD cN) (names.tail.headD cN) (ssOf s)).length ≤ 200
  l4 : (meetR ((ssOf s).getLastD cN) (ssOf s)).length ≤ 200
  so : ∀ S : Sto, bltL S .sorted [.lst ((rowsOf s).map rowD)] = some ((sortR (rowsOf s)).map rowD)
  tbl : ∀ (k : Nat) (S : Sto), (callN T Wn (k + 6)).fn "is_table" [tb s] S = some (.bl true, S)
  mp : AllN (MP s) 39
  ck : chk s = true
local macro_rules | `(tactic| walk_at "al") => `(tactic| (repeat' first | exact trivial | exact fun _ _ => ⟨by kernel_rfl, by kernel_rfl⟩ | refine And.intro ?_ ?_))
local macro_rules | `(tactic| walk_at "sl") => `(tactic| exact ⟨fun k S => by kernel_rfl, rfl, rfl, rfl, by decide, by decide, by decide, by decide, by decide, fun S => by kernel_rfl, fun k S => by kernel_rfl, by walk_at "al", by decide +kernel⟩)
theorem sl2 : Sl 2 := by walk_at "sl"
theorem sl3 : Sl 3 := by walk_at "sl"
theorem sl4 : Sl 4 := by walk_at "sl"
theorem sl5 : Sl 5 := by walk_at "sl"
theorem sl6 : Sl 6 := by walk_at "sl"
theorem sl7 : Sl 7 := by walk_at "sl"
theorem sl8 : Sl 8 := by walk_at "sl"
theorem sl9 : Sl 9 := by walk_at "sl"
theorem sl_at : ∀ s : Nat, 2 ≤ s → s ≤ 9 → Sl s
  | 0, h, _ => absurd h (by decide) | 1, h, _ => absurd h (by decide) | 2, _, _ => sl2 | 3, _, _ => sl3 | 4, _, _ => sl4 | 5, _, _ => sl5 | 6, _, _ => sl6 | 7, _, _ => sl7 | 8, _, _ => sl8 | 9, _, _ => sl9
  | s + 10, _, h => absurd h (by omega)
theorem marker_ok {S : Sto} {s : Nat} {P : D → Sto → Prop} (sl : Sl s) (kk : ∀ S', Gr S S' → P (tb s) S') : Ev ((callN T Wn (k + 4)).fn "marker" [.int (s : Nat)] S) P := by
  refine ev_fn l_marker rfl ?_
  dsimp only [Fmarker]
  walk_at "st"
  refine ⟨_, _, sl.st _ _, ?_⟩
  walk_at "go"
  have hl := (List.getElem?_eq_some_iff.mp sl.h1).1
  refine fast_ok (by omega) sl.hl ?_
  walk_at "go"
  refine slow_ok sl.h0 sl.h1 sl.hz sl.hl ?_
  walk_at "go"
  refine p_cat (ls_gr Gr.one ls_new) ls_new (by rw [List.length_map, List.length_map]; have := sl.l1; have := sl.l2; omega) ?_
  walk_at "go"
  refine part_ok sl.h0 sl.h1 sl.hl (fun S1 d1 g1 hd1 => ?_)
  walk_at "go"
  refine p_cat rfl hd1 (by simp only [List.length_append, List.length_map]; have := sl.l1; have := sl.l2; have := sl.l3; omega) ?_
  walk_at "go"
  refine meet_ok sl.hz sl.hl ?_
  walk_at "go"
  refine p_cat rfl ls_new (by simp only [List.length_append, List.length_map]; have := sl.l1; have := sl.l2; have := sl.l3; have := sl.l4; omega) ?_
  rw [← List.map_append, ← List.map_append, ← List.map_append]
  walk_at "go"
  refine ⟨_, sl.so _, ?_⟩
  walk_at "go"
  exact kk _ (((Gr.one.trans Gr.one).trans g1).trans Gr.one)
end
end K84
namespace K84
open PySem L2 PF
section
variable {k : Nat}
local macro_rules | `(tactic| walk_at "s1") => `(tactic| with_reducible first | refine ev_gl gO ?_ | refine ev_gl gR ?_ | refine ev_gl gL ?_ | refine ev_gl gG ?_ | refine ev_gl gF ?_ | refine ev_gl gN ?_)
local macro_rules | `(tactic| walk_at "ap") => `(tactic| (refine ev_mth ?_; walk_at "go"; refine ⟨isLs2_of get_new, ?_⟩; walk_at "go"; refine m_append get_new (by show _ < 16777216; first | omega | (simp only [List.length_append, List.length_cons, List.length_nil]; omega)) ?_; rw [set_new]; walk_at "go"))
theorem compG_vs {α : Type} {step : D → En → Sto → List α → Option (List α × En × Sto)} {ds : List D} {S : Sto} (Pe : En → Prop) (g : D → List α) (hs : ∀ d ∈ ds, ∀ e acc, Pe e → acc.length + (g d).length ≤ line → ∃ e', step d e S acc = some (acc ++ g d, e', S) ∧ Pe e') :
    ∀ (m i : Nat) (acc : List α) (e : En), i + m = ds.length → Pe e → acc.length + ((ds.drop i).flatMap g).length ≤ line → ∃ e', compG (.vs ds) step (m + 1) i e S acc = some (acc ++ (ds.drop i).flatMap g, e', S) ∧ Pe e'
  | 0, i, acc, e, hm, he, hz => by
    refine ⟨e, ?_, he⟩
    rw [List.drop_of_length_le (by omega)]
    rw [compG]
    show (some ds[i]?).bind _ = _
    rw [List.getElem?_eq_none (by omega)]
    simp
  | m + 1, i, acc, e, hm, he, hz => by
    have hi : i < ds.length := by omega
    rw [List.drop_eq_getElem_cons hi, List.flatMap_cons, List.length_append] at hz
    obtain ⟨e1, h1, p1⟩ := hs ds[i] (List.getElem_mem hi) e acc he (by omega)
    obtain ⟨e2, h2, p2⟩ := compG_vs Pe g hs m (i + 1) (acc ++ g ds[i]) e1 (by omega) p1 (by rw [List.length_append]; omega)
    refine ⟨e2, ?_, p2⟩
    rw [compG]
    show (some ds[i]?).bind _ = _
    rw [List.getElem?_eq_getElem hi]
    show (step ds[i] e S acc).bind _ = _
    rw [h1]
    show compG (.vs ds) step (m + 1) (i + 1) e1 S (acc ++ g ds[i]) = _
    rw [h2, List.drop_eq_getElem_cons hi, List.flatMap_cons, List.append_assoc]
theorem Ev.eq' {o : Option (D × Sto)} {d : D} {S : Sto} (h : Ev o fun d' S' => d' = d ∧ S' = S) : o = some (d, S) := by
  obtain ⟨d', S', h, rfl, rfl⟩ := h
  exact h
theorem strs_of (l : List Str) : strsD (l.map D.str) = some l := by
  induction l with
  | nil => rfl
  | cons x l ih => show (strsD (l.map D.str)).map (x :: ·) = _; rw [ih]; rfl
theorem put_new {κ : Type} [DecidableEq κ] {kvs : List (κ × D)} {k : κ} {v : D} (h : ∀ q ∈ kvs, q.1 ≠ k) : putD kvs k v = kvs ++ [(k, v)] := by
  unfold putD
  rw [if_neg]
  intro z
  obtain ⟨q, hq, e⟩ := List.any_eq_true.mp z
  exact h q hq (of_decide_eq_true e)
theorem merge_new {κ : Type} [DecidableEq κ] : ∀ {more kvs : List (κ × D)}, (∀ p ∈ more, ∀ q ∈ kvs, q.1 ≠ p.1) → (more.map (·.1)).Nodup → mergeG kvs more = kvs ++ more
  | [], kvs, _, _ => by simp [mergeG]
  | p :: more, kvs, h, n => by
    rw [List.map_cons, List.nodup_cons] at n
    have e : mergeG kvs (p :: more) = mergeG (putD kvs p.1 p.2) more := rfl
    rw [e, put_new (h p (List.mem_cons_self ..)), merge_new ?_ n.2]
    · simp
    · intro x hx q hq
      rcases List.mem_append.mp hq with hq | hq
      · exact h x (List.mem_cons_of_mem _ hx) q hq
      · have : q = (p.1, p.2) := by simpa using hq
        subst this
        intro z
        exact n.1 (List.mem_map.mpr ⟨x, hx, z.symm⟩)
noncomputable def kvG : D → List (List Key × D)
  | .tup ds => (match strsD ds with
    | some l => [kvOf l]
    | none => [])
  | _ => []
theorem kvG_flat : ∀ ls : List (List Str), (ls.map rowD).flatMap kvG = ls.map kvOf
  | [] => rfl
  | l :: ls => by
    rw [List.map_cons, List.flatMap_cons, kvG_flat ls, List.map_cons]
    show (match strsD (l.map D.str) with | some l => [kvOf l] | none => []) ++ _ = _
    rw [strs_of]
    rfl
theorem dof_ev {c : Cl} {S : Sto} {ls : List (List Str)} (h4 : ∀ l ∈ ls, l.length = 4) (hz : ls.length ≤ line) (hn : ((ls.map kvOf).map (·.1)).Nodup) {env : En} {ex : Ex} (hr : ev c ex env S = some (.tup (ls.map rowD), S)) :
    ev c (.dofT 2 [] (.name 1) (.seq ex) (.var 1) (3) (.sub (.var 1) (.int (3)))) env S = some (.ref S.length, S ++ [.dt (ls.map kvOf)]) := by
  have st : ∀ d ∈ ls.map rowD, ∀ e acc, (∃ a b, e = [a, b]) → acc.length + (kvG d).length ≤ line → ∃ e', stepG (fun d e S => asg c (.name 1) d e S) (emit1 (pairT 3 (fun e S => ev c (.var 1) e S) (fun e S => ev c (.sub (.var 1) (.int (3))) e S))) d e S acc = some (acc ++ kvG d, e', S) ∧ ∃ a b, e' = [a, b] := by
    rintro d hd e acc ⟨a, b, rfl⟩ hz
    obtain ⟨l, hl, rfl⟩ := List.mem_map.mp hd
    obtain ⟨x1, x2, x3, x4, rfl⟩ : ∃ x1 x2 x3 x4, l = [x1, x2, x3, x4] := by
      match l, h4 l hl with
      | [a, b, c, d], _ => exact ⟨a, b, c, d, rfl⟩
    refine ⟨[a, some (rowD [x1, x2, x3, x4])], ?_, ⟨_, _, rfl⟩⟩
    have hp : pairT 3 (fun e S => ev c (.var 1) e S) (fun e S => ev c (.sub (.var 1) (.int (3))) e S) [a, some (rowD [x1, x2, x3, x4])] S = some (kvOf [x1, x2, x3, x4], S) := by
      have ha : ev c (.var 1) [a, some (rowD [x1, x2, x3, x4])] S = some (rowD [x1, x2, x3, x4], S) := by rw [ev]; rfl
      have hv : ev c (.sub (.var 1) (.int (3))) [a, some (rowD [x1, x2, x3, x4])] S = some (.str x4, S) := by
        refine Ev.eq' ?_
        unfold rowD
        walk_at "go"
        exact ⟨rfl, rfl⟩
      unfold pairT
      simp only [ha, Option.bind_some, hv]
      show (if (0 : Int) ≤ 3 ∧ (3 : Int) < ([D.str x1, D.str x2, D.str x3, D.str x4].length : Nat) then _ else none) = _
      rw [if_pos ⟨by decide, by simp⟩]
      rfl
    unfold stepG
    show ((asg c (.name 1) (rowD [x1, x2, x3, x4]) [a, b] S).bind _) = _
    rw [asg]
    show emit1 (pairT 3 (fun e S => ev c (.var 1) e S) (fun e S => ev c (.sub (.var 1) (.int (3))) e S)) [a, some (rowD [x1, x2, x3, x4])] S acc = _
    unfold emit1
    rw [hp]
    show (if acc.length < line then _ else none) = _
    have hz' : acc.length + 1 ≤ line := hz
    rw [if_pos (by omega)]
    rfl
  have key := compG_vs (ds := ls.map rowD) (fun e => ∃ a b, e = [a, b]) kvG st (ls.map rowD).length 0 [] [none, none] (by omega) ⟨_, _, rfl⟩ (by rw [List.drop_zero, kvG_flat, List.length_map, List.length_nil]; omega)
  rw [List.drop_zero, kvG_flat] at key
  obtain ⟨e', h, _⟩ := key
  have hi : evI c (.seq ex) env S = some (.vs (ls.map rowD), S) := by
    rw [evI, hr]
    rfl
  rw [ev, hi]
  simp only [Option.bind_some]
  show (compG (.vs (ls.map rowD)) _ ((ls.map rowD).length + 1) 0 [none, none] S []).map _ = _
  rw [h]
  show some (D.ref S.length, S ++ [Ob.dt (mergeG [] ([] ++ ls.map kvOf))]) = _
  rw [List.nil_append, merge_new (fun _ _ _ hq => by cases hq) hn, List.nil_append]
noncomputable def nD (c : Nat) : D := .str (nam c)
theorem stp_len (T : Nat) : ∀ (rw : List Nat) (l : Nat), (stp T l rw).length = rw.length
  | [], _ => rfl
  | o :: r, l => by rw [stp, List.length_cons, List.length_cons, stp_len T r]
theorem stp_get (T : Nat) : ∀ (rw : List Nat) (l i o : Nat), rw[i]? = some o → ∃ l' r', (l :: rw)[i]? = some l' ∧ (rw ++ [0])[i + 1]? = some r' ∧ (stp T l rw)[i]? = some (nst T l' o r')
  | [], _, i, o, h => by cases h
  | x :: r, l, 0, o, h => by
    cases h
    refine ⟨l, r.headD 0, rfl, ?_, rfl⟩
    cases r <;> rfl
  | x :: r, l, i + 1, o, h => by
    obtain ⟨l', r', h1, h2, h3⟩ := stp_get T r x i o h
    exact ⟨l', r', h1, h2, h3⟩
theorem val_at {s l o r : Nat} (sl : Sl s) (hl : l < 15) (ho : o < 15) (hr : r < 15) : (valD ((sortR (rowsOf s)).map kvOf) [.inr (nam l), .inr (nam o), .inr (nam r)]).getD (.str (nam o)) = nD (nst (tab s) l o r) := by
  have ck := sl.ck
  simp only [chk, Bool.and_eq_true] at ck
  obtain ⟨⟨⟨⟨⟨⟨_, _⟩, hrow⟩, hnd⟩, _⟩, _⟩, _⟩ := ck
  have hB : ∀ x ∈ sortR (rowsOf s), rowB x = true := fun x hx => List.all_eq_true.mp hrow x hx
  rw [val_num hl ho hr hB]
  unfold nD tab
  rw [nst_eq ?_ (of_decide_eq_true hnd) (by omega) (by omega)]
  · rfl
  · intro p hp
    obtain ⟨x, hx, rfl⟩ := List.mem_map.mp hp
    have hx := hB x hx
    match x, hx with
    | [a, b, c, d], hx =>
      simp only [rowB, Bool.and_eq_true, decide_eq_true_eq, Nat.blt_eq] at hx
      show cod d < 16
      omega
theorem behind_ok {S : Sto} {n s : Nat} {rw : List Nat} {P : D → Sto → Prop} (sl : Sl s) (hn : S[n]? = some (.dt ((sortR (rowsOf s)).map kvOf))) (hg : ∀ c ∈ rw, c < 15) (hz : rw.length ≤ 900) (kk : P (.lst ((stp (tab s) 0 rw).map nD)) S) :
    Ev ((callN T Wn (k + 2)).fn "_law_behind" [.ref n, .lst (rw.map nD)] S) P := by
  refine ev_fn l_law_behind rfl ?_
  dsimp only [F_law_behind]
  walk_at "st"
  refine p_cat rfl rfl (by rw [List.length_map]; show 1 + rw.length ≤ 1000; omega) ?_
  walk_at "go"
  refine p_cat rfl rfl (by rw [List.length_append, List.length_map]; show 1 + rw.length + 1 ≤ 1000; omega) ?_
  have hw : [D.str (Str.ofString "")] ++ rw.map nD ++ [D.str (Str.ofString "")] = (0 :: (rw ++ [0])).map nD := by rw [List.map_cons, List.map_append]; rfl
  rw [hw]
  clear hw
  walk_at "go"
  have hlen : (0 :: (rw ++ [0])).length = rw.length + 2 := by rw [List.length_cons, List.length_append]; rfl
  refine el_comp (.vs ((rw.map nD).mapIdx fun k d => D.tup [.int (k : Int), d])) ((rw.map nD).mapIdx fun k d => D.tup [.int (k : Int), d]) S (by rw [evI, ev]; rfl) (fun i e2 S2 acc => (∃ y0 y1 y2, e2 = [y0, y1, y2, some (.ref n), some (.lst ((0 :: (rw ++ [0])).map nD))]) ∧ S2 = S ∧ acc = ((stp (tab s) 0 rw).take i).map nD) ⟨⟨_, _, _, rfl⟩, rfl, rfl⟩ (.inl rfl) ?_ ?_
  · rintro i d e2 S2 acc hd ⟨⟨y0, y1, y2, rfl⟩, rfl, rfl⟩
    rw [List.getElem?_mapIdx, List.getElem?_map] at hd
    cases q : rw[i]? with
    | none => rw [q] at hd; cases hd
    | some o =>
      rw [q] at hd
      cases hd
      have hi := (List.getElem?_eq_some_iff.mp q).1
      obtain ⟨l, r, h1, h2, h3⟩ := stp_get (tab s) rw 0 i o q
      have ho : o < 15 := hg o (List.mem_of_getElem? q)
      have hl : l < 15 := by
        rcases List.mem_cons.mp (List.mem_of_getElem? h1) with e | e
        · omega
        · exact hg l e
      have hr : r < 15 := by
        rcases List.mem_append.mp (List.mem_of_getElem? h2) with e | e
        · exact hg r e
        · have : r = 0 := by simpa using e
          omega
      have w0 : ((0 :: (rw ++ [0])).map nD)[i]? = some (nD l) := by
        rw [List.getElem?_map, ← List.cons_append, List.getElem?_append_left (by rw [List.length_cons]; omega), h1]; rfl
      have w2 : ((0 :: (rw ++ [0])).map nD)[i + 2]? = some (nD r) := by
        rw [List.getElem?_map, List.getElem?_cons_succ, h2]; rfl
      have va := val_at sl hl ho hr
      have htk : (stp (tab s) 0 rw).take (i + 1) = (stp (tab s) 0 rw).take i ++ [nst (tab s) l o r] := by rw [List.take_succ, h3]; rfl
      rw [htk]
      have hal : (((stp (tab s) 0 rw).take i).map nD).length < line := by
        rw [List.length_map, List.length_take, stp_len]; show _ < 16777216; omega
      generalize ((stp (tab s) 0 rw).take i) = tk at hal ⊢
      generalize (0 :: (rw ++ [0])).map nD = wide at w0 w2 ⊢
      refine g_tp (gs_cons (g_nm (gs_cons (g_nm (gs_nil (et_nil ⟨fun _ => ?_, fun z => nomatch z⟩))))))
      show Ev (ev _ _ [y0, some (.int (i : Int)), some (nD o), some (.ref n), some (.lst wide)] S2) _
      walk_at "go"
      refine ⟨n, _, rfl, hn, ?_⟩
      walk_at "go"
      refine sub_lst (atI_nat w0) ?_
      walk_at "go"
      refine sub_lst (show atI wide ((i : Int) + 2) = _ from atI_nat w2) ?_
      walk_at "go"
      refine ⟨_, [.inr (nam l), .inr (nam o), .inr (nam r)], hn, rfl, ?_⟩
      refine ⟨hal, ⟨_, _, _, rfl⟩, rfl, ?_⟩
      rw [List.map_append]
      show _ = _ ++ [nD (nst (tab s) l o r)]
      rw [← va]; rfl
  · rintro e2 S2 acc ⟨_, rfl, rfl⟩
    rw [List.length_mapIdx, List.length_map, List.take_of_length_le (by rw [stp_len]; exact Nat.le_refl _)]
    walk_at "go"
    exact kk
end
end K84
namespace K84
open PySem L2 PF
section
variable {k : Nat}
local macro_rules | `(tactic| walk_at "s1") => `(tactic| with_reducible first | refine ev_gl gO ?_ | refine ev_gl gR ?_ | refine ev_gl gL ?_ | refine ev_gl gG ?_ | refine ev_gl gF ?_ | refine ev_gl gN ?_)
local macro_rules | `(tactic| walk_at "ap") => `(tactic| (refine ev_mth ?_; walk_at "go"; refine ⟨isLs2_of get_new, ?_⟩; walk_at "go"; refine m_append get_new (by show _ < 16777216; first | omega | (simp only [List.length_append, List.length_cons, List.length_nil]; omega)) ?_; rw [set_new]; walk_at "go"))
theorem ints_ok : ∀ l : List Int, pureDs (l.map D.int) = true ∧ PyData.canLayAll0 (toPs (l.map D.int)) = true ∧ PyData.depthAll (toPs (l.map D.int)) = 0
  | [] => ⟨rfl, rfl, rfl⟩
  | a :: l => by
    obtain ⟨h1, h2, h3⟩ := ints_ok l
    refine ⟨?_, ?_, ?_⟩
    · rw [List.map_cons, pureDs, h1]; rfl
    · rw [List.map_cons, toPs, PyData.canLayAll0, h2]; rfl
    · rw [List.map_cons, toPs, PyData.depthAll, h3]; rfl
theorem ok_ints (l : List Int) : okD (.lst (l.map D.int)) = true := by
  obtain ⟨h1, h2, h3⟩ := ints_ok l
  unfold okD
  rw [pureD, h1, toP, PyData.canLay0, h2, PyData.depth, h3]; rfl
theorem eq_self {S : Sto} {d : D} (hs : scalD d d = false) (h : okD d = true) : eqD S d d = some true := by
  unfold eqD
  rw [hs, h]
  have hc : (toP d).canLay0 = true := by
    unfold okD at h
    simp only [Bool.and_eq_true] at h
    exact h.1.2
  simp only [Bool.false_eq_true, if_false, Bool.and_self, if_true, PySem.SeqAt.eqv_refl _ hc]
theorem binop_lst {S : Sto} {op : Operator} {xs : List D} {y : D} : binop S op (.lst xs) y = (binopL S op (.lst xs) y).map .lst := by
  cases op <;> rfl
theorem rep_flat {x : D} : ∀ m : Nat, (List.replicate m [x]).flatten = List.replicate m x
  | 0 => rfl
  | m + 1 => by rw [List.replicate_succ, List.flatten_cons, rep_flat m]; rfl
theorem mulL {S : Sto} {x : D} {n : Int} {m : Nat} (e : n = m) (hz : m ≤ 1000000) : binopL S .Mult (.lst [x]) (.int n) = some (List.replicate m x) := by
  rw [binopL]
  show (if n < 2 ^ 62 ∧ -(2 ^ 62) < n ∧ [x].length * n.toNat ≤ line then some (List.replicate n.toNat [x]).flatten else none) = _
  have e2 : n.toNat = m := by omega
  rw [e2, rep_flat, if_pos]
  refine ⟨by omega, by omega, ?_⟩
  rw [List.length_singleton, Nat.one_mul]
  show m ≤ 16777216
  omega
theorem p_repL {S : Sto} {x : D} {n : Int} {m : Nat} {PD : D → Prop} (e : n = m) (hz : m ≤ 1000000) (k : PD (.lst (List.replicate m x))) : Op (binop S .Mult (.lst [x]) (.int n)) PD :=
  ⟨_, by rw [binop_lst, mulL e hz]; rfl, k⟩
theorem c_eqs {S : Sto} {x y : Str} {PB : Bool → Prop} (k : PB (decide (x = y))) : Op (cmpop S .Eq (.str x) (.str y)) PB := by
  refine ⟨_, rfl, ?_⟩
  have e : decide (D.str x = D.str y) = decide (x = y) := by simp
  rw [e]; exact k
theorem in_no {S : Sto} {rw : List Nat} {PB : Bool → Prop} (h : ∀ c ∈ rw, c < 15 ∧ c ≠ 3) (k : PB false) : Op (cmpop S .In (.str cF) (.lst (rw.map nD))) PB := by
  refine ⟨false, ?_, k⟩
  show (some (rw.map nD)).bind (fun ys => if flatD (.str cF) && ys.all flatD then some (ys.any fun z => eqF z (.str cF)) else none) = _
  have h1 : (rw.map nD).all flatD = true := by
    rw [List.all_map]
    exact List.all_eq_true.mpr fun c _ => rfl
  have h2 : ((rw.map nD).any fun z => eqF z (.str cF)) = false := by
    rw [List.any_map]
    refine List.any_eq_false.mpr fun c hc => ?_
    show ¬ (nam c == cF) = true
    intro e
    have e : nam c = nam 3 := eq_of_beq e
    exact (h c hc).2 (nam_inj (h c hc).1 (by decide) e)
  show (if flatD (.str cF) && (rw.map nD).all flatD then some ((rw.map nD).any fun z => eqF z (.str cF)) else none) = _
  rw [h1, h2]; rfl
theorem fl_snoc : ∀ (xs : List Nat) (i c : Nat), fl i (xs ++ [c]) = fl i xs ++ (if c == 3 then [i + xs.length] else [])
  | [], i, c => by
    show (if c == 3 then i :: fl (i + 1) [] else fl (i + 1) []) = _
    split <;> rfl
  | x :: xs, i, c => by
    rw [List.cons_append, fl, fl, fl_snoc xs, List.length_cons, show i + 1 + xs.length = i + (xs.length + 1) by omega]
    split <;> rfl
theorem keys_nd {s : Nat} (sl : Sl s) : ((((sortR (rowsOf s)).map kvOf).map (·.1)).Nodup ∧ ∀ l ∈ sortR (rowsOf s), l.length = 4) ∧ (sortR (rowsOf s)).length < 128 := by
  have ck := sl.ck
  simp only [chk, Bool.and_eq_true] at ck
  obtain ⟨⟨⟨⟨⟨⟨_, _⟩, hrow⟩, hnd⟩, _⟩, hl⟩, _⟩ := ck
  have h4 : ∀ l ∈ sortR (rowsOf s), l.length = 4 := fun x hx => by
    have hx := List.all_eq_true.mp hrow x hx
    match x, hx with
    | [a, b, c, d], hx => rfl
  refine ⟨⟨?_, h4⟩, of_decide_eq_true hl⟩
  have hnd := of_decide_eq_true hnd
  unfold rulesN at hnd
  rw [List.map_map] at hnd ⊢
  have hp := List.pairwise_map.mp hnd
  refine List.pairwise_map.mpr (hp.imp_of_mem fun {x y} hx hy hne e => hne ?_)
  have hx := h4 x hx
  have hy := h4 y hy
  match x, y, hx, hy, e with
  | [a, b, c, d], [a', b', c', d'], _, _, e =>
    have e : ([.inr a, .inr b, .inr c] : List Key) = [.inr a', .inr b', .inr c'] := e
    simp only [List.cons.injEq, Sum.inr.injEq, and_true] at e
    show (numR [a, b, c, d]).1 = (numR [a', b', c', d']).1
    rw [e.1, e.2.1, e.2.2]; rfl
theorem good_at {m c : Nat} (h : good m c = true) (hm : m ≤ 15) : c < 15 := by
  unfold good at h
  rw [Bool.and_eq_true] at h
  have := Nat.blt_eq.mp h.2
  omega
theorem fires_ok {S : Sto} {s n b l r : Nat} {P : D → Sto → Prop} (sl : Sl s) (hs : s ≤ 9) (hn : 2 ≤ n) (hn2 : n ≤ 40) (hb : b < 1000) (hl : l < 1000) (hr : r < 1000) (sim : simP (tab s) (6 + s) (List.range' l (r + 1 - l)) b (row0 n)) (kk : ∀ S', Gr S S' → P (.bl true) S') :
    Ev ((callN T Wn (k + 4)).fn "_law_fires_so" [tb s, .int (n : Nat), .tup [.int (b : Nat), .int (l : Nat), .int (r : Nat)]] S) P := by
  obtain ⟨⟨knd, h4⟩, hlen⟩ := keys_nd sl
  refine ev_fn l_law_fires_so rfl ?_
  dsimp only [F_law_fires_so]
  walk_at "st"
  have hr0 : ev (callN T Wn (k + 3)) (.sub (.var 0) (.int 4)) [some (tb s), some (.int (n : Nat)), some (.tup [.int (b : Nat), .int (l : Nat), .int (r : Nat)]), none, none, none, none, none, none] S = some (.tup ((sortR (rowsOf s)).map rowD), S) := by
    refine Ev.eq' ?_
    unfold tb
    walk_at "go"
    exact ⟨rfl, rfl⟩
  refine ⟨_, _, dof_ev h4 (by show _ ≤ 16777216; omega) knd hr0, ?_⟩
  walk_at "go"
  refine p_repL (m := n - 1) (by omega) (by omega) ?_
  walk_at "go"
  refine p_cat rfl rfl (by rw [List.length_replicate]; show 1 + (n - 1) ≤ 1000; omega) ?_
  have e0 : [D.str cG] ++ List.replicate (n - 1) (D.str cO) = (row0 n).map nD := by
    unfold row0
    rw [List.map_cons, List.map_replicate]; rfl
  rw [e0]
  have l0 : (row0 n).length = n := by unfold row0; rw [List.length_cons, List.length_replicate]; omega
  walk_at "go"
  have hS1 : (S ++ [Ob.dt ((sortR (rowsOf s)).map kvOf)])[S.length]? = some (.dt ((sortR (rowsOf s)).map kvOf)) := get_new
  have hG : Gr S (S ++ [Ob.dt ((sortR (rowsOf s)).map kvOf)]) := Gr.one
  generalize S ++ [Ob.dt ((sortR (rowsOf s)).map kvOf)] = S1 at hS1 hG ⊢
  refine o_rng1 ?_
  walk_at "go"
  refine ⟨(b : Nat), fun i e2 S2 => ∃ (rw : List Nat) (y8 : Option D), e2 = [some (tb s), some (.int (n : Nat)), some (.tup [.int (b : Nat), .int (l : Nat), .int (r : Nat)]), some (.lst (rw.map nD)), some (.ref S.length), some (.int (b : Nat)), some (.int (l : Nat)), some (.int (r : Nat)), y8] ∧ S2 = S1 ∧ i ≤ b ∧ simP (tab s) (6 + s) (List.range' l (r + 1 - l)) (b - i) rw ∧ rw.length = n, rfl, by omega, by omega, ⟨row0 n, _, rfl, rfl, by omega, sim, l0⟩, ?_, ?_⟩
  · rintro i e2 S2 hi ⟨rw, y8, rfl, rfl, hib, hsim, hrl⟩
    have hi : i < b := by omega
    rw [show b - i = (b - (i + 1)) + 1 by omega, simP] at hsim
    obtain ⟨hgood, hsim⟩ := hsim
    walk_at "go"
    refine o_ifs ?_
    walk_at "go"
    refine in_no (fun c hc => ⟨good_at (hgood c hc).1 (by omega), (hgood c hc).2⟩) ?_
    walk_at "go"
    refine behind_ok sl hS1 (fun c hc => good_at (hgood c hc).1 (by omega)) (by omega) ?_
    walk_at "go"
    exact ⟨stp (tab s) 0 rw, _, rfl, rfl, by omega, hsim, by rw [stp_len]; exact hrl⟩
  · rintro e2 S2 ⟨rw, y8, rfl, rfl, hib, hsim, hrl⟩
    rw [show b - ((b : Nat) : Int).toNat = 0 by omega, simP] at hsim
    obtain ⟨hgood, hfl⟩ := hsim
    walk_at "go"
    refine el_comp (.vs ((List.range (n : Int).toNat).map fun (k : Nat) => D.int (0 + (k : Int)))) _ S2 (rng_ev rfl (by omega) (by omega)) (fun i e2 S3 acc => (∃ y0 y1, e2 = [y0, y1, some (.lst (rw.map nD)), some (tb s)]) ∧ S3 = S2 ∧ acc = (fl 0 (rw.take i)).map fun j => D.int (j : Nat)) ⟨⟨_, _, rfl⟩, rfl, rfl⟩ (.inl rfl) ?_ ?_
    · rintro i d e2 S3 acc hd ⟨⟨y0, y1, rfl⟩, rfl, rfl⟩
      obtain ⟨hi, rfl⟩ := rng_get hd
      rw [Int.toNat_natCast] at hi
      have hx : rw[i]? = some rw[i] := List.getElem?_eq_getElem (by omega)
      have hc15 := good_at (hgood _ (List.mem_of_getElem? hx)) (by omega)
      generalize rw[i] = c at hx hc15
      have hm : (rw.map nD)[i]? = some (.str (nam c)) := by rw [List.getElem?_map, hx]; rfl
      have htk : fl 0 (rw.take (i + 1)) = fl 0 (rw.take i) ++ (if c == 3 then [i] else []) := by
        rw [List.take_succ, hx]
        show fl 0 (rw.take i ++ [c]) = _
        rw [fl_snoc, List.length_take, Nat.zero_add, show min i rw.length = i by omega]
      have hal : ((fl 0 (rw.take i)).map fun j => D.int (j : Nat)).length < line := by
        have : ∀ (xs : List Nat) (q : Nat), (fl q xs).length ≤ xs.length := fun xs => by
          induction xs with
          | nil => intro q; exact Nat.le_refl _
          | cons x xs ih =>
            intro q
            rw [fl]
            have := ih (q + 1)
            split <;> simp only [List.length_cons] <;> omega
        have := this (rw.take i) 0
        rw [List.length_map]
        rw [List.length_take] at this
        show _ < 16777216
        omega
      rw [htk]
      refine g_nm (et_cons ?_)
      show Ev (ev _ _ [y0, some (.int (i : Int)), some (.lst (rw.map nD)), some (tb s)] S3) _
      walk_at "go"
      refine sub_lst (atI_nat hm) ?_
      walk_at "go"
      refine c_eqs ?_
      refine t_bl ?_
      have heq : decide (nam c = cF) = (c == 3) := by
        rw [Bool.eq_iff_iff, decide_eq_true_eq, beq_iff_eq]
        exact ⟨fun e => nam_inj hc15 (by decide) (show nam c = nam 3 from e), fun e => by rw [e]; rfl⟩
      rw [heq]
      refine ⟨fun ht => et_nil ⟨fun _ => ?_, fun z => nomatch z⟩, fun ht => ?_⟩
      · rw [ht]
        walk_at "go"
        exact ⟨hal, ⟨_, _, rfl⟩, rfl, by rw [if_pos rfl, List.map_append]; rfl⟩
      · rw [ht]
        exact ⟨(fun z => nomatch z), fun _ => ⟨⟨_, _, rfl⟩, rfl, by simp⟩⟩
    · rintro e2 S3 acc ⟨_, rfl, rfl⟩
      rw [List.length_map, List.length_range, Int.toNat_natCast, List.take_of_length_le (by omega), hfl]
      walk_at "go"
      refine el_lrng2 ?_
      walk_at "go"
      refine ⟨_, _, rfl, rfl, by omega, ?_⟩
      have e : ((List.range' l (r + 1 - l)).map fun j => D.int (j : Nat)) = (List.range (((r : Nat) : Int) + 1 - ((l : Nat) : Int)).toNat).map fun (k : Nat) => D.int (((l : Nat) : Int) + (k : Int)) := by
        rw [show (((r : Nat) : Int) + 1 - ((l : Nat) : Int)).toNat = r + 1 - l by omega, List.range'_eq_map_range, List.map_map]
        refine List.map_congr_left fun j _ => ?_
        show D.int ((l + j : Nat) : Int) = _
        rw [Int.natCast_add]
      rw [← e]
      have e3 : ((List.range' l (r + 1 - l)).map fun j => D.int (j : Nat)) = ((List.range' l (r + 1 - l)).map fun j => ((j : Nat) : Int)).map D.int := by rw [List.map_map]; rfl
      rw [e3]
      refine ⟨true, eq_self rfl (ok_ints _), ?_⟩
      walk_at "go"
      exact kk _ hG
end
end K84
namespace K84
open PySem L2 PF
theorem t_take : T.lookup ("_law_take" : Str) = some LA.take := by kernel_rfl
theorem t_hand : T.lookup ("_law_hand" : Str) = some LA.hand := by kernel_rfl
theorem t_same : T.lookup ("_law_same" : Str) = some LC.same := by kernel_rfl
theorem allN_at {P : Nat → Prop} : ∀ {m : Nat}, AllN P m → ∀ n, 2 ≤ n → n < m + 2 → P n
  | 0, _, n, h1, h2 => absurd h1 (by omega)
  | m + 1, h, n, h1, h2 => by
    by_cases e : n = m + 2
    · rw [e]; exact h.1
    · exact allN_at h.2 n h1 (by omega)
theorem allB_at {P : Nat → Bool} : ∀ {m : Nat}, AllB P m = true → ∀ n, 2 ≤ n → n < m + 2 → P n = true
  | 0, _, n, h1, h2 => absurd h1 (by omega)
  | m + 1, h, n, h1, h2 => by
    rw [AllB, Bool.and_eq_true] at h
    by_cases e : n = m + 2
    · rw [e]; exact h.1
    · exact allB_at h.2 n h1 (by omega)
structure Tk (s : Nat) (d : D) : Prop where
  mr : ∀ {S : Sto} {P : D → Sto → Prop}, (∀ S', Gr S S' → P d S') → Ev ((callN T Wn 7).fn "marker" [.int (s : Nat)] S) P
  it : ∀ {S : Sto} {P : D → Sto → Prop}, P (.bl true) S → Ev ((callN T Wn 7).fn "is_table" [d] S) P
  eq : ∀ {S : Sto} {PB : Bool → Prop}, PB false → Op (cmpop S .NotEq d d) PB
  nx : ∀ n, 2 ≤ n → n ≤ 40 → ∃ e : D, (∀ {S : Sto} {P : D → Sto → Prop}, P e S → Ev ((callN T Wn 7).fn "_law_meeting" [.int (n : Nat), .int (s : Nat)] S) P) ∧ (∀ {S : Sto} {P : D → Sto → Prop}, P e S → Ev ((callN T Wn 7).fn "marked" [.int (n : Nat), .int (s : Nat)] S) P) ∧
    (∀ {S : Sto} {P : D → Sto → Prop}, P (.bl true) S → Ev ((callN T Wn 7).fn "_law_same" [e, e] S) P) ∧ (∀ {S : Sto} {P : D → Sto → Prop}, (∀ S', Gr S S' → P (.bl true) S') → Ev ((callN T Wn 7).fn "_law_fires_so" [d, .int (n : Nat), e] S) P)
theorem tk_at {s : Nat} (hs2 : 2 ≤ s) (hs9 : s ≤ 9) : ∃ d, Tk s d := by
  have sl := sl_at s hs2 hs9
  have ck := sl.ck
  simp only [chk, Bool.and_eq_true] at ck
  obtain ⟨⟨⟨⟨⟨⟨hbnd, hsim⟩, _⟩, _⟩, hok⟩, _⟩, _⟩ := ck
  refine ⟨tb s, fun h => marker_ok (k := 3) sl h, fun h => ⟨_, _, sl.tbl 1 _, h⟩, fun {S PB} h => ⟨false, by show (eqD S (tb s) (tb s)).map not = _; rw [eq_self rfl hok]; rfl, h⟩, fun n n2 n40 => ⟨dueD n s, ?_, ?_, ?_, ?_⟩⟩
  · exact fun h => ⟨_, _, (allN_at sl.mp n n2 (by omega) 1 _).1, h⟩
  · exact fun h => ⟨_, _, (allN_at sl.mp n n2 (by omega) 1 _).2, h⟩
  · exact fun h => LC.same_refl t_same 1 (dueD n s) (k := 5) rfl (by show 0 + 1 ≤ 1; decide) h
  · have bn := allB_at hbnd n n2 (by omega)
    simp only [bnd, Bool.and_eq_true, Nat.blt_eq] at bn
    intro S P h
    exact fires_ok (k := 3) sl hs9 n2 n40 bn.1.1 bn.1.2 bn.2 (simF_at (allB_at hsim n n2 (by omega))) h
theorem law_ok {ns : List Int} (hl : ns.length ≤ 63) : Ev ((callN T Wn 8).fn "law" [.lst (ns.map D.int)] []) (fun d _ => d = .bl true) := by
  refine ev_fn l_law rfl ?_
  dsimp only [Flaw]
  walk_at "st"
  refine o_rng1 ?_
  walk_at "go"
  obtain ⟨z, hz, hz1, hz2⟩ : ∃ z : Int, (1 + if ((ns.map D.int).length : Int) < 3 then ((ns.map D.int).length : Int) else 3) = z ∧ 0 ≤ z ∧ z ≤ 4 := ⟨_, rfl, by split <;> omega, by split <;> omega⟩
  refine ⟨z, fun i e2 S2 => ∃ (y1 y2 y3 y4 y5 y6 : Option D), e2 = [some (.lst (ns.map D.int)), y1, y2, y3, y4, y5, y6], congrArg D.int hz, by omega, by omega, ⟨_, _, _, _, _, _, rfl⟩, ?_, ?_⟩
  · rintro i e2 S2 hi ⟨y1, y2, y3, y4, y5, y6, rfl⟩
    walk_at "go"
    refine LA.hand_ok t_hand (by omega) (by omega) (fun S3 h3 g3 => ?_)
    walk_at "go"
    generalize S2.length = rr at h3 ⊢
    refine LA.take_ok t_take h3 (by decide) (by decide) (by decide) (fun d S4 h4 f4 a4 b4 => ?_)
    walk_at "go"
    obtain ⟨s, hs⟩ : ∃ s : Nat, 2 + d = (s : Int) := ⟨(2 + d).toNat, by omega⟩
    rw [hs]
    have hs2 : 2 ≤ s := by omega
    have hs9 : s ≤ 9 := by omega
    obtain ⟨tbl, tk⟩ := tk_at hs2 hs9
    clear hs a4 b4
    refine tk.mr (fun S5 g5 => ?_)
    walk_at "go"
    have h5 := h4.gr g5
    refine o_ifs ?_
    refine ev_or (ev_notB ?_)
    walk_at "go"
    refine tk.it ?_
    refine ⟨true, rfl, ?_⟩
    rw [show (!(true == true)) = false from rfl]
    walk_at "go"
    refine tk.mr (fun S6 g6 => ?_)
    walk_at "go"
    have h6 := h5.gr g6
    refine tk.eq ?_
    walk_at "go"
    refine o_seq ?_
    walk_at "go"
    refine el_lrng2 ?_
    walk_at "go"
    refine ⟨_, _, rfl, rfl, by decide, ?_⟩
    walk_at "go"
    refine el_comp (.vs ((List.range (3 : Int).toNat).map fun (k : Nat) => D.int (0 + (k : Int)))) _ S6 (rng_ev rfl (by decide) (by decide)) (fun i e2 S7 acc => (∃ y0 y1, e2 = [y0, y1, some (.ref rr)]) ∧ LA.St3 S7 rr (0 + 1 + i) ∧ ∃ l : List Nat, acc = l.map (fun j => D.int (j : Nat)) ∧ l.length = i ∧ ∀ n ∈ l, 2 ≤ n ∧ n ≤ 40) ⟨⟨_, _, rfl⟩, h6.mono (by omega), [], rfl, rfl, fun n hn => nomatch hn⟩ (.inl rfl) ?_ ?_
    · rintro j d e2 S7 acc hd ⟨⟨y0, y1, rfl⟩, h7, l, rfl, hll, hl2⟩
      obtain ⟨hj, rfl⟩ := rng_get hd
      have hj : j < 3 := hj
      refine g_nm (et_nil ⟨fun _ => ?_, fun z => nomatch z⟩)
      show Ev (ev _ _ [y0, some (.int (j : Int)), some (.ref rr)] S7) _
      walk_at "go"
      refine LA.take_ok t_take h7 (by omega) (by decide) (by decide) (fun d S8 h8 f8 a8 b8 => ?_)
      walk_at "go"
      refine ⟨by rw [List.length_map]; show _ < 16777216; omega, ⟨_, _, rfl⟩, h8.mono (by omega), l ++ [(12 + d).toNat], ?_, by rw [List.length_append]; show l.length + 1 = _; omega, fun n hn => ?_⟩
      · rw [List.map_append]
        show _ = _ ++ [D.int (((12 + d).toNat : Nat) : Int)]
        rw [show (((12 + d).toNat : Nat) : Int) = 12 + d by omega]
      · rcases List.mem_append.mp hn with hn | hn
        · exact hl2 n hn
        · have : n = (12 + d).toNat := by simpa using hn
          omega
    · rintro e2 S7 acc ⟨_, h7, l, rfl, hll, hl2⟩
      have e10 : (List.range ((12 : Int) - 2).toNat).map (fun (k : Nat) => D.int ((2 : Int) + (k : Int))) = (List.range' 2 10).map fun j => D.int (j : Nat) := by kernel_rfl
      rw [e10]
      walk_at "go"
      refine p_cat rfl rfl (by rw [List.length_map, List.length_map]; show 10 + l.length ≤ 1000; have : l.length = 3 := hll; omega) ?_
      rw [← List.map_append]
      have hall : ∀ n ∈ List.range' 2 10 ++ l, 2 ≤ n ∧ n ≤ 40 := fun n hn => by
        rcases List.mem_append.mp hn with hn | hn
        · have := List.mem_range'_1.mp hn
          omega
        · exact hl2 n hn
      generalize List.range' 2 10 ++ l = L at hall ⊢
      refine ⟨L.map (fun j => D.int (j : Nat)), fun i2 e2 S8 => ∃ y5 y6, e2 = [some (.lst (ns.map D.int)), some (.int (i : Int)), some (.ref rr), some (.int (s : Nat)), some tbl, y5, y6], rfl, ⟨_, _, rfl⟩, ?_, ?_⟩
      · rintro i2 d e2 S8 hd ⟨y5, y6, rfl⟩
        rw [List.getElem?_map] at hd
        obtain ⟨n, hn, rfl⟩ := Option.map_eq_some_iff.mp hd
        obtain ⟨n2, n40⟩ := hall n (List.mem_of_getElem? hn)
        obtain ⟨e, f1, f2, f3, f4⟩ := tk.nx n n2 n40
        walk_at "go"
        refine f1 ?_
        walk_at "go"
        refine o_ifs ?_
        refine ev_or (ev_not ?_)
        walk_at "go"
        refine f2 ?_
        walk_at "go"
        refine f3 ?_
        walk_at "go"
        refine f4 (fun S9 g9 => ?_)
        walk_at "go"
        exact ⟨_, _, rfl⟩
      · rintro e2 S8 ⟨y5, y6, rfl⟩
        walk_at "go"
        exact ⟨_, _, _, _, _, _, rfl⟩
  · rintro e2 S2 ⟨y1, y2, y3, y4, y5, y6, rfl⟩
    walk_at "go"
    rfl
end K84
namespace K84
open PySem L2 PF
noncomputable def top (i : Nat) : Stmt := PySem.Challenge.pw_firetogether_k84_marks_by_running.main.body.getD i (.Pass ⟨0, 0, 0, 0⟩)
abbrev Sc (i : Nat) : Prop := FnScope (namesOf (top i)) (paramsOf (top i)) (defScope (top i))
abbrev Dv (i : Nat) (F : FI) : Prop := ∀ (k : Nat) (X : Cx), RX X T 40 k (defScope (top i)).names (namesOf (top i)) → PSs X (defBody (top i)) (tSt X.K (evSs (callN T 40 k) 40 F.body))
local macro_rules | `(tactic| walk_at "sc") => `(tactic| exact ⟨rfl, rfl, rfl, by decide +kernel, by decide +kernel, by decide +kernel, by decide +kernel⟩)
local macro_rules | `(tactic| walk_at "dv") => `(tactic| (refine p_cons ?_ ?_; repeat' walk_at "r1"))
local macro_rules | `(tactic| walk_at "b1") => `(tactic| exact fun _ _ _ _ _ _ us hl => match us, hl with | [_], _ => rfl)
local macro_rules | `(tactic| walk_at "b2") => `(tactic| exact fun _ _ _ _ _ _ us hl => match us, hl with | [_, _], _ => rfl)
local macro_rules | `(tactic| walk_at "b3") => `(tactic| exact fun _ _ _ _ _ _ us hl => match us, hl with | [_, _, _], _ => rfl)
local macro_rules | `(tactic| walk_at "b4") => `(tactic| exact fun _ _ _ _ _ _ us hl => match us, hl with | [_, _, _, _], _ => rfl)
theorem sc1 : Sc 1 := by walk_at "sc"
theorem bo1 : BindOk "is_tuple_of" (top 1) := by walk_at "b2"
theorem dv1 : Dv 1 Fis_tuple_of := by
  intro k X r
  dsimp only [Fis_tuple_of]
  walk_at "dv"
theorem sc5 : Sc 5 := by walk_at "sc"
theorem bo5 : BindOk "is_name" (top 5) := by walk_at "b1"
theorem dv5 : Dv 5 Fis_name := by
  intro k X r
  dsimp only [Fis_name]
  walk_at "dv"
theorem sc6 : Sc 6 := by walk_at "sc"
theorem bo6 : BindOk "is_neighbour" (top 6) := by walk_at "b1"
theorem dv6 : Dv 6 Fis_neighbour := by
  intro k X r
  dsimp only [Fis_neighbour]
  walk_at "dv"
theorem sc7 : Sc 7 := by walk_at "sc"
theorem bo7 : BindOk "is_table_row" (top 7) := by walk_at "b3"
theorem dv7 : Dv 7 Fis_table_row := by
  intro k X r
  dsimp only [Fis_table_row]
  walk_at "dv"
theorem sc8 : Sc 8 := by walk_at "sc"
theorem bo8 : BindOk "are_table_rows" (top 8) := by walk_at "b3"
theorem dv8 : Dv 8 Fare_table_rows := by
  intro k X r
  dsimp only [Fare_table_rows]
  walk_at "dv"
theorem sc9 : Sc 9 := by walk_at "sc"
theorem bo9 : BindOk "is_table" (top 9) := by walk_at "b1"
theorem dv9 : Dv 9 Fis_table := by
  intro k X r
  dsimp only [Fis_table]
  walk_at "dv"
theorem sc12 : Sc 12 := by walk_at "sc"
theorem bo12 : BindOk "spare_name" (top 12) := by walk_at "b1"
theorem dv12 : Dv 12 Fspare_name := by
  intro k X r
  dsimp only [Fspare_name]
  walk_at "dv"
theorem sc14 : Sc 14 := by walk_at "sc"
theorem bo14 : BindOk "place_at" (top 14) := by walk_at "b2"
theorem dv14 : Dv 14 Fplace_at := by
  intro k X r
  dsimp only [Fplace_at]
  walk_at "dv"
theorem sc15 : Sc 15 := by walk_at "sc"
theorem bo15 : BindOk "gap" (top 15) := by walk_at "b3"
theorem dv15 : Dv 15 Fgap := by
  intro k X r
  dsimp only [Fgap]
  walk_at "dv"
theorem sc16 : Sc 16 := by walk_at "sc"
theorem bo16 : BindOk "first_near" (top 16) := by walk_at "b4"
theorem dv16 : Dv 16 Ffirst_near := by
  intro k X r
  dsimp only [Ffirst_near]
  walk_at "dv"
theorem sc17 : Sc 17 := by walk_at "sc"
theorem bo17 : BindOk "meet" (top 17) := by walk_at "b2"
theorem dv17 : Dv 17 Fmeet := by
  intro k X r
  dsimp only [Fmeet]
  walk_at "dv"
theorem sc24 : Sc 24 := by walk_at "sc"
theorem bo24 : BindOk "marked" (top 24) := by walk_at "b2"
theorem dv24 : Dv 24 Fmarked := by
  intro k X r
  dsimp only [Fmarked]
  walk_at "dv"
theorem sc25 : Sc 25 := by walk_at "sc"
theorem bo25 : BindOk "slow_states" (top 25) := by walk_at "b1"
theorem dv25 : Dv 25 Fslow_states := by
  intro k X r
  dsimp only [Fslow_states]
  walk_at "dv"
theorem sc26 : Sc 26 := by walk_at "sc"
theorem bo26 : BindOk "fast_rows" (top 26) := by walk_at "b1"
theorem dv26 : Dv 26 Ffast_rows := by
  intro k X r
  dsimp only [Ffast_rows]
  walk_at "dv"
theorem sc27 : Sc 27 := by walk_at "sc"
theorem bo27 : BindOk "slow_rows" (top 27) := by walk_at "b1"
theorem dv27 : Dv 27 Fslow_rows := by
  intro k X r
  dsimp only [Fslow_rows]
  walk_at "dv"
theorem sc28 : Sc 28 := by walk_at "sc"
theorem bo28 : BindOk "parting_rows" (top 28) := by walk_at "b1"
theorem dv28 : Dv 28 Fparting_rows := by
  intro k X r
  dsimp only [Fparting_rows]
  walk_at "dv"
theorem sc29 : Sc 29 := by walk_at "sc"
theorem bo29 : BindOk "meeting_rows" (top 29) := by walk_at "b1"
theorem dv29 : Dv 29 Fmeeting_rows := by
  intro k X r
  dsimp only [Fmeeting_rows]
  walk_at "dv"
theorem sc30 : Sc 30 := by walk_at "sc"
theorem bo30 : BindOk "marker" (top 30) := by walk_at "b1"
theorem dv30 : Dv 30 Fmarker := by
  intro k X r
  dsimp only [Fmarker]
  walk_at "dv"
theorem sc32 : Sc 32 := by walk_at "sc"
theorem bo32 : BindOk "_law_hand" (top 32) := by walk_at "b2"
theorem dv32 : Dv 32 F_law_hand := by
  intro k X r
  dsimp only [F_law_hand, LA.hand]
  walk_at "dv"
theorem sc33 : Sc 33 := by walk_at "sc"
theorem bo33 : BindOk "_law_take" (top 33) := by walk_at "b2"
theorem dv33 : Dv 33 F_law_take := by
  intro k X r
  dsimp only [F_law_take, LA.take]
  walk_at "dv"
theorem sc34 : Sc 34 := by walk_at "sc"
theorem bo34 : BindOk "_law_same" (top 34) := by walk_at "b2"
theorem dv34 : Dv 34 F_law_same := by
  intro k X r
  dsimp only [F_law_same, LC.same]
  walk_at "dv"
theorem sc35 : Sc 35 := by walk_at "sc"
theorem bo35 : BindOk "_law_behind" (top 35) := by walk_at "b2"
theorem dv35 : Dv 35 F_law_behind := by
  intro k X r
  dsimp only [F_law_behind]
  walk_at "dv"
theorem sc36 : Sc 36 := by walk_at "sc"
theorem bo36 : BindOk "_law_meeting" (top 36) := by walk_at "b2"
theorem dv36 : Dv 36 F_law_meeting := by
  intro k X r
  dsimp only [F_law_meeting]
  walk_at "dv"
theorem sc37 : Sc 37 := by walk_at "sc"
theorem bo37 : BindOk "_law_fires_so" (top 37) := by walk_at "b3"
theorem dv37 : Dv 37 F_law_fires_so := by
  intro k X r
  dsimp only [F_law_fires_so]
  walk_at "dv"
theorem sc38 : Sc 38 := by walk_at "sc"
theorem bo38 : BindOk "law" (top 38) := by walk_at "b1"
theorem dv38 : Dv 38 Flaw := by
  intro k X r
  dsimp only [Flaw]
  walk_at "dv"
end K84
namespace K84
open PySem L2 PF
theorem fm {α : Type} {p : α → Prop} {a : α} {l : List α} (h : p a) (t : ∀ x ∈ l, p x) : ∀ x ∈ a :: l, p x := List.forall_mem_cons.mpr ⟨h, t⟩
theorem facts {K : Frag} {h : Heap} {mg : Str → Option Value} (KX : K.In h) (G : h.Ns mainGlobals mg) (d1 : DefIn K "is_tuple_of" (top 1)) (d5 : DefIn K "is_name" (top 5)) (d6 : DefIn K "is_neighbour" (top 6)) (d7 : DefIn K "is_table_row" (top 7)) (d8 : DefIn K "are_table_rows" (top 8)) (d9 : DefIn K "is_table" (top 9)) (d12 : DefIn K "spare_name" (top 12)) (d14 : DefIn K "place_at" (top 14)) (d15 : DefIn K "gap" (top 15)) (d16 : DefIn K "first_near" (top 16)) (d17 : DefIn K "meet" (top 17)) (d24 : DefIn K "marked" (top 24)) (d25 : DefIn K "slow_states" (top 25)) (d26 : DefIn K "fast_rows" (top 26)) (d27 : DefIn K "slow_rows" (top 27)) (d28 : DefIn K "parting_rows" (top 28)) (d29 : DefIn K "meeting_rows" (top 29)) (d30 : DefIn K "marker" (top 30)) (d32 : DefIn K "_law_hand" (top 32)) (d33 : DefIn K "_law_take" (top 33)) (d34 : DefIn K "_law_same" (top 34)) (d35 : DefIn K "_law_behind" (top 35)) (d36 : DefIn K "_law_meeting" (top 36)) (d37 : DefIn K "_law_fires_so" (top 37)) (d38 : DefIn K "law" (top 38)) : ∀ f fi, T.lookup f = some fi → ∃ st fa fd, DefOk T 40 K mg f fi st fa fd := by
  refine all_of (C := fun f fi => ∃ st fa fd, DefOk T 40 K mg f fi st fa fd) ?_
  dsimp only [T]
  refine fm (DefIn.ok KX G d1 sc1 bo1 rfl rfl dv1) ?_
  refine fm (DefIn.ok KX G d5 sc5 bo5 rfl rfl dv5) ?_
  refine fm (DefIn.ok KX G d6 sc6 bo6 rfl rfl dv6) ?_
  refine fm (DefIn.ok KX G d7 sc7 bo7 rfl rfl dv7) ?_
  refine fm (DefIn.ok KX G d8 sc8 bo8 rfl rfl dv8) ?_
  refine fm (DefIn.ok KX G d9 sc9 bo9 rfl rfl dv9) ?_
  refine fm (DefIn.ok KX G d12 sc12 bo12 rfl rfl dv12) ?_
  refine fm (DefIn.ok KX G d14 sc14 bo14 rfl rfl dv14) ?_
  refine fm (DefIn.ok KX G d15 sc15 bo15 rfl rfl dv15) ?_
  refine fm (DefIn.ok KX G d16 sc16 bo16 rfl rfl dv16) ?_
  refine fm (DefIn.ok KX G d17 sc17 bo17 rfl rfl dv17) ?_
  refine fm (DefIn.ok KX G d24 sc24 bo24 rfl rfl dv24) ?_
  refine fm (DefIn.ok KX G d25 sc25 bo25 rfl rfl dv25) ?_
  refine fm (DefIn.ok KX G d26 sc26 bo26 rfl rfl dv26) ?_
  refine fm (DefIn.ok KX G d27 sc27 bo27 rfl rfl dv27) ?_
  refine fm (DefIn.ok KX G d28 sc28 bo28 rfl rfl dv28) ?_
  refine fm (DefIn.ok KX G d29 sc29 bo29 rfl rfl dv29) ?_
  refine fm (DefIn.ok KX G d30 sc30 bo30 rfl rfl dv30) ?_
  refine fm (DefIn.ok KX G d32 sc32 bo32 rfl rfl dv32) ?_
  refine fm (DefIn.ok KX G d33 sc33 bo33 rfl rfl dv33) ?_
  refine fm (DefIn.ok KX G d34 sc34 bo34 rfl rfl dv34) ?_
  refine fm (DefIn.ok KX G d35 sc35 bo35 rfl rfl dv35) ?_
  refine fm (DefIn.ok KX G d36 sc36 bo36 rfl rfl dv36) ?_
  refine fm (DefIn.ok KX G d37 sc37 bo37 rfl rfl dv37) ?_
  refine fm (DefIn.ok KX G d38 sc38 bo38 rfl rfl dv38) ?_
  exact List.forall_mem_nil _
end K84
local macro_rules | `(tactic| walk_at "d1") => `(tactic| (dsimp only [L2.KOf]; refine' PF.DefIn.mk' ?a ?l ?c ?k; (case a => k_is); (case l => k_is); (case c => k_is); (case k => k_is)))
local macro_rules | `(tactic| walk_at "g1") => `(tactic| (dsimp only [L2.KOf]; refine' PF.gl_str ?a ?e; (case a => k_is); (case e => first | rfl | decide +kernel)))
namespace PySem.W.Fast
theorem tw7493405582869584195 : True := trivial
theorem tw11063534375452667070 : True := trivial
theorem tw14838239172207593586 : True := trivial
theorem tw3519231034104854330 : True := trivial
theorem tw11053120094675002076 : True := trivial
theorem tw15004283025625151309 : True := trivial
theorem tw5551692718235345433 : True := trivial
theorem tw15885138194552811610 : True := trivial
theorem tw5496036870077140134 : True := trivial
theorem tw385003621964387097 : True := trivial
theorem tw12012672517164219288 : True := trivial
theorem tw14823628093230339314 : True := trivial
theorem tw4974573018260204195 : True := trivial
theorem tw2539724538499948844 : True := trivial
theorem tw84694710582001183 : True := trivial
theorem tw6300037443993100570 : True := trivial
theorem tw394161504179804845 : True := trivial
theorem tw11917159326208761467 : True := trivial
theorem tw5288208851372746151 : True := trivial
theorem tw553461204966904607 : True := trivial
theorem tw5393851114891585294 : True := trivial
theorem tw2940507765076217051 : True := trivial
theorem tw17703635941781328054 : True := trivial
theorem tw13347690685614222450 : True := trivial
theorem tw11672025024220702986 : True := trivial
theorem tw17522426633913207200 : True := trivial
theorem tw5581957414127552690 : True := trivial
theorem tw4817070314724036462 : True := trivial
theorem tw1134485232428383782 : True := trivial
theorem tw5680324515994795567 : True := trivial
theorem tw8960826358007873790 : True := trivial
theorem tw15414950921410951915 : True := trivial
theorem tw13873338815947489526 : True := trivial
theorem tw2455296610270374871 : True := trivial
theorem tw17077960015291649190 : True := trivial
theorem tw5350600959905028869 : True := trivial
theorem tw8101424864465713889 : True := trivial
theorem tw13590449938444504838 : True := trivial
theorem tw16308464863624085259 : True := trivial
theorem tw4064395659150382212 : True := trivial
theorem tw15255870990024014320 : True := trivial
theorem tw13501277555781946592 : True := trivial
theorem tw13167962313482315393 : True := trivial
theorem tw909548517159241811 : True := trivial
theorem tw5115407828912614671 : True := trivial
theorem tw13343874395421700988 : True := trivial
theorem tw6518009930854865627 : True := trivial
theorem tw3781684462882679936 : True := trivial
theorem tw1982361808774872654 : True := trivial
theorem tw1181491277184892159 : True := trivial
theorem tw2960227669783457133 : True := trivial
theorem tw13888987161999169399 : True := trivial
theorem tw17769697117264291208 : True := trivial
theorem tw14498038020519762401 : True := trivial
theorem tw10215982951062426874 : True := trivial
theorem tw2754476280534012465 : True := trivial
theorem tw8389604182545176615 : True := trivial
theorem tw7612483524852548113 : True := trivial
theorem tw12703081429714557148 : True := trivial
theorem tw3416038229165767901 : True := trivial
theorem tw11295348024794390598 : True := trivial
theorem tw6762921457458230187 : True := trivial
theorem tw16364179482861084815 : True := trivial
theorem tw16321230234183287013 : True := trivial
theorem tw13200225578131040716 : True := trivial
theorem tw1144240460092832723 : True := trivial
end PySem.W.Fast
open PySem PySem.W PyProof.Rows L2 PF K84
set_option maxRecDepth 100000 in
set_option maxHeartbeats 0 in
theorem PySem.Challenge.cw_firetogether_k84_marks_by_running_holds : PySem.Challenge.rw_firetogether_k84_marks_by_running.Holds := by
  w_on; o_law; k_head; (case hw => w_witness2)
  k_fill
  refine L2.walk_ofK (l := PySem.Challenge.rw_firetogether_k84_marks_by_running) (n := 63) (k := 8) (x := "_law_script") (CX := CX0) (sp := fun K => spOf K K84.T 40 8 "law") rfl (by decide) rfl ⟨rfl, by decide, by decide⟩ (fun w h Y => PySem.W.kIn_of Y) ?F ?S ?C
  case F =>
    intro w mg fa h KX G hmg
    have d1 : DefIn (L2.KOf KX) "is_tuple_of" (top 1) := by walk_at "d1"
    have d5 : DefIn (L2.KOf KX) "is_name" (top 5) := by walk_at "d1"
    have d6 : DefIn (L2.KOf KX) "is_neighbour" (top 6) := by walk_at "d1"
    have d7 : DefIn (L2.KOf KX) "is_table_row" (top 7) := by walk_at "d1"
    have d8 : DefIn (L2.KOf KX) "are_table_rows" (top 8) := by walk_at "d1"
    have d9 : DefIn (L2.KOf KX) "is_table" (top 9) := by walk_at "d1"
    have d12 : DefIn (L2.KOf KX) "spare_name" (top 12) := by walk_at "d1"
    have d14 : DefIn (L2.KOf KX) "place_at" (top 14) := by walk_at "d1"
    have d15 : DefIn (L2.KOf KX) "gap" (top 15) := by walk_at "d1"
    have d16 : DefIn (L2.KOf KX) "first_near" (top 16) := by walk_at "d1"
    have d17 : DefIn (L2.KOf KX) "meet" (top 17) := by walk_at "d1"
    have d24 : DefIn (L2.KOf KX) "marked" (top 24) := by walk_at "d1"
    have d25 : DefIn (L2.KOf KX) "slow_states" (top 25) := by walk_at "d1"
    have d26 : DefIn (L2.KOf KX) "fast_rows" (top 26) := by walk_at "d1"
    have d27 : DefIn (L2.KOf KX) "slow_rows" (top 27) := by walk_at "d1"
    have d28 : DefIn (L2.KOf KX) "parting_rows" (top 28) := by walk_at "d1"
    have d29 : DefIn (L2.KOf KX) "meeting_rows" (top 29) := by walk_at "d1"
    have d30 : DefIn (L2.KOf KX) "marker" (top 30) := by walk_at "d1"
    have d32 : DefIn (L2.KOf KX) "_law_hand" (top 32) := by walk_at "d1"
    have d33 : DefIn (L2.KOf KX) "_law_take" (top 33) := by walk_at "d1"
    have d34 : DefIn (L2.KOf KX) "_law_same" (top 34) := by walk_at "d1"
    have d35 : DefIn (L2.KOf KX) "_law_behind" (top 35) := by walk_at "d1"
    have d36 : DefIn (L2.KOf KX) "_law_meeting" (top 36) := by walk_at "d1"
    have d37 : DefIn (L2.KOf KX) "_law_fires_so" (top 37) := by walk_at "d1"
    have d38 : DefIn (L2.KOf KX) "law" (top 38) := by walk_at "d1"
    have bb : ∀ f ∈ blts, PySem.W.nsIn (L2.KOf KX) mainGlobals f = some none := by
      dsimp only [L2.KOf, blts]
      repeat' first | exact List.forall_mem_nil _ | refine fm ?_ ?_ | k_is
    have gl0 : GlIn (L2.KOf KX) "LONGEST_NAME" (.int (8)) := by
      dsimp only [L2.KOf]
      refine' gl_int ?a
      (case a => k_is)
    have gl1 : GlIn (L2.KOf KX) "NOBODY" (.str "") := by walk_at "g1"
    have gl2 : GlIn (L2.KOf KX) "LETTERS" (.str "abcdefghijklmnopqrstuvwxyz") := by walk_at "g1"
    have gl3 : GlIn (L2.KOf KX) "QUIET" (.str "o") := by walk_at "g1"
    have gl4 : GlIn (L2.KOf KX) "START" (.str "g") := by walk_at "g1"
    have gl5 : GlIn (L2.KOf KX) "FIRE" (.str "f") := by walk_at "g1"
    have gl6 : GlIn (L2.KOf KX) "AWAY" (.str "r") := by walk_at "g1"
    have gl7 : GlIn (L2.KOf KX) "BACK" (.str "l") := by walk_at "g1"
    have gb : ∀ p ∈ K84.T.gls, GlIn (L2.KOf KX) p.1 p.2 := by
      dsimp only [K84.T]
      refine fm gl0 ?_
      refine fm gl1 ?_
      refine fm gl2 ?_
      refine fm gl3 ?_
      refine fm gl4 ?_
      refine fm gl5 ?_
      refine fm gl6 ?_
      refine fm gl7 ?_
      exact List.forall_mem_nil _
    have all := facts KX G d1 d5 d6 d7 d8 d9 d12 d14 d15 d16 d17 d24 d25 d26 d27 d28 d29 d30 d32 d33 d34 d35 d36 d37 d38
    have bl := bl_of KX G bb
    obtain ⟨fl, fd, dl, hb⟩ := DefIn.ok2 (fi := Flaw) KX G d38 sc38 bo38 rfl rfl dv38
    have e0 := hmg.symm.trans dl.gl
    cases e0
    exact ⟨fd, fun s u => hb s [u] rfl, fun base kb nb => fns_ok all bl (gls_of KX G gb) 8 "law" Flaw (top 38) _ _ l_law dl⟩
  case S => exact fun K H a ns hl hO hS => law_sp l_law rfl (fun ns hl => by
    obtain ⟨d, S', h1, h2⟩ := law_ok hl
    rw [h2] at h1
    exact ⟨S', h1⟩) H a ns hl hS _
  case C => exact fun H s e s' z => z
