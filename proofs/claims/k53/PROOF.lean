import PyProof.Rows.All
import Wide.All
import OpenK.AllK
import Wide.FinOn
import Lean
import PyProof.EqAt
import PyProof.EqKinds
import PyProof.TupleCall
import KE.KIsAll
import PyProof.ExcAttrAll.ValueError
import PyProof.NeKinds
import PyProof.InstStoreFacts
import KE.KUnpackStar
import KE.KSortTup
import PyProof.ListRange
import PySem.Challenge.RW_pickalike_k53_kinds_refused
set_option Elab.async false
set_option linter.all false
set_option maxRecDepth 100000
/-! THE HAND LAYER, for ints, bools, texts, own classes, LISTS and tuples (index, slices, in, append, pop ..), calls, loops. Paste it whole ahead of your own text; what your proof does not reach may be deleted. -/
namespace L2
open PySem PySem.Spec PyProof.Rows
/-- a key: an int or a str -/
noncomputable abbrev Key := Sum Int Str
noncomputable def keyIs : Key → Value → Bool
  | .inl k, v => Value.isInt k v
  | .inr x, v => Value.isStrOf x v
noncomputable def keyH (w : World) : Key → Int
  | .inl k => hashInt k
  | .inr x => hashStr w x
theorem keyIs_shape : ∀ {k : Key} {v : Value}, keyIs k v = true → (∃ i t, k = Sum.inl i ∧ v = Value.int i t) ∨ (∃ x t, k = Sum.inr x ∧ v = Value.str x t)
  | .inl i, v, h => by
    obtain ⟨t, e⟩ := Value.isInt_shape (k := i) (v := v) h
    exact .inl ⟨i, t, rfl, e⟩
  | .inr x, v, h => by
    obtain ⟨t, e⟩ := Value.isStrOf_shape (x := x) (v := v) h
    exact .inr ⟨x, t, rfl, e⟩
theorem key_ll (a b : Int) : decide ((Sum.inl a : Key) = Sum.inl b) = (a == b) := by
  by_cases e : a = b
  · subst e; simp
  · have h : ¬ (Sum.inl a : Key) = Sum.inl b := fun q => e (Sum.inl.inj q)
    rw [decide_eq_false h]
    exact (beq_eq_false_iff_ne.mpr e).symm
theorem key_rr (a b : Str) : decide ((Sum.inr a : Key) = Sum.inr b) = decide (a = b) := by
  by_cases e : a = b
  · subst e; simp
  · have h : ¬ (Sum.inr a : Key) = Sum.inr b := fun q => e (Sum.inr.inj q)
    rw [decide_eq_false h, decide_eq_false e]
theorem key_lr (a : Int) (b : Str) : decide ((Sum.inl a : Key) = Sum.inr b) = false := decide_eq_false (fun q => nomatch q)
theorem key_rl (a : Str) (b : Int) : decide ((Sum.inr a : Key) = Sum.inl b) = false := decide_eq_false (fun q => nomatch q)
noncomputable def mixKind (prog : Program) (w : World) : PySem.KeyKind prog w Key where
  is := keyIs
  hash := keyH w
  inj := fun v a b ha hb => by
    rcases keyIs_shape ha with ⟨i, t, rfl, rfl⟩ | ⟨x, t, rfl, rfl⟩
    · rcases keyIs_shape hb with ⟨j, u, rfl, e⟩ | ⟨y, u, rfl, e⟩
      · injection e with e1 _; rw [e1]
      · exact nomatch e
    · rcases keyIs_shape hb with ⟨j, u, rfl, e⟩ | ⟨y, u, rfl, e⟩
      · exact nomatch e
      · injection e with e1 _; rw [e1]
  byValue := fun k v h => by
    rcases keyIs_shape h with ⟨i, t, rfl, rfl⟩ | ⟨x, t, rfl, rfl⟩ <;> rfl
  pyHash := fun hv h => by
    rcases keyIs_shape hv with ⟨i, t, rfl, rfl⟩ | ⟨x, t, rfl, rfl⟩
    · exact wpAny_pyHash_int h
    · exact wpAny_pyHash_str h
  eqBool := fun hu hv h => by
    rcases keyIs_shape hu with ⟨i, t, rfl, rfl⟩ | ⟨x, t, rfl, rfl⟩
    · rcases keyIs_shape hv with ⟨j, u, rfl, rfl⟩ | ⟨y, u, rfl, rfl⟩
      · rw [key_ll] at h; exact wpAny_eqBool_int h
      · rw [key_lr] at h; exact SeqAt.EqAt.int_str i t y u _ _ _ _ h
    · rcases keyIs_shape hv with ⟨j, u, rfl, rfl⟩ | ⟨y, u, rfl, rfl⟩
      · rw [key_rl] at h; exact SeqAt.EqAt.str_int x t j u _ _ _ _ h
      · rw [key_rr] at h; exact wpAny_eqBool_str h
  «strs» := fun k x t v h => by
    rcases keyIs_shape h with ⟨i, u, rfl, e⟩ | ⟨y, u, rfl, e⟩
    · exact nomatch e
    · injection e with e1 _
      subst e1
      cases v <;> rfl
end L2
namespace L2
open PySem PySem.Spec PyProof.Rows
/-- a value, without the heap -/
inductive V where
  | non | bl (b : Bool) | int (i : Int) | str (x : Str) | byt (b : Array UInt8) | flt (b : UInt64) | ref (a : Addr) | ty (n : String)
  deriving DecidableEq
noncomputable def RelV : V → Value → Prop
  | .non, u => u = Value.none
  | .bl b, u => u = Value.bool b
  | .int i, u => ∃ t, u = Value.int i t
  | .str x, u => ∃ t, u = Value.str x t
  | .byt b, u => ∃ t, u = Value.bytes b t
  | .flt b, u => ∃ t, u = Value.float b t
  | .ref a, u => u = Value.ref a
  | .ty n, u => u = Value.type n
noncomputable abbrev Vals : List V → List Value → Prop := Paired RelV
theorem Vals.length {xs : List V} {us : List Value} (r : Vals xs us) : xs.length = us.length := Paired.length r
theorem Vals.get : ∀ {xs : List V} {us : List Value} {i : Nat} {x : V}, Vals xs us → xs[i]? = some x → ∃ u, us[i]? = some u ∧ RelV x u
  | _, _, _, _, .nil, e => by simp at e
  | _, _, 0, _, .cons r _, e => by simp at e; subst e; exact ⟨_, rfl, r⟩
  | _, _, i + 1, x, .cons _ t, e => by
    obtain ⟨u, h1, h2⟩ := Vals.get (i := i) (x := x) t (by simpa using e)
    exact ⟨u, by simpa using h1, h2⟩
theorem Vals.set {x : V} {u : Value} (r : RelV x u) : ∀ {xs : List V} {us : List Value} (i : Nat), Vals xs us → Vals (xs.set i x) (us.set i u)
  | _, _, _, .nil => .nil
  | _, _, 0, .cons _ t => .cons r t
  | _, _, i + 1, .cons q t => .cons q (Vals.set r i t)
theorem Vals.append : ∀ {xs ys : List V} {us ws : List Value}, Vals xs us → Vals ys ws → Vals (xs ++ ys) (us ++ ws)
  | _, _, _, _, .nil, s => s
  | _, _, _, _, .cons r t, s => .cons r (Vals.append t s)
theorem Vals.take : ∀ {xs : List V} {us : List Value} (n : Nat), Vals xs us → Vals (xs.take n) (us.take n)
  | _, _, 0, _ => .nil
  | _, _, _ + 1, .nil => .nil
  | _, _, n + 1, .cons r t => .cons r (Vals.take n t)
theorem Vals.drop : ∀ {xs : List V} {us : List Value} (n : Nat), Vals xs us → Vals (xs.drop n) (us.drop n)
  | _, _, 0, r => r
  | _, _, _ + 1, .nil => .nil
  | _, _, n + 1, .cons _ t => Vals.drop n t
noncomputable def RelO : Option V → Option Value → Prop
  | some v, some u => RelV v u
  | none, none => True
  | _, _ => False
noncomputable def KV {κ : Type} : List (κ × V) → List (κ × Value) → Prop := Paired fun (p : κ × V) (q : κ × Value) => p.1 = q.1 ∧ RelV p.2 q.2
/-- a key of a dict (00_mix): an int or a text -/
noncomputable def kV : Key → V
  | .inl i => .int i
  | .inr x => .str x
/-- what stands at a tracked address -/
inductive HO where
  /-- a list -/
  | lst (xs : List V)
  /-- a tuple (never changes) -/
  | tup (xs : List V)
  /-- a dict whose keys are ints and texts; one whose keys are tuples of ints and texts (the empty one is both) -/
  | dK (kvs : List (Key × V)) | dT (kvs : List (List Key × V))
  /-- a set of ints: its members, its size -/
  | set (S : Int → Bool) (n : Nat)
  /-- an instance of the class at C, its dict at dx, its attributes -/
  | ins (C dx : Addr) (fs : List (Str × V))
  /-- the dict of the instance at x -/
  | own (x : Addr)
  /-- the dict of an exception -/
  | xd (fs : List (Str × V))
  /-- a bound method, f of x -/
  | met (f x : Addr)
  /-- a range object lo, lo + 1, .. below hi -/
  | rng (lo hi : Int)
  /-- a thing that is known to the object (the script; a dict while a loop walks it): read, never written while it is so -/
  | frz (o : Obj) (u : HO)
  /-- a code object's table -/
  | tbl (ps : Array Value)
  /-- any other thing, by what is true of its one object (a def of one's own: SetO a S n := HO.ext fun h => ..) -/
  | ext (φ : Heap → Prop)
noncomputable abbrev Hp := Addr → Option HO
noncomputable def upd (H : Hp) (a : Addr) (o : HO) : Hp := fun b => if b = a then some o else H b
theorem upd_same {H : Hp} {a : Addr} {o : HO} : upd H a o a = some o := by unfold upd; rw [if_pos rfl]
theorem upd_ne {H : Hp} {a b : Addr} {o : HO} (h : b ≠ a) : upd H a o b = H b := by unfold upd; rw [if_neg h]
theorem ne_of_none {H : Hp} {a b : Addr} {o : HO} (h : H a = some o) (h' : H b = none) : a ≠ b := by
  intro e; subst e; rw [h] at h'; cases h'
section
variable (P : Program) (w : World)
noncomputable def ObjOk (H : Hp) (h : Heap) (a : Addr) : HO → Prop
  | .lst xs => xs.length ≤ sizeLine ∧ ∃ (its : List Value) (n : Nat), Vals xs its ∧ h.get? a = some { cls := .type "list", data := .seq its.toArray n }
  | .tup xs => xs.length ≤ sizeLine ∧ ∃ its : List Value, Vals xs its ∧ IsTup h a its.toArray
  | .dK kvs => kvs.length ≤ sizeLine ∧ (a == sysModules) = false ∧ ∃ vs, KV kvs vs ∧ h.DictOf (mixKind P w) a vs
  | .dT kvs => kvs.length ≤ sizeLine ∧ (a == sysModules) = false ∧ ∃ xs : List (List Key × Addr × Value),
      Paired (fun (p : List Key × V) (q : List Key × Addr × Value) => p.1 = q.1 ∧ H q.2.1 = some (.tup (p.1.map kV)) ∧ RelV p.2 q.2.2) kvs xs ∧
      ∃ o es ep, h.get? a = some o ∧ o.ExactDict ∧ o.data = .dict es ep ∧ es.toList = xs.map (entryOfKey (tupleKind (mixKind P w))) ∧ (xs.map (·.1)).Nodup
  | .set S n => h.SetOf (intKind P w) a S n
  | .ins C dx fs => H dx = some (.own a) ∧ fs.length ≤ 1000 ∧ dx ≠ a ∧ h.get? a = some (PySem.W.instObj C dx) ∧
      ∃ mA, h.Ns1 dx mA ∧ (∀ f, RelO (fs.lookup f) (mA f)) ∧ PySem.Within mA (fs.map (·.1))
  | .own _ => ∃ o, h.get? a = some o
  | .xd fs => ∃ mA, h.Ns1 a mA ∧ ∀ f, RelO (fs.lookup f) (mA f)
  | .rng lo hi => ∃ t u v, h.get? a = some { cls := .type "range", data := .fields #[.int lo t, .int hi u, .int 1 v] }
  | .frz o u => h.get? a = some o ∧ ObjOk H h a u
  | .tbl ps => h.get? a = some { cls := .none, data := .fields ps }
  | .met f x => h.get? a = some (PySem.W.methodObj (.ref f) (.ref x))
  | .ext φ => φ h ∧ (∃ o, h.get? a = some o) ∧ ∀ h1 h2 : Heap, φ h1 → (∀ o, h1.get? a = some o → h2.get? a = some o) → φ h2
/-- the abstract heap is held -/
noncomputable def HOk (H : Hp) (h : Heap) : Prop := ∀ a o, H a = some o → ObjOk P w H h a o
end
section
variable {P : Program} {w : World} {H H' : Hp} {h h' : Heap} {a : Addr} {o : HO}
theorem ObjOk.lt (x : ObjOk P w H h a o) : a < h.objs.size := by
  cases o with
  | lst xs => obtain ⟨_, _, _, _, e⟩ := x; exact Heap.lt_size e
  | tup xs => obtain ⟨_, _, _, p⟩ := x; exact p.lt
  | dK kvs => obtain ⟨_, _, _, _, o, _, _, e, _⟩ := x; exact Heap.lt_size e
  | dT kvs => obtain ⟨_, _, _, _, o, _, _, e, _⟩ := x; exact Heap.lt_size e
  | set S n => obtain ⟨o, _, _, _, e, _⟩ := x; exact Heap.lt_size e
  | ins C dx fs => obtain ⟨_, _, _, e, _⟩ := x; exact Heap.lt_size e
  | own y => obtain ⟨_, e⟩ := x; exact Heap.lt_size e
  | xd fs => obtain ⟨_, ⟨_, _, _, e, _⟩, _⟩ := x; exact Heap.lt_size e
  | rng lo hi => obtain ⟨_, _, _, e⟩ := x; exact Heap.lt_size e
  | frz ob u => obtain ⟨e, _⟩ := x; exact Heap.lt_size e
  | tbl ps => exact Heap.lt_size (show h.get? a = some _ from x)
  | met f y => exact Heap.lt_size (show h.get? a = some _ from x)
  | ext φ => obtain ⟨_, ⟨_, e⟩, _⟩ := x; exact Heap.lt_size e
theorem Paired.mapP {α β : Type} {F G : α → β → Prop} : ∀ {l₁ : List α} {l₂ : List β}, Paired F l₁ l₂ → (∀ a b, F a b → G a b) → Paired G l₁ l₂
  | _, _, .nil, _ => .nil
  | _, _, .cons r t, f => .cons (f _ _ r) (Paired.mapP t f)
/-- what an object's description leans on: its own object, its own dict, the tuples -/
theorem ObjOk.stay (x : ObjOk P w H h a o) (k : ∀ b u, (b = a ∨ H b = some (.own a)) → h.get? b = some u → h'.get? b = some u)
    (ho : ∀ b, H b = some (.own a) → H' b = some (.own a)) (ht : ∀ b xs, H b = some (.tup xs) → H' b = some (.tup xs)) : ObjOk P w H' h' a o := by
  induction o with
  | lst xs => obtain ⟨z, its, n, r, e⟩ := x; exact ⟨z, its, n, r, k _ _ (.inl rfl) e⟩
  | tup xs => obtain ⟨z, its, r, ob, e, c⟩ := x; exact ⟨z, its, r, ob, k _ _ (.inl rfl) e, c⟩
  | dK kvs => obtain ⟨z, y, vs, r, ob, es, ep, e, c⟩ := x; exact ⟨z, y, vs, r, ob, es, ep, k _ _ (.inl rfl) e, c⟩
  | dT kvs =>
    obtain ⟨z, y, xs, r, ob, es, ep, e, c⟩ := x
    exact ⟨z, y, xs, Paired.mapP r fun p q z => ⟨z.1, ht _ _ z.2.1, z.2.2⟩, ob, es, ep, k _ _ (.inl rfl) e, c⟩
  | set S n => obtain ⟨ob, es, ep, t, e, c⟩ := x; exact ⟨ob, es, ep, t, k _ _ (.inl rfl) e, c⟩
  | ins C dx fs =>
    obtain ⟨d, z, ne, e, mA, ⟨od, es, ep, e2, c⟩, r⟩ := x
    exact ⟨ho _ d, z, ne, k _ _ (.inl rfl) e, mA, ⟨od, es, ep, k _ _ (.inr d) e2, c⟩, r⟩
  | own y => obtain ⟨ob, e⟩ := x; exact ⟨ob, k _ _ (.inl rfl) e⟩
  | xd fs => obtain ⟨mA, ⟨od, es, ep, e, c⟩, r⟩ := x; exact ⟨mA, ⟨od, es, ep, k _ _ (.inl rfl) e, c⟩, r⟩
  | rng lo hi => obtain ⟨t, u, v, e⟩ := x; exact ⟨t, u, v, k _ _ (.inl rfl) e⟩
  | frz ob u ih => obtain ⟨e, q⟩ := x; exact ⟨k _ _ (.inl rfl) e, ih q⟩
  | tbl ps =>
    have e : h.get? a = some { cls := .none, data := .fields ps } := x
    show h'.get? a = some { cls := .none, data := .fields ps }
    exact k a _ (.inl rfl) e
  | met f y =>
    have e : h.get? a = some (PySem.W.methodObj (.ref f) (.ref y)) := x
    show h'.get? a = some (PySem.W.methodObj (.ref f) (.ref y))
    exact k a _ (.inl rfl) e
  | ext φ => obtain ⟨p, ⟨o, e⟩, st⟩ := x; exact ⟨st _ _ p fun o q => k _ _ (.inl rfl) q, ⟨o, k _ _ (.inl rfl) e⟩, st⟩
theorem HOk.lt (x : HOk P w H h) (e : H a = some o) : a < h.objs.size := (x a o e).lt
theorem HOk.fresh (x : HOk P w H h) (e : h.objs.size ≤ a) : H a = none := by
  cases q : H a with
  | none => rfl
  | some u => exact absurd (Nat.lt_of_lt_of_le (x.lt q) e) (Nat.lt_irrefl _)
/-- every object of the heap is kept -/
theorem HOk.kept (x : HOk P w H h) (k : ∀ b u, h.get? b = some u → h'.get? b = some u) : HOk P w H h' := fun a o e =>
  (x a o e).stay (fun b u _ q => k b u q) (fun _ q => q) fun _ _ q => q
/-- a new object is laid and tracked -/
theorem HOk.laid (x : HOk P w H h) (k : ∀ b u, h.get? b = some u → h'.get? b = some u) (hp : h.objs.size ≤ a) (new : ObjOk P w (upd H a o) h' a o) : HOk P w (upd H a o) h' := fun b u e => by
  have hn := x.fresh hp
  by_cases hb : b = a
  · subst hb; rw [upd_same] at e; cases e; exact new
  · rw [upd_ne hb] at e
    exact (x b u e).stay (fun c v _ q => k c v q) (fun c q => by rw [upd_ne (ne_of_none q hn)]; exact q) fun c xs q => by rw [upd_ne (ne_of_none q hn)]; exact q
end
/-- what may be read as u: it is u, or a known u -/
noncomputable def Rd (H : Hp) (a : Addr) (u : HO) : Prop := H a = some u ∨ ∃ o, H a = some (.frz o u)
theorem Rd.of {H : Hp} {a : Addr} {u : HO} (h : H a = some u) : Rd H a u := .inl h
theorem Rd.ok {P : Program} {w : World} {H : Hp} {h : Heap} {a : Addr} {u : HO} (r : Rd H a u) (x : HOk P w H h) : ObjOk P w H h a u := by
  rcases r with r | ⟨o, r⟩
  · exact x a u r
  · obtain ⟨_, q⟩ := x a _ r
    exact q
/-- what may be written -/
noncomputable def Mut : Option HO → Prop
  | some (.lst _) => True
  | some (.dK _) => True
  | some (.dT _) => True
  | some (.set _ _) => True
  | some (.ins _ _ _) => True
  | some (.ext _) => True
  | _ => False
section
variable {P : Program} {w : World} {H : Hp} {h h' : Heap} {x e : Addr} {o' : HO}
/-- the object at e is changed: x itself, or the dict of the instance x -/
theorem HOk.write (ok : HOk P w H h) (mu : Mut (H x)) (he : e = x ∨ H e = some (.own x)) (k : ∀ b u, b ≠ e → h.get? b = some u → h'.get? b = some u) (heo : ∃ u, h'.get? e = some u)
    (new : ObjOk P w (upd H x o') h' x o') : HOk P w (upd H x o') h' := fun b u q => by
  have nown : ∀ c y, H c = some (.own y) → c ≠ x := fun c y r z => by subst z; rw [r] at mu; exact mu
  have ntup : ∀ c xs, H c = some (.tup xs) → c ≠ x := fun c xs r z => by subst z; rw [r] at mu; exact mu
  by_cases hb : b = x
  · subst hb; rw [upd_same] at q; cases q; exact new
  · rw [upd_ne hb] at q
    by_cases hbe : b = e
    · have q' : H b = some (.own x) := by
        rcases he with z | z
        · exact absurd (hbe.trans z) hb
        · rw [hbe]; exact z
      rw [q] at q'; cases q'
      obtain ⟨v, hv⟩ := heo
      exact ⟨v, by rw [hbe]; exact hv⟩
    · refine (ok b u q).stay (fun c v hc r => k c v ?_ r) (fun c r => by rw [upd_ne (nown c b r)]; exact r) fun c xs r => by rw [upd_ne (ntup c xs r)]; exact r
      rcases hc with rfl | hc
      · exact hbe
      · rintro rfl
        rcases he with z | z
        · exact nown c b hc z
        · rw [hc] at z; cases z; exact hb rfl
end
/-! ### kept unless tracked; of the frames at fs (the callers') the slots may change (an exception that passes writes there); of the records at ex (iterators) nothing is said -/
structure Un (fs ex : List Addr) (H H' : Hp) (h h' : Heap) : Prop where
  keep : ∀ b o, h.get? b = some o → H b = none → b ∉ fs → b ∉ ex → h'.get? b = some o
  slot : ∀ b o, h.get? b = some o → H b = none → b ∈ fs → b ∉ ex → ∃ sl, h'.get? b = some { o with slots := sl }
  free : ∀ b o, h.get? b = some o → H b = none → b ∉ ex → H' b = none
  there : ∀ b o, h.get? b = some o → b ∉ ex → ∃ o', h'.get? b = some o'
  tups : ∀ b xs, H b = some (.tup xs) → H' b = some (.tup xs)
  frzs : ∀ b o u, H b = some (.frz o u) → H' b = some (.frz o u)
  tbls : ∀ b ps, H b = some (.tbl ps) → ∃ more, H' b = some (.tbl (ps ++ more))
section
variable {fs fs' ex ex' : List Addr} {H H1 H2 : Hp} {h h1 h2 h' : Heap} {a x e : Addr} {o : HO}
theorem Un.any (u : Un fs ex H H1 h h1) {b : Addr} {ob : Obj} (q : h.get? b = some ob) (n : H b = none) (hx : b ∉ ex) : ∃ sl, h1.get? b = some { ob with slots := sl } := by
  by_cases hb : b ∈ fs
  · exact u.slot b ob q n hb hx
  · exact ⟨ob.slots, u.keep b ob q n hb hx⟩
theorem Un.trans (a : Un fs ex H H1 h h1) (b : Un fs ex H1 H2 h1 h2) : Un fs ex H H2 h h2 where
  keep := fun c ob q n hc hx => b.keep c ob (a.keep c ob q n hc hx) (a.free c ob q n hx) hc hx
  slot := fun c ob q n hc hx => by
    obtain ⟨sl, e1⟩ := a.slot c ob q n hc hx
    obtain ⟨sl', e2⟩ := b.slot c _ e1 (a.free c ob q n hx) hc hx
    exact ⟨sl', e2⟩
  free := fun c ob q n hx => by
    obtain ⟨o', e1⟩ := a.there c ob q hx
    exact b.free c o' e1 (a.free c ob q n hx) hx
  there := fun c ob q hx => by
    obtain ⟨o', e1⟩ := a.there c ob q hx
    exact b.there c o' e1 hx
  tups := fun c xs q => b.tups c xs (a.tups c xs q)
  frzs := fun c ob xs q => b.frzs c ob xs (a.frzs c ob xs q)
  tbls := fun c ps q => by
    obtain ⟨m1, e1⟩ := a.tbls c ps q
    obtain ⟨m2, e2⟩ := b.tbls c _ e1
    exact ⟨m1 ++ m2, by rw [e2, Array.append_assoc]⟩
theorem Un.kept (k : ∀ b u, h.get? b = some u → h'.get? b = some u) : Un fs ex H H h h' :=
  ⟨fun b ob q _ _ _ => k b ob q, fun b ob q _ _ _ => ⟨ob.slots, k b ob q⟩, fun _ _ _ n _ => n, fun b ob q _ => ⟨ob, k b ob q⟩, fun _ _ q => q, fun _ _ _ q => q, fun _ ps q => ⟨#[], by rw [q]; simp⟩⟩
theorem Un.refl : Un fs ex H H h h := Un.kept fun _ _ q => q
theorem Un.laid (k : ∀ b u, h.get? b = some u → h'.get? b = some u) (hp : h.objs.size ≤ a) (hn : H a = none) : Un fs ex H (upd H a o) h h' where
  keep := fun b u q _ _ _ => k b u q
  slot := fun b u q _ _ _ => ⟨u.slots, k b u q⟩
  free := fun b u q n _ => by rw [upd_ne (Nat.ne_of_lt (Nat.lt_of_lt_of_le (Heap.lt_size q) hp))]; exact n
  there := fun b u q _ => ⟨u, k b u q⟩
  tups := fun b xs q => by rw [upd_ne (ne_of_none q hn)]; exact q
  frzs := fun b u xs q => by rw [upd_ne (ne_of_none q hn)]; exact q
  tbls := fun b ps q => ⟨#[], by rw [upd_ne (ne_of_none q hn), q]; simp⟩
theorem Un.write (mu : Mut (H x)) (he : e = x ∨ H e = some (.own x)) (k : ∀ b u, b ≠ e → h.get? b = some u → h'.get? b = some u) (heo : ∃ u, h'.get? e = some u) : Un fs ex H (upd H x o) h h' := by
  have hx : ∀ b, H b = none → b ≠ x := fun b n z => by subst z; rw [n] at mu; exact mu
  have hb : ∀ b, H b = none → b ≠ e := fun b n z => by
    subst z
    rcases he with r | r
    · exact hx b n r
    · rw [n] at r; cases r
  have hm : ∀ b u, H b = some u → ¬ Mut (some u) → b ≠ x := fun b u q nm z => by subst z; rw [q] at mu; exact nm mu
  refine ⟨fun b u q n _ _ => k b u (hb b n) q, fun b u q n _ _ => ⟨u.slots, k b u (hb b n) q⟩, fun b u q n _ => by rw [upd_ne (hx b n)]; exact n, fun b u q _ => ?_,
    fun b xs q => by rw [upd_ne (hm b _ q fun z => z)]; exact q, fun b u xs q => by rw [upd_ne (hm b _ q fun z => z)]; exact q, fun b ps q => ⟨#[], by rw [upd_ne (hm b _ q fun z => z), q]; simp⟩⟩
  by_cases hbe : b = e
  · subst hbe; exact heo
  · exact ⟨u, k b u hbe q⟩
theorem Un.mono (u : Un fs ex H H1 h h1) (hs : ∀ b ∈ fs, b ∈ fs') (hx : ∀ b ∈ ex, b ∈ ex') : Un fs' ex' H H1 h h1 :=
  ⟨fun b ob q n hb he => u.keep b ob q n (fun z => hb (hs b z)) fun z => he (hx b z), fun _ _ q n _ he => u.any q n fun z => he (hx _ z), fun b ob q n he => u.free b ob q n fun z => he (hx b z), fun b ob q he => u.there b ob q fun z => he (hx b z), u.tups, u.frzs, u.tbls⟩
end
/-! ### the heap without what is tracked -/
noncomputable def trk (h : Heap) (H : Hp) : List Addr := (List.range h.objs.size).filter fun a => (H a).isSome
noncomputable def hidT (h : Heap) (H : Hp) : Heap := PySem.W.hideAll h (trk h H)
theorem hidT_size (h : Heap) (H : Hp) : (hidT h H).objs.size = h.objs.size := PySem.W.hideAll_size _ _
theorem hidT_get {h : Heap} {H : Hp} {b : Addr} {o : Obj} (e : h.get? b = some o) (n : H b = none) : (hidT h H).get? b = some o :=
  PySem.W.hideAll_get _ e fun hm => by
    have q : (H b).isSome = true := (List.mem_filter.mp hm).2
    rw [n] at q; simp at q
theorem of_hidT {h : Heap} {H : Hp} {b : Addr} {o : Obj} (e : (hidT h H).get? b = some o) : h.get? b = some o ∧ H b = none := by
  have e' : h.get? b = some o := PySem.W.of_hideAll (trk h H) e
  refine ⟨e', ?_⟩
  cases q : H b with
  | none => rfl
  | some x =>
    have hm : b ∈ trk h H := List.mem_filter.mpr ⟨List.mem_range.mpr (Heap.lt_size e'), by simp [q]⟩
    have z : (hidT h H).get? b = none := PySem.W.hideAll_none (trk h H) hm
    rw [z] at e; cases e
/-! ### OpenK's ledger, filled with every new object but one -/
noncomputable def allNews (g h : Heap) (L : Addr) : List (Addr × Obj) := (List.range h.objs.size).filterMap fun a => if a = L ∨ (g.get? a).isSome = true then none else (h.get? a).map fun o => (a, o)
noncomputable def rest (g h : Heap) (L d : Addr) : List (Addr × Obj) := (allNews g h L).filter fun p => decide (p.1 ≠ d)
end L2
namespace L2
open PySem PySem.Spec PyProof.Rows
/-- the module's facts, over the base: the heap at the law's entry without what is tracked there -/
structure Mod (K : PySem.W.Frag) (mg : Str → Option Value) (base : Heap) : Prop where
  kin : K.In base
  glob : base.Ns mainGlobals mg
  blt : ∃ mb, base.Ns builtinsNs mb ∧ ∀ x : Str, x ≠ "__name__" → mb x = bootBuiltins x
  nolimit : base.NoLimit
/-- the context: a def's body (or a comprehension's block) running. base: fixed through the whole law; s₀, H₀: the entry; outer: the frames whose slots others may change (a def's callers); stack: all frames that run;
   ex: iterators that were made ahead of the entry and are walked here (a comprehension's); fn: the names whose cells were made at the entry (a def: all; a comprehension's block: its own); calm: not within an except suite; pn: pins that every state bears; xe: what is wanted of an exception that leaves the code -/
structure Cx where
  prog : Program
  w : World
  K : PySem.W.Frag
  mg : Str → Option Value
  base : Heap
  A : Around
  N : List Str
  s₀ : Shared
  H₀ : Hp
  env : Env
  outer : List Env
  stack : List Env
  ex : List Addr
  fn : Str → Bool
  calm : Bool
  pn : List (Addr × Obj)
  xe : Value → Shared → Prop
/-- the callers' frames -/
noncomputable def frs (l : List Env) : List Addr := l.filterMap (·.frame)
noncomputable abbrev Cx.fs (X : Cx) : List Addr := frs X.outer
noncomputable def Vis (sc : Scope) (x : Str) : Prop := sc.names.lookup x = some .local ∨ sc.names.lookup x = some .cell ∨ sc.names.lookup x = some .free
noncomputable def Loc (sc : Scope) (x : Str) : Prop := sc.names.lookup x = some .local ∨ sc.names.lookup x = some .cell
noncomputable def Look (env : Env) (h : Heap) (m : Str → Option Value) (x : Str) (u : Value) : Prop :=
  (env.kindOf x = some .local ∧ m x = some u) ∨ ((env.kindOf x = some .cell ∨ env.kindOf x = some .free) ∧ ∃ c, env.cells.lookup x = some c ∧ h.IsCell c (some u))
structure Cx.Ok (X : Cx) : Prop where
  mod : Mod X.K X.mg X.base
  kind : X.env.scope.kind = .function
  glob : X.env.globals = mainGlobals
  blt : X.env.builtins = builtinsNs
  above : X.s₀.heap.objs.size ≤ X.env.locals
  inj : ∀ x y c, X.env.cells.lookup x = some c → X.env.cells.lookup y = some c → x = y
  has : ∀ x, (X.env.kindOf x = some .cell ∨ X.env.kindOf x = some .free) → ∃ c, X.env.cells.lookup x = some c
  cab : ∀ x c, X.fn x = true → X.env.cells.lookup x = some c → X.s₀.heap.objs.size ≤ c
  hd : X.calm = true → X.A.handled = none
  frames : X.A.frames = some X.stack
  stk : X.stack = X.outer ∨ (X.stack = X.env :: X.outer ∧ X.env.frame = some X.env.locals)
  exf : ∀ b ∈ X.ex, b ≠ X.env.locals ∧ ∀ x c, X.env.cells.lookup x = some c → c ≠ b
  bs : ∀ b o, X.base.get? b = some o → X.s₀.heap.get? b = some o ∧ X.H₀ b = none
  bsz : X.base.objs.size ≤ X.s₀.heap.objs.size
  noex : ∀ b o, X.base.get? b = some o → b ∉ X.ex
  exfs : ∀ b ∈ X.ex, b ∉ X.fs
  funs : X.s₀.heap.FunFrames X.base X.outer
  frf : ∀ b ∈ X.fs, X.H₀ b = none
structure Inv (X : Cx) (pins : List (Addr × Obj)) (σ : List (Option V)) (H : Hp) (s : Shared) : Prop where
  ok : X.Ok
  os : s.os = X.s₀.os
  bare : AllBare s.gens
  base : Un X.fs X.ex X.H₀ H X.s₀.heap s.heap
  loc : ∃ m, s.heap.Ns X.env.locals m ∧ ∀ (i : Nat) (x : Str) (v : V), X.N[i]? = some x → σ[i]? = some (some v) → Vis X.env.scope x → ∃ u, RelV v u ∧ Look X.env s.heap m x u
  cell : ∀ x c, X.env.cells.lookup x = some c → ∃ v, s.heap.IsCell c v
  free : H X.env.locals = none
  freeC : ∀ x c, X.env.cells.lookup x = some c → H c = none
  pin : ∀ p ∈ X.pn ++ pins, s.heap.get? p.1 = some p.2 ∧ H p.1 = none ∧ p.1 ≠ X.env.locals ∧ p.1 ∉ X.fs ∧ ∀ v, p.2.data ≠ .cell v
  hok : HOk X.prog X.w H s.heap
  len : σ.length = X.N.length
section
variable {X : Cx} {pins : List (Addr × Obj)} {σ : List (Option V)} {H H' : Hp} {s : Shared} {h' : Heap}
theorem Cx.Ok.nofr (ok : X.Ok) {b : Addr} {o : Obj} (e : X.base.get? b = some o) : b ∉ X.fs := fun hb => by
  have := (ok.funs.mem hb).1
  rw [e] at this; cases this
theorem Inv.bs (I : Inv X pins σ H s) : ∀ b o, X.base.get? b = some o → s.heap.get? b = some o ∧ H b = none := fun b o e =>
  ⟨I.base.keep b o (I.ok.bs b o e).1 (I.ok.bs b o e).2 (I.ok.nofr e) (I.ok.noex b o e), I.base.free b o (I.ok.bs b o e).1 (I.ok.bs b o e).2 (I.ok.noex b o e)⟩
theorem Inv.bk (I : Inv X pins σ H s) : ∀ b o, X.base.get? b = some o → s.heap.get? b = some o := fun b o e => (I.bs b o e).1
theorem Inv.mod (I : Inv X pins σ H s) : Mod X.K X.mg X.base := I.ok.mod
theorem Inv.kIn (I : Inv X pins σ H s) : X.K.In s.heap := I.ok.mod.kin.keeps I.bk
theorem Inv.nolimit (I : Inv X pins σ H s) : s.heap.NoLimit := I.ok.mod.nolimit.keeps I.bk
/-- the frame over the base: for OpenK's rules (K.In X.base is I.mod.kin) -/
theorem Inv.fr (I : Inv X pins σ H s) : ∃ m, Fr X.base X.env.locals s.heap m :=
  let ⟨m, hn, _⟩ := I.loc
  ⟨m, hn, I.bk, Nat.le_trans I.ok.bsz I.ok.above⟩
theorem Inv.lt (I : Inv X pins σ H s) : X.env.locals < s.heap.objs.size := let ⟨_, hn, _⟩ := I.loc; hn.lt
theorem Inv.sz (I : Inv X pins σ H s) : X.s₀.heap.objs.size ≤ s.heap.objs.size := Nat.le_trans I.ok.above (Nat.le_of_lt I.lt)
theorem Inv.nofs (I : Inv X pins σ H s) {a : Addr} (h : s.heap.objs.size ≤ a) : a ∉ X.fs := fun hb => by
  obtain ⟨_, o, ho, _⟩ := I.ok.funs.mem hb
  exact absurd (Nat.lt_of_lt_of_le (Heap.lt_size ho) (Nat.le_trans I.sz h)) (Nat.lt_irrefl _)
theorem Inv.cne (I : Inv X pins σ H s) : ∀ x c, X.env.cells.lookup x = some c → c ≠ X.env.locals := fun x c e z => by
  obtain ⟨v, o, ho, hd⟩ := I.cell x c e
  obtain ⟨m, ⟨o', es, ep, ho', hd', _⟩, _⟩ := I.loc
  rw [z, ho'] at ho; cases ho; rw [hd'] at hd; cases hd
theorem Inv.funs (I : Inv X pins σ H s) : s.heap.FunFrames X.base X.outer := by
  have all : ∀ (l : List Env), (∀ b ∈ frs l, b ∈ X.fs) → X.s₀.heap.FunFrames X.base l → s.heap.FunFrames X.base l := by
    intro l
    induction l with
    | nil => intro _ _; trivial
    | cons env r ih =>
      intro hs hl
      obtain ⟨hk, ⟨L, o, hf, hn, ho, hd⟩, hr⟩ := hl
      have hL : L ∈ X.fs := hs L (by unfold frs; rw [List.filterMap_cons, hf]; exact List.mem_cons_self)
      obtain ⟨sl, e⟩ := I.base.slot L o ho (I.ok.frf L hL) hL fun z => I.ok.exfs L z hL
      exact ⟨hk, ⟨L, _, hf, hn, e, hd⟩, ih (fun b hb => hs b (by unfold frs; rw [List.filterMap_cons, hf]; exact List.mem_cons_of_mem _ hb)) hr⟩
  exact all X.outer (fun _ hb => hb) I.ok.funs
/-- the frames that run, for a call -/
theorem Inv.stack (I : Inv X pins σ H s) : s.heap.FunFrames X.base X.stack := by
  rcases I.ok.stk with e | ⟨e, hf⟩
  · rw [e]; exact I.funs
  · rw [e]
    obtain ⟨m, hn, _⟩ := I.loc
    refine .cons (by rw [I.ok.kind]; decide) hf hn ?_ I.funs
    exact Heap.get?_none_of_le (Nat.le_trans I.ok.bsz I.ok.above)
theorem Inv.stkSub (I : Inv X pins σ H s) : ∀ b ∈ frs X.stack, b ∈ X.env.locals :: X.fs := fun b hb => by
  rcases I.ok.stk with e | ⟨e, hf⟩
  · rw [e] at hb; exact List.mem_cons_of_mem _ hb
  · rw [e] at hb
    unfold frs at hb
    rw [List.filterMap_cons, hf] at hb
    exact hb
theorem Inv.stkFree (I : Inv X pins σ H s) : ∀ b ∈ frs X.stack, H b = none := fun b hb => by
  rcases List.mem_cons.mp (I.stkSub b hb) with e | hb
  · rw [e]; exact I.free
  · obtain ⟨_, o, ho, _⟩ := I.ok.funs.mem hb
    exact I.base.free b o ho (I.ok.frf b hb) fun z => I.ok.exfs b z hb
/-- THE STEP: the untracked objects but the frame and the records at ch are kept (the callers' frames up to slots), the frame's map is kept, the new abstract heap is held -/
theorem Inv.step {g' : Array GenState} {t' : Nat} {d' : Drawn} {ch : List Addr} (I : Inv X pins σ H s)
    (hch : ∀ b ∈ ch, (b ∈ X.ex ∨ X.s₀.heap.objs.size ≤ b) ∧ b ≠ X.env.locals ∧ (∀ x c, X.env.cells.lookup x = some c → c ≠ b) ∧ ∀ p ∈ X.pn ++ pins, p.1 ≠ b)
    (keep : ∀ b o, b ≠ X.env.locals → b ∉ X.fs → b ∉ ch → s.heap.get? b = some o → H b = none → h'.get? b = some o)
    (slot : ∀ b o, b ≠ X.env.locals → b ∈ X.fs → b ∉ ch → s.heap.get? b = some o → H b = none → ∃ sl, h'.get? b = some { o with slots := sl }) (free : ∀ b o, b ∉ ch → s.heap.get? b = some o → H b = none → H' b = none)
    (there : ∀ b o, b ∉ ch → s.heap.get? b = some o → ∃ o', h'.get? b = some o')
    (tups : ∀ b xs, H b = some (.tup xs) → H' b = some (.tup xs)) (frzs : ∀ b o u, H b = some (.frz o u) → H' b = some (.frz o u)) (tbls : ∀ b ps, H b = some (.tbl ps) → ∃ more, H' b = some (.tbl (ps ++ more)))
    (ns : ∀ m, s.heap.Ns X.env.locals m → h'.Ns X.env.locals m) (hok : HOk X.prog X.w H' h') (hg : AllBare g') :
    Inv X pins σ H' { s with heap := h', gens := g', drawn := d', toks := t' } := by
  have neL : ∀ b o, X.s₀.heap.get? b = some o → b ≠ X.env.locals := fun b o e => Nat.ne_of_lt (Nat.lt_of_lt_of_le (Heap.lt_size e) I.ok.above)
  have neC : ∀ b o, X.s₀.heap.get? b = some o → b ∉ X.ex → b ∉ ch := fun b o e hx hb => by
    rcases (hch b hb).1 with z | z
    · exact hx z
    · exact absurd (Nat.lt_of_lt_of_le (Heap.lt_size e) z) (Nat.lt_irrefl _)
  have cellK : ∀ x c, X.env.cells.lookup x = some c → ∀ v, s.heap.IsCell c v → h'.IsCell c v := fun x c e v ⟨o, ho, hd⟩ => by
    have nch : c ∉ ch := fun z => (hch c z).2.2.1 x c e rfl
    by_cases hc : c ∈ X.fs
    · obtain ⟨sl, q⟩ := slot c o (I.cne x c e) hc nch ho (I.freeC x c e)
      exact ⟨_, q, hd⟩
    · exact ⟨o, keep c o (I.cne x c e) hc nch ho (I.freeC x c e), hd⟩
  refine ⟨I.ok, I.os, hg, ⟨fun b o e n hb hx => ?_, fun b o e n hb hx => ?_, fun b o e n hx => ?_, fun b o e hx => ?_, fun b xs e => tups b xs (I.base.tups b xs e), fun b o xs e => frzs b o xs (I.base.frzs b o xs e), fun b ps e => ?_⟩, ?_, fun x c e => ?_, ?_, fun x c e => ?_, fun p hp => ?_, hok, I.len⟩
  · exact keep b o (neL b o e) hb (neC b o e hx) (I.base.keep b o e n hb hx) (I.base.free b o e n hx)
  · obtain ⟨sl, e1⟩ := I.base.slot b o e n hb hx
    obtain ⟨sl', e2⟩ := slot b _ (neL b o e) hb (neC b o e hx) e1 (I.base.free b o e n hx)
    exact ⟨sl', e2⟩
  · obtain ⟨o', e1⟩ := I.base.there b o e hx
    exact free b o' (neC b o e hx) e1 (I.base.free b o e n hx)
  · obtain ⟨o', e1⟩ := I.base.there b o e hx
    exact there b o' (neC b o e hx) e1
  · obtain ⟨m1, e1⟩ := I.base.tbls b ps e
    obtain ⟨m2, e2⟩ := tbls b _ e1
    exact ⟨m1 ++ m2, by rw [e2, Array.append_assoc]⟩
  · obtain ⟨m, hn, hl⟩ := I.loc
    refine ⟨m, ns m hn, fun i x v e1 e2 e3 => ?_⟩
    obtain ⟨u, r, l⟩ := hl i x v e1 e2 e3
    refine ⟨u, r, ?_⟩
    rcases l with l | ⟨k, c, e, z⟩
    · exact .inl l
    · exact .inr ⟨k, c, e, cellK x c e _ z⟩
  · obtain ⟨v, z⟩ := I.cell x c e
    exact ⟨v, cellK x c e v z⟩
  · obtain ⟨m, ⟨o, _, _, ho, _⟩, _⟩ := I.loc
    exact free _ o (fun z => (hch _ z).2.1 rfl) ho I.free
  · obtain ⟨v, o, ho, hd⟩ := I.cell x c e
    exact free c o (fun z => (hch c z).2.2.1 x c e rfl) ho (I.freeC x c e)
  · obtain ⟨e, n, ne, nf, d⟩ := I.pin p hp
    have nch : p.1 ∉ ch := fun z => (hch p.1 z).2.2.2 p hp rfl
    exact ⟨keep p.1 p.2 ne nf nch e n, free p.1 p.2 nch e n, ne, nf, d⟩
/-- .. where the frame's own object is kept too -/
theorem Inv.un {t' : Nat} (I : Inv X pins σ H s) (u : Un X.fs [] H H' s.heap h') (hok : HOk X.prog X.w H' h') : Inv X pins σ H' { s with heap := h', toks := t' } := by
  obtain ⟨m, ⟨o, es, ep, ho, r⟩, _⟩ := id I.loc
  obtain ⟨sl, hL⟩ := u.any ho I.free (by simp)
  exact I.step (g' := s.gens) (d' := s.drawn) (ch := []) (fun _ z => nomatch z) (fun b o _ hb _ e n => u.keep b o e n hb (by simp)) (fun b o _ hb _ e n => u.slot b o e n hb (by simp)) (fun b o _ e n => u.free b o e n (by simp)) (fun b o _ e => u.there b o e (by simp)) u.tups u.frzs u.tbls (fun m' hm => by
    obtain ⟨o', es', ep', ho', r'⟩ := hm
    rw [ho] at ho'; cases ho'
    exact ⟨_, es', ep', hL, r'⟩) hok I.bare
/-- behind a call (or a comprehension's block): the slots of this frame may have changed too, the records at ch may have turned -/
theorem Inv.call {g' : Array GenState} {t' : Nat} {d' : Drawn} {ch : List Addr} (I : Inv X pins σ H s) (u : Un (frs X.stack) ch H H' s.heap h') (hok : HOk X.prog X.w H' h') (hg : AllBare g')
    (hch : ∀ b ∈ ch, (b ∈ X.ex ∨ X.s₀.heap.objs.size ≤ b) ∧ b ≠ X.env.locals ∧ (∀ x c, X.env.cells.lookup x = some c → c ≠ b) ∧ ∀ p ∈ X.pn ++ pins, p.1 ≠ b) :
    Inv X pins σ H' { s with heap := h', gens := g', drawn := d', toks := t' } := by
  obtain ⟨m, ⟨o, es, ep, ho, r⟩, _⟩ := id I.loc
  obtain ⟨sl, hL⟩ := u.any ho I.free fun z => (hch _ z).2.1 rfl
  exact I.step (ch := ch) hch (fun b o hL hb hc e n => u.keep b o e n (fun z => (List.mem_cons.mp (I.stkSub b z)).elim hL hb) hc) (fun b o _ _ hc e n => u.any e n hc) (fun b o hc e n => u.free b o e n hc) (fun b o hc e => u.there b o e hc) u.tups u.frzs u.tbls (fun m' hm => by
    obtain ⟨o', es', ep', ho', r'⟩ := hm
    rw [ho] at ho'; cases ho'
    exact ⟨_, es', ep', hL, r'⟩) hok hg
/-- an untracked record of ours (an iterator) has turned -/
theorem Inv.turned {t' : Nat} {it : Addr} (I : Inv X pins σ H s) (k : ∀ b o, b ≠ it → s.heap.get? b = some o → h'.get? b = some o) (hn : H it = none) (hL : it ≠ X.env.locals)
    (h1 : it ∈ X.ex ∨ X.s₀.heap.objs.size ≤ it) (h2 : ∀ x c, X.env.cells.lookup x = some c → c ≠ it) (h3 : ∀ p ∈ X.pn ++ pins, p.1 ≠ it) : Inv X pins σ H { s with heap := h', toks := t' } := by
  have nit : ∀ b u, H b = some u → b ≠ it := fun b u e z => by rw [z, hn] at e; cases e
  refine I.step (g' := s.gens) (d' := s.drawn) (ch := [it]) (fun b hb => ?_) (fun b o _ _ hc e _ => k b o (fun z => hc (by simp [z])) e) (fun b o _ _ hc e _ => ⟨o.slots, k b o (fun z => hc (by simp [z])) e⟩) (fun _ _ _ _ n => n)
    (fun b o hc e => ⟨o, k b o (fun z => hc (by simp [z])) e⟩) (fun _ _ e => e) (fun _ _ _ e => e) (fun b ps e => ⟨#[], by rw [e]; simp⟩) (fun m hm => ?_) (fun b u e => ?_) I.bare
  · have e : b = it := by simpa using hb
    subst e
    exact ⟨h1, hL, h2, h3⟩
  · obtain ⟨o, es, ep, ho, r⟩ := hm
    exact ⟨o, es, ep, k _ o (Ne.symm hL) ho, r⟩
  · refine (I.hok b u e).stay (fun c v hc q => k c v ?_ q) (fun _ q => q) fun _ _ q => q
    rcases hc with z | z
    · rw [z]; exact nit b u e
    · exact nit c _ z
theorem Inv.tok (I : Inv X pins σ H s) (t : Nat) : Inv X pins σ H { s with toks := t } := I.un (h' := s.heap) (t' := t) Un.refl I.hok
/-- all objects kept -/
theorem Inv.kept {t' : Nat} (I : Inv X pins σ H s) (k : ∀ b u, s.heap.get? b = some u → h'.get? b = some u) : Inv X pins σ H { s with heap := h', toks := t' } := I.un (Un.kept k) (I.hok.kept k)
/-- a new object laid and tracked -/
theorem Inv.laid {a : Addr} {o : HO} {t' : Nat} (I : Inv X pins σ H s) (k : ∀ b u, s.heap.get? b = some u → h'.get? b = some u) (hp : s.heap.objs.size ≤ a) (new : ObjOk X.prog X.w (upd H a o) h' a o) :
    Inv X pins σ (upd H a o) { s with heap := h', toks := t' } := I.un (Un.laid k hp (I.hok.fresh hp)) (I.hok.laid k hp new)
/-- an object written -/
theorem Inv.write {x e : Addr} {o : HO} {t' : Nat} (I : Inv X pins σ H s) (mu : Mut (H x)) (he : e = x ∨ H e = some (.own x)) (k : ∀ b u, b ≠ e → s.heap.get? b = some u → h'.get? b = some u) (heo : ∃ u, h'.get? e = some u)
    (new : ObjOk X.prog X.w (upd H x o) h' x o) : Inv X pins σ (upd H x o) { s with heap := h', toks := t' } := I.un (Un.write mu he k heo) (I.hok.write mu he k heo new)
theorem Inv.pins_of {pins' : List (Addr × Obj)} (I : Inv X pins σ H s) (h : ∀ p ∈ pins', s.heap.get? p.1 = some p.2 ∧ H p.1 = none ∧ p.1 ≠ X.env.locals ∧ p.1 ∉ X.fs ∧ ∀ v, p.2.data ≠ .cell v) : Inv X pins' σ H s :=
  ⟨I.ok, I.os, I.bare, I.base, I.loc, I.cell, I.free, I.freeC, fun p hp => (List.mem_append.mp hp).elim (fun z => I.pin p (List.mem_append_left _ z)) (h p), I.hok, I.len⟩
theorem nodup_ix {N : List Str} (hN : N.Nodup) {i j : Nat} {x : Str} (a : N[i]? = some x) (b : N[j]? = some x) : i = j := by
  obtain ⟨h1, e1⟩ := List.getElem?_eq_some_iff.mp a
  obtain ⟨h2, e2⟩ := List.getElem?_eq_some_iff.mp b
  exact (List.getElem_inj hN).mp (e1.trans e2.symm)
/-- a name is stored; what changed -/
theorem store_ok2 {M : Model} {A : Around} {E : Value → Shared → Prop} {i : Nat} {x : Str} {v : V} {u : Value} {Q : Unit → Shared → Prop} (I : Inv X pins σ H s) (hN : X.N.Nodup) (hi : X.N[i]? = some x) (hx : Loc X.env.scope x) (r : RelV v u)
    (h : ∀ s', Inv X pins (σ.set i (some v)) H s' → (∃ a, Heap.SameBut a s.heap s'.heap ∧ (a = X.env.locals ∨ X.env.cells.lookup x = some a)) → Q () s') (hf : X.fn x = true ∨ X.env.scope.names.lookup x = some .local := by first | exact .inl rfl | exact .inr rfl | assumption) : wpAny M A (storeName X.env x u) Q E s := by
  obtain ⟨m, hn, hl⟩ := id I.loc
  have hcls : (X.env.scope.kind == .class || (X.env.scope.kind == .module && X.env.locals != X.env.globals)) = false := by rw [I.ok.kind]; rfl
  have hiσ : i < σ.length := by rw [I.len]; exact (List.getElem?_eq_some_iff.mp hi).1
  have cne := I.cne
  have tracked : ∀ {a : Addr} {h' : Heap}, (∃ o, s.heap.get? a = some o ∧ H a = none) → Heap.SameBut a s.heap h' → HOk X.prog X.w H h' := fun {a h'} ha hs b ob e => by
    obtain ⟨_, _, hfree⟩ := ha
    refine (I.hok b ob e).stay (fun c w' hc q => (hs.2 c ?_).trans q) (fun _ q => q) fun _ _ q => q
    rintro rfl
    rcases hc with rfl | hc
    · rw [hfree] at e; cases e
    · rw [hfree] at hc; cases hc
  rcases hx with hk | hk
  · refine wpAny_storeName_local hk hn (fun h' hn' hs => ?_) hcls
    obtain ⟨oL, _, _, hoL, _⟩ := id hn
    refine h _ ⟨I.ok, I.os, I.bare, ⟨fun b o e n hb hx => ?_, fun b o e n hb hx => ?_, I.base.free, fun b o e hx => ?_, I.base.tups, I.base.frzs, I.base.tbls⟩, ⟨_, hn', fun j y v' e1 e2 e3 => ?_⟩, fun y c e => ?_, I.free, I.freeC, fun p hp => ?_, tracked ⟨oL, hoL, I.free⟩ hs, by simpa using I.len⟩ ⟨_, hs, .inl rfl⟩
    · exact (hs.2 b (Nat.ne_of_lt (Nat.lt_of_lt_of_le (Heap.lt_size e) I.ok.above))).trans (I.base.keep b o e n hb hx)
    · obtain ⟨sl, e1⟩ := I.base.slot b o e n hb hx
      exact ⟨sl, (hs.2 b (Nat.ne_of_lt (Nat.lt_of_lt_of_le (Heap.lt_size e) I.ok.above))).trans e1⟩
    · obtain ⟨o', e1⟩ := I.base.there b o e hx
      exact ⟨o', (hs.2 b (Nat.ne_of_lt (Nat.lt_of_lt_of_le (Heap.lt_size e) I.ok.above))).trans e1⟩
    · by_cases hj : j = i
      · subst hj
        rw [hi] at e1; cases e1
        rw [List.getElem?_set_self hiσ] at e2
        cases e2
        exact ⟨u, r, .inl ⟨hk, by simp⟩⟩
      · rw [List.getElem?_set_ne (Ne.symm hj)] at e2
        obtain ⟨u', r', q⟩ := hl j y v' e1 e2 e3
        refine ⟨u', r', ?_⟩
        rcases q with ⟨k, e⟩ | ⟨k, c, e, z⟩
        · refine .inl ⟨k, ?_⟩
          have : y ≠ x := fun e => hj (nodup_ix hN e1 (e ▸ hi))
          simp [this, e]
        · exact .inr ⟨k, c, e, z.sameBut hs (cne y c e)⟩
    · obtain ⟨w', z⟩ := I.cell y c e
      exact ⟨w', z.sameBut hs (cne y c e)⟩
    · obtain ⟨e, n, ne, nf, d⟩ := I.pin p hp
      exact ⟨(hs.2 p.1 ne).trans e, n, ne, nf, d⟩
  · have hfn : X.fn x = true := by
      rcases hf with z | z
      · exact z
      · rw [z] at hk; cases hk
    obtain ⟨c, hc⟩ := I.ok.has x (.inl hk)
    obtain ⟨w', z⟩ := I.cell x c hc
    refine wpAny_storeName_cell I.ok.kind hk hc z (fun h' hc' hs => ?_)
    obtain ⟨oc, hoc, hocd⟩ := id z
    refine h { s with heap := h' } ⟨I.ok, I.os, I.bare, ⟨fun b o e n hb hx => ?_, fun b o e n hb hx => ?_, I.base.free, fun b o e hx => ?_, I.base.tups, I.base.frzs, I.base.tbls⟩, ⟨m, hn.sameBut hs (Ne.symm (cne x c hc)), fun j y v' e1 e2 e3 => ?_⟩, fun y c' e => ?_, I.free, I.freeC, fun p hp => ?_, tracked ⟨oc, hoc, I.freeC x c hc⟩ hs, by simpa using I.len⟩ ⟨c, hs, .inr hc⟩
    · exact (hs.2 b (Nat.ne_of_lt (Nat.lt_of_lt_of_le (Heap.lt_size e) (I.ok.cab x c hfn hc)))).trans (I.base.keep b o e n hb hx)
    · obtain ⟨sl, e1⟩ := I.base.slot b o e n hb hx
      exact ⟨sl, (hs.2 b (Nat.ne_of_lt (Nat.lt_of_lt_of_le (Heap.lt_size e) (I.ok.cab x c hfn hc)))).trans e1⟩
    · obtain ⟨o', e1⟩ := I.base.there b o e hx
      exact ⟨o', (hs.2 b (Nat.ne_of_lt (Nat.lt_of_lt_of_le (Heap.lt_size e) (I.ok.cab x c hfn hc)))).trans e1⟩
    · by_cases hj : j = i
      · subst hj
        rw [hi] at e1; cases e1
        rw [List.getElem?_set_self hiσ] at e2
        cases e2
        exact ⟨u, r, .inr ⟨.inl hk, c, hc, hc'⟩⟩
      · rw [List.getElem?_set_ne (Ne.symm hj)] at e2
        obtain ⟨u', r', q⟩ := hl j y v' e1 e2 e3
        refine ⟨u', r', ?_⟩
        rcases q with q | ⟨k, c', e, z'⟩
        · exact .inl q
        · refine .inr ⟨k, c', e, z'.sameBut hs ?_⟩
          rintro rfl
          exact hj (nodup_ix hN e1 (I.ok.inj _ _ _ e hc ▸ hi))
    · by_cases hcc : c' = c
      · subst hcc; exact ⟨_, hc'⟩
      · obtain ⟨w2, z2⟩ := I.cell y c' e
        exact ⟨w2, z2.sameBut hs hcc⟩
    · obtain ⟨e, n, ne, nf, d⟩ := I.pin p hp
      refine ⟨(hs.2 p.1 ?_).trans e, n, ne, nf, d⟩
      intro q
      rw [q, hoc] at e
      have q' : oc = p.2 := Option.some.inj e
      exact d w' (by rw [← q']; exact hocd)
theorem store_ok {M : Model} {A : Around} {E : Value → Shared → Prop} {i : Nat} {x : Str} {v : V} {u : Value} {Q : Unit → Shared → Prop} (I : Inv X pins σ H s) (hN : X.N.Nodup) (hi : X.N[i]? = some x) (hx : Loc X.env.scope x) (r : RelV v u)
    (h : ∀ s', Inv X pins (σ.set i (some v)) H s' → Q () s') (hf : X.fn x = true ∨ X.env.scope.names.lookup x = some .local := by first | exact .inl rfl | exact .inr rfl | assumption) : wpAny M A (storeName X.env x u) Q E s :=
  store_ok2 I hN hi hx r (fun s' I' _ => h s' I') hf
/-- behind a call or a block, the state as it is -/
theorem Inv.call' {s' : Shared} {ch : List Addr} (I : Inv X pins σ H s) (ho : s'.os = s.os) (u : Un (frs X.stack) ch H H' s.heap s'.heap) (hok : HOk X.prog X.w H' s'.heap) (hg : AllBare s'.gens)
    (hch : ∀ b ∈ ch, (b ∈ X.ex ∨ X.s₀.heap.objs.size ≤ b) ∧ b ≠ X.env.locals ∧ (∀ x c, X.env.cells.lookup x = some c → c ≠ b) ∧ ∀ p ∈ X.pn ++ pins, p.1 ≠ b) : Inv X pins σ H' s' := by
  obtain ⟨h', g', d', t', o'⟩ := s'
  have e : o' = s.os := ho
  subst e
  exact I.call (g' := g') (t' := t') (d' := d') u hok hg hch
end
/-! ### the judgements -/
/-- an exception: its class, its own dict's address (where it has one), the abstract heap behind it -/
noncomputable abbrev XK := Value → Option Addr → Hp → Prop
noncomputable abbrev St := List (Option V)
noncomputable abbrev VK := V → Hp → Prop
/-- an expression's reading; a test's; an argument list's -/
noncomputable abbrev TE := St → Hp → VK → Prop
noncomputable abbrev TT := St → Hp → (Bool → Hp → Prop) → Prop
noncomputable abbrev TA := St → Hp → (List V → Hp → Prop) → Prop
/-- what is wanted behind a statement -/
structure Ends where
  nx : St → Hp → Prop
  rt : VK
  bk : St → Hp → Prop := fun _ _ => False
  ct : St → Hp → Prop := fun _ _ => False
noncomputable abbrev TS := Ends → St → Hp → Prop
noncomputable def EP (X : Cx) (pins : List (Addr × Obj)) (σ : St) (Q : VK) (u : Value) (s' : Shared) : Prop := ∃ v H', Inv X pins σ H' s' ∧ RelV v u ∧ Q v H'
noncomputable def TP (X : Cx) (pins : List (Addr × Obj)) (σ : St) (Q : Bool → Hp → Prop) (b : Bool) (s' : Shared) : Prop := ∃ H', Inv X pins σ H' s' ∧ Q b H'
noncomputable def AP (X : Cx) (pins : List (Addr × Obj)) (σ : St) (Q : List V → Hp → Prop) (us : List Value) (s' : Shared) : Prop := ∃ vs H', Inv X pins σ H' s' ∧ Vals vs us ∧ Q vs H'
noncomputable def SP (X : Cx) (pins : List (Addr × Obj)) (D : Ends) (f : Flow) (s' : Shared) : Prop :=
  match f with
  | .next => ∃ σ' H', Inv X pins σ' H' s' ∧ D.nx σ' H'
  | .brk => ∃ σ' H', Inv X pins σ' H' s' ∧ D.bk σ' H'
  | .cont => ∃ σ' H', Inv X pins σ' H' s' ∧ D.ct σ' H'
  | .ret u => ∃ v σ' H', Inv X pins σ' H' s' ∧ RelV v u ∧ D.rt v H'
noncomputable def PE (X : Cx) (e : Expr) (t : TE) : Prop :=
  ∀ (pins : List (Addr × Obj)) (s : Shared) (σ : St) (H : Hp) (Q : VK), Inv X pins σ H s → t σ H Q → wpAny (model X.prog X.w) X.A (eval e X.env) (EP X pins σ Q) X.xe s
noncomputable def PT (X : Cx) (e : Expr) (t : TT) : Prop :=
  ∀ (pins : List (Addr × Obj)) (s : Shared) (σ : St) (H : Hp) (Q : Bool → Hp → Prop), Inv X pins σ H s → t σ H Q → wpAny (model X.prog X.w) X.A (isTrue e X.env (eval e X.env)) (TP X pins σ Q) X.xe s
/-- a test whatever its 'whole' is (and, or) -/
noncomputable def PW (X : Cx) (e : Expr) (t : TT) : Prop :=
  ∀ (whole : Sem Value) (pins : List (Addr × Obj)) (s : Shared) (σ : St) (H : Hp) (Q : Bool → Hp → Prop), Inv X pins σ H s → t σ H Q → wpAny (model X.prog X.w) X.A (isTrue e X.env whole) (TP X pins σ Q) X.xe s
theorem PW.pt {X : Cx} {e : Expr} {t : TT} (h : PW X e t) : PT X e t := h _
/-- an argument list (no star), from the left -/
noncomputable def PA (X : Cx) (es : List Expr) (t : TA) : Prop :=
  ∀ (pos : Pos) (pins : List (Addr × Obj)) (s : Shared) (σ : St) (H : Hp) (Q : List V → Hp → Prop), Inv X pins σ H s → t σ H Q → wpAny (model X.prog X.w) X.A (spliced (backTo pos (starEach es X.env))) (AP X pins σ Q) X.xe s
noncomputable def PS (X : Cx) (st : Stmt) (t : TS) : Prop :=
  ∀ (pins : List (Addr × Obj)) (s : Shared) (σ : St) (H : Hp) (D : Ends), Inv X pins σ H s → t D σ H → wpAny (model X.prog X.w) X.A (exec st X.env) (SP X pins D) X.xe s
noncomputable def PSs (X : Cx) (st : List Stmt) (t : TS) : Prop :=
  ∀ (pins : List (Addr × Obj)) (s : Shared) (σ : St) (H : Hp) (D : Ends), Inv X pins σ H s → t D σ H → wpAny (model X.prog X.w) X.A (execs st X.env) (SP X pins D) X.xe s
/-- weaken the end -/
theorem thn {α : Type} {t : Sem α} {Q Q' : α → Shared → Prop} {M : Model} {A : Around} {E : Value → Shared → Prop} {s : Shared} (h : wpAny M A t Q E s) (hQ : ∀ a s, Q a s → Q' a s) : wpAny M A t Q' E s := wpAny_mono h hQ fun _ _ x => x
end L2
namespace L2
open PySem PySem.Spec PyProof.Rows
section
variable {X : Cx}
/-! ### names and constants -/
noncomputable def tVar (i : Nat) : TE := fun σ H Q => ∃ v, σ[i]? = some (some v) ∧ Q v H
noncomputable def tC (v : V) : TE := fun _ H Q => Q v H
theorem pe_var {i : Nat} {x : Str} {pos : Pos} (hN : X.N[i]? = some x) (hv : Vis X.env.scope x) (hd : (x == ("__debug__" : Str)) = false := by decide) (hcd : (x == ("__classdict__" : Str)) = false := by decide) : PE X (.Name x pos) (tVar i) := by
  intro pins s σ H Q I h
  obtain ⟨v, e, h⟩ := h
  obtain ⟨m, hn, hl⟩ := I.loc
  obtain ⟨u, r, l⟩ := hl i x v hN e hv
  have fin : EP X pins σ Q u s := ⟨v, H, I, r, h⟩
  rcases l with ⟨hk, hm⟩ | ⟨hk, c, hc, hcell⟩
  · exact wpAny_Name (wpAny_loadName_local I.ok.kind hk hn hm fin) hd
  · rcases hk with hk | hk
    · exact wpAny_Name (wpAny_loadName_cell I.ok.kind hk hc hcell fin) hd
    · exact wpAny_Name (wpAny_loadName_free I.ok.kind hk hc hcell fin hcd) hd
theorem pe_int {i j pos} : PE X (.Constant (.int i) j pos) (tC (.int i)) := fun _ _ _ H _ I h => wpAny_Constant_int ⟨.int i, H, I.tok _, ⟨_, rfl⟩, h⟩
theorem pe_bl {b j pos} : PE X (.Constant (.bool b) j pos) (tC (.bl b)) := fun _ _ _ H _ I h => Constant_bool ⟨.bl b, H, I, rfl, h⟩
theorem pe_non {j pos} : PE X (.Constant .none j pos) (tC .non) := fun _ _ _ H _ I h => Constant_none ⟨.non, H, I, rfl, h⟩
theorem pe_str {x j pos} : PE X (.Constant (.str x) j pos) (tC (.str x)) := fun _ _ _ H _ I h => Calls.Constant_str ⟨.str x, H, I.tok _, ⟨_, rfl⟩, h⟩
/-- a global name of the def -/
noncomputable def Gl (X : Cx) (x : Str) : Prop := X.env.kindOf x = some .globalImplicit
theorem ld_glob {E : Value → Shared → Prop} {pins : List (Addr × Obj)} {s : Shared} {σ : St} {H : Hp} {x : Str} {u : Value} {pos : Pos} {Q : Value → Shared → Prop} (I : Inv X pins σ H s) (hg : Gl X x) (hm : X.mg x = some u) (h : Q u s)
    (hd : (x == ("__debug__" : Str)) = false := by decide) : wpAny (model X.prog X.w) X.A (eval (.Name x pos) X.env) Q E s :=
  Calls.Name_function_global I.ok.kind hg (Calls.loadGlobal_global (by rw [I.ok.glob]; exact I.mod.glob.keeps I.bk) hm h) hd
theorem ld_blt {E : Value → Shared → Prop} {pins : List (Addr × Obj)} {s : Shared} {σ : St} {H : Hp} {x : Str} {u : Value} {pos : Pos} {Q : Value → Shared → Prop} (I : Inv X pins σ H s) (hg : Gl X x) (hm : X.mg x = none) (hv : bootBuiltins x = some u) (h : Q u s)
    (hn : x ≠ "__name__" := by decide) (hd : (x == ("__debug__" : Str)) = false := by decide) : wpAny (model X.prog X.w) X.A (eval (.Name x pos) X.env) Q E s := by
  obtain ⟨mb, h1, h2⟩ := I.mod.blt
  exact Calls.Name_function_global I.ok.kind hg (Calls.loadGlobal_builtin (by rw [I.ok.glob]; exact I.mod.glob.keeps I.bk) hm (by rw [I.ok.blt]; exact h1.keeps I.bk) ((h2 x hn).trans hv) h) hd
/-- a module's constant, a class, a function, as a value -/
theorem pe_glob {x : Str} {v : V} {u : Value} {pos : Pos} (hg : Gl X x) (hm : X.mg x = some u) (r : RelV v u) (hd : (x == ("__debug__" : Str)) = false := by decide) : PE X (.Name x pos) (tC v) :=
  fun _ _ _ H _ I h => ld_glob I hg hm ⟨v, H, I, r, h⟩ hd
theorem pe_bltn {x : Str} {v : V} {u : Value} {pos : Pos} (hg : Gl X x) (hm : X.mg x = none) (hv : bootBuiltins x = some u) (r : RelV v u) (hn : x ≠ "__name__" := by decide) (hd : (x == ("__debug__" : Str)) = false := by decide) : PE X (.Name x pos) (tC v) :=
  fun _ _ _ H _ I h => ld_blt I hg hm hv ⟨v, H, I, r, h⟩ hn hd
/-! ### arithmetic -/
variable {a b : Expr} {ta tb : TE} {pos : Pos}
/-! ### comparisons -/
/-- a comparison as a value, as a test -/
noncomputable def tB (t : TE) : TT := fun σ H Q => t σ H fun x H1 => ∃ c, x = .bl c ∧ Q c H1
/-- an expression whose value is a bool, as a test -/
theorem pt_val {e : Expr} {t : TE} (h : PE X e t) (he : ∀ whole, isTrue e X.env whole = (do let v ← whole; standAt e.pos; holding [v] (truthy v)) := by intro _; rfl) : PT X e (tB t) := by
  intro pins s σ H Q I hw
  refine isTrue_plain (thn (h pins s σ H _ I hw) fun v s1 ⟨x, H1, I1, r1, q1⟩ => ?_) (he _)
  obtain ⟨d, rfl, q⟩ := q1
  cases r1
  exact wpAny_truthy_bool ⟨H1, I1, q⟩
/-! ### and, or, not -/
variable {tA tB' : TT} {rest : List Expr}
noncomputable def tOr (t u : TT) : TT := fun σ H Q => t σ H fun c H1 => if c = true then Q true H1 else u σ H1 Q
noncomputable def tNot (t : TT) : TT := fun σ H Q => t σ H fun c H1 => Q (!c) H1
theorem pw_or1 (ha : PT X a tA) : PW X (.BoolOp .Or [a] pos) tA := by
  intro wh pins s σ H Q I h
  refine isTrue_or (thn (ha pins s σ H Q I h) fun c s1 e => ?_)
  cases c with
  | false => exact isTrue_or_nil e
  | true => exact e
theorem pw_or (ha : PT X a tA) (hb : PW X (.BoolOp .Or (b :: rest) pos) tB') : PW X (.BoolOp .Or (a :: b :: rest) pos) (tOr tA tB') := by
  intro wh pins s σ H Q I h
  refine isTrue_or (thn (ha pins s σ H _ I h) fun c s1 ⟨H1, I1, q1⟩ => ?_)
  cases c with
  | true => exact ⟨H1, I1, q1⟩
  | false => exact hb wh pins s1 σ H1 Q I1 q1
theorem pt_not (ha : PT X a tA) : PT X (.UnaryOp .Not a pos) (tNot tA) := by
  intro pins s σ H Q I h
  exact isTrue_not (ha pins s σ H (fun c H1 => Q (!c) H1) I h)
/-- .. as values (bools) -/
noncomputable def tAndV (ta tb : TE) : TE := fun σ H Q => ta σ H fun x H1 => ∃ c, x = .bl c ∧ if c = true then tb σ H1 Q else Q (.bl false) H1
noncomputable def tOrV (ta tb : TE) : TE := fun σ H Q => ta σ H fun x H1 => ∃ c, x = .bl c ∧ if c = true then Q (.bl true) H1 else tb σ H1 Q
noncomputable def tNotV (ta : TE) : TE := fun σ H Q => ta σ H fun x H1 => ∃ c, x = .bl c ∧ Q (.bl (!c)) H1
theorem pe_one {op} {t : TE} (h : PE X a t) : PE X (.BoolOp op [a] pos) t := fun pins s σ H Q I hw => BoolOp_one (h pins s σ H Q I hw)
theorem pe_and (ha : PE X a ta) (hb : PE X (.BoolOp .And (b :: rest) pos) tb) : PE X (.BoolOp .And (a :: b :: rest) pos) (tAndV ta tb) := by
  intro pins s σ H Q I h
  refine BoolOp_and (thn (ha pins s σ H _ I h) fun v s1 ⟨x, H1, I1, r1, q1⟩ => ?_)
  obtain ⟨c, rfl, q1⟩ := q1
  cases r1
  refine wpAny_truthy_bool ?_
  cases c with
  | true => exact hb pins s1 σ H1 Q I1 q1
  | false => exact ⟨.bl false, H1, I1, rfl, q1⟩
theorem pe_or (ha : PE X a ta) (hb : PE X (.BoolOp .Or (b :: rest) pos) tb) : PE X (.BoolOp .Or (a :: b :: rest) pos) (tOrV ta tb) := by
  intro pins s σ H Q I h
  refine BoolOp_or (thn (ha pins s σ H _ I h) fun v s1 ⟨x, H1, I1, r1, q1⟩ => ?_)
  obtain ⟨c, rfl, q1⟩ := q1
  cases r1
  refine wpAny_truthy_bool ?_
  cases c with
  | false => exact hb pins s1 σ H1 Q I1 q1
  | true => exact ⟨.bl true, H1, I1, rfl, q1⟩
theorem pe_not (ha : PE X a ta) : PE X (.UnaryOp .Not a pos) (tNotV ta) := by
  intro pins s σ H Q I h
  refine UnaryOp_ (thn (ha pins s σ H _ I h) fun v s1 ⟨x, H1, I1, r1, q1⟩ => ?_)
  obtain ⟨c, rfl, q1⟩ := q1
  cases r1
  exact not_of (wpAny_truthy_bool ⟨.bl (!c), H1, I1, rfl, q1⟩)
/-- a if t else b -/
noncomputable def tIf (t : TT) (ta tb : TE) : TE := fun σ H Q => t σ H fun c H1 => if c = true then ta σ H1 Q else tb σ H1 Q
theorem pe_ifExp {c : Expr} (hc : PT X c tA) (ha : PE X a ta) (hb : PE X b tb) : PE X (.IfExp c a b pos) (tIf tA ta tb) := by
  intro pins s σ H Q I h
  refine wpAny_IfExp (thn (hc pins s σ H _ I h) fun d s1 ⟨H1, I1, q1⟩ => ?_)
  cases d with
  | true => exact ha pins s1 σ H1 Q I1 q1
  | false => exact hb pins s1 σ H1 Q I1 q1
end
end L2
namespace L2
open PySem PySem.Spec PyProof.Rows
/-! ### a list, a tuple that is read: tracked, frozen, or an object of the module -/
noncomputable def SqL (K : PySem.W.Frag) (H : Hp) (a : Addr) (xs : List V) : Prop :=
  Rd H a (.lst xs) ∨
    ∃ (o : Obj) (its : Array Value) (n : Nat), K.lookup a = some o ∧ o.cls = .type "list" ∧ o.dict = none ∧ o.data = .seq its n ∧ its.size ≤ sizeLine ∧ Vals xs its.toList
noncomputable def SqT (K : PySem.W.Frag) (H : Hp) (a : Addr) (xs : List V) : Prop :=
  Rd H a (.tup xs) ∨
    ∃ (o : Obj) (its : Array Value) (n : Nat), K.lookup a = some o ∧ o.cls = .type "tuple" ∧ o.data = .seq its n ∧ its.size ≤ sizeLine ∧ Vals xs its.toList
noncomputable def absV : Value → Option V
  | .none => some .non
  | .bool b => some (.bl b)
  | .int i _ => some (.int i)
  | .str x _ => some (.str x)
  | .bytes b _ => some (.byt b)
  | .float b _ => some (.flt b)
  | .ref a => some (.ref a)
  | .type n => some (.ty n)
  | _ => none
theorem RelV.abs {x : V} {u : Value} (r : RelV x u) : absV u = some x := by
  cases x with
  | non => cases r; rfl
  | bl _ => cases r; rfl
  | int _ => obtain ⟨t, rfl⟩ := r; rfl
  | str _ => obtain ⟨t, rfl⟩ := r; rfl
  | byt _ => obtain ⟨t, rfl⟩ := r; rfl
  | flt _ => obtain ⟨t, rfl⟩ := r; rfl
  | ref _ => cases r; rfl
  | ty _ => cases r; rfl
theorem RelV.inj {x y : V} {u : Value} (r : RelV x u) (q : RelV y u) : x = y := Option.some.inj (r.abs.symm.trans q.abs)
theorem Vals.inj : ∀ {xs ys : List V} {us : List Value}, Vals xs us → Vals ys us → xs = ys
  | _, _, _, .nil, .nil => rfl
  | _, _, _, .cons r t, .cons r' t' => by rw [r.inj r', Vals.inj t t']
section
variable {X : Cx} {pins : List (Addr × Obj)} {σ : St} {H : Hp} {s : Shared} {a : Addr} {xs ys : List V}
theorem SqL.of {K : PySem.W.Frag} (h : H a = some (.lst xs)) : SqL K H a xs := .inl (.inl h)
theorem SqT.of {K : PySem.W.Frag} (h : H a = some (.tup xs)) : SqT K H a xs := .inl (.inl h)
theorem Inv.list (I : Inv X pins σ H s) (h : SqL X.K H a xs) : ∃ its : List Value, Vals xs its ∧ PlainL s.heap a its.toArray ∧ xs.length ≤ sizeLine := by
  rcases h with h | ⟨o, its, n, hk, hc, hd, hs, hz, r⟩
  · obtain ⟨z, its, n, r, e⟩ := h.ok I.hok
    exact ⟨its, r, ⟨_, n, e, rfl, rfl, rfl⟩, z⟩
  · refine ⟨its.toList, r, ⟨o, n, I.kIn a o hk, hc, hd, by simpa using hs⟩, ?_⟩
    have e := r.length
    simp only [Array.length_toList] at e
    omega
theorem Inv.tuple (I : Inv X pins σ H s) (h : SqT X.K H a xs) : ∃ its : List Value, Vals xs its ∧ IsTup s.heap a its.toArray ∧ xs.length ≤ sizeLine := by
  rcases h with h | ⟨o, its, n, hk, hc, hs, hz, r⟩
  · obtain ⟨z, its, r, p⟩ := h.ok I.hok
    exact ⟨its, r, p, z⟩
  · refine ⟨its.toList, r, ⟨o, I.kIn a o hk, hc, n, by simpa using hs⟩, ?_⟩
    have e := r.length
    simp only [Array.length_toList] at e
    omega
theorem Inv.list_inj (I : Inv X pins σ H s) (h : SqL X.K H a xs) (h' : SqL X.K H a ys) : xs = ys := by
  obtain ⟨its, r, ⟨o, n, e, _, _, d⟩, _⟩ := I.list h
  obtain ⟨its', r', ⟨o', n', e', _, _, d'⟩, _⟩ := I.list h'
  rw [e] at e'; cases e'
  rw [d] at d'
  injection d' with d1 _
  have : its = its' := by simpa using congrArg Array.toList d1
  subst this
  exact r.inj r'
theorem Inv.tuple_inj (I : Inv X pins σ H s) (h : SqT X.K H a xs) (h' : SqT X.K H a ys) : xs = ys := by
  obtain ⟨its, r, ⟨o, e, _, n, d⟩, _⟩ := I.tuple h
  obtain ⟨its', r', ⟨o', e', _, n', d'⟩, _⟩ := I.tuple h'
  rw [e] at e'; cases e'
  rw [d] at d'
  injection d' with d1 _
  have : its = its' := by simpa using congrArg Array.toList d1
  subst this
  exact r.inj r'
end
/-! ### another wish about exceptions -/
noncomputable abbrev Cx.wish (X : Cx) (E : Value → Shared → Prop) : Cx := { X with xe := E }
/-- no exception leaves -/
noncomputable abbrev Cx.nox (X : Cx) : Cx := X.wish fun _ _ => False
theorem Cx.Ok.wish {X : Cx} (ok : X.Ok) (E : Value → Shared → Prop) : (X.wish E).Ok :=
  ⟨ok.mod, ok.kind, ok.glob, ok.blt, ok.above, ok.inj, ok.has, ok.cab, ok.hd, ok.frames, ok.stk, ok.exf, ok.bs, ok.bsz, ok.noex, ok.exfs, ok.funs, ok.frf⟩
theorem Cx.Ok.unwish {X : Cx} {E : Value → Shared → Prop} (ok : (X.wish E).Ok) : X.Ok :=
  ⟨ok.mod, ok.kind, ok.glob, ok.blt, ok.above, ok.inj, ok.has, ok.cab, ok.hd, ok.frames, ok.stk, ok.exf, ok.bs, ok.bsz, ok.noex, ok.exfs, ok.funs, ok.frf⟩
section
variable {X : Cx} {pins : List (Addr × Obj)} {σ : St} {H : Hp} {s : Shared} {E : Value → Shared → Prop}
theorem Inv.wish (I : Inv X pins σ H s) (E : Value → Shared → Prop) : Inv (X.wish E) pins σ H s := ⟨I.ok.wish E, I.os, I.bare, I.base, I.loc, I.cell, I.free, I.freeC, I.pin, I.hok, I.len⟩
theorem Inv.unwish (I : Inv (X.wish E) pins σ H s) : Inv X pins σ H s := ⟨I.ok.unwish, I.os, I.bare, I.base, I.loc, I.cell, I.free, I.freeC, I.pin, I.hok, I.len⟩
theorem SP.unwish {D : Ends} {f : Flow} {s' : Shared} (h : SP (X.wish E) pins D f s') : SP X pins D f s' := by
  cases f with
  | next => obtain ⟨σ', H', I, q⟩ := h; exact ⟨σ', H', I.unwish, q⟩
  | brk => obtain ⟨σ', H', I, q⟩ := h; exact ⟨σ', H', I.unwish, q⟩
  | cont => obtain ⟨σ', H', I, q⟩ := h; exact ⟨σ', H', I.unwish, q⟩
  | ret u => obtain ⟨v, σ', H', I, r, q⟩ := h; exact ⟨v, σ', H', I.unwish, r, q⟩
theorem PE.nox {e : Expr} {t : TE} (h : PE X.nox e t) : PE X e t := fun pins s σ H Q I hw =>
  wpAny_mono (h pins s σ H Q (I.wish _) hw) (fun _ _ ⟨v, H', I', r, q⟩ => ⟨v, H', I'.unwish, r, q⟩) fun _ _ z => False.elim z
theorem PT.nox {e : Expr} {t : TT} (h : PT X.nox e t) : PT X e t := fun pins s σ H Q I hw =>
  wpAny_mono (h pins s σ H Q (I.wish _) hw) (fun _ _ ⟨H', I', q⟩ => ⟨H', I'.unwish, q⟩) fun _ _ z => False.elim z
theorem PSs.nox {st : List Stmt} {t : TS} (h : PSs X.nox st t) : PSs X st t := fun pins s σ H D I hw =>
  wpAny_mono (h pins s σ H D (I.wish _) hw) (fun _ _ q => q.unwish) fun _ _ z => False.elim z
end
/-! ### blocks and small statements -/
section
variable {X : Cx} {st : Stmt} {rest : List Stmt} {t u : TS} {e : Expr} {te : TE} {pos : Pos}
noncomputable def tNext : TS := fun D σ H => D.nx σ H
noncomputable def tSeq (t u : TS) : TS := fun D σ H => t { D with nx := u D } σ H
theorem pss_nil : PSs X [] tNext := fun _ _ σ H _ I h => wpAny_execs_nil ⟨σ, H, I, h⟩
theorem pss_cons (h1 : PS X st t) (h2 : PSs X rest u) : PSs X (st :: rest) (tSeq t u) := by
  intro pins s σ H D I h
  refine wpAny_execs_cons (thn (h1 pins s σ H { D with nx := u D } I h) fun f s1 q => ?_)
  cases f with
  | next =>
    obtain ⟨σ', H', I', q⟩ := q
    exact h2 pins s1 σ' H' D I' q
  | ret v => exact q
  | brk => exact q
  | cont => exact q
theorem pss_one (h1 : PS X st t) : PSs X [st] t := by
  intro pins s σ H D I h
  refine wpAny_execs_cons (thn (h1 pins s σ H D I h) fun f s1 q => ?_)
  cases f with
  | next => exact wpAny_execs_nil q
  | ret v => exact q
  | brk => exact q
  | cont => exact q
/-- in a def's body nothing is shown -/
theorem Inv.quiet {pins : List (Addr × Obj)} {σ : St} {H : Hp} {s : Shared} (I : Inv X pins σ H s) : interactive X.env = false := by simp [interactive, I.ok.kind]
/-- an expression whose value is dropped -/
noncomputable def tDrop (te : TE) : TS := fun D σ H => te σ H fun _ H1 => D.nx σ H1
theorem ps_expr (he : PE X e te) (hs : swapsWith e none pos.line X.env = pure false := by rfl) : PS X (.Expr e pos) (tDrop te) := by
  intro pins s σ H D I h
  exact wpAny_Expr_any (thn (he pins s σ H _ I h) fun v s1 ⟨x, H1, I1, r1, q1⟩ => ⟨σ, H1, I1, q1⟩) I.quiet hs
noncomputable def tRet (te : TE) : TS := fun D σ H => te σ H D.rt
theorem ps_ret (he : PE X e te) : PS X (.Return (some e) pos) (tRet te) := by
  intro pins s σ H D I h
  exact wpAny_Return_some (thn (he pins s σ H _ I h) fun v s1 ⟨x, H1, I1, r1, q1⟩ => ⟨x, σ, H1, I1, r1, q1⟩)
noncomputable def tIfS (c : TT) (t u : TS) : TS := fun D σ H => c σ H fun b H1 => if b = true then t D σ H1 else u D σ H1
theorem ps_if {c : Expr} {a b : List Stmt} {tc : TT} (hc : PT X c tc) (ha : PSs X a t) (hb : PSs X b u) : PS X (.If c a b pos) (tIfS tc t u) := by
  intro pins s σ H D I h
  refine wpAny_If (thn (hc pins s σ H _ I h) fun d s1 ⟨H1, I1, q1⟩ => ?_)
  cases d with
  | true => exact ha pins s1 σ H1 D I1 q1
  | false => exact hb pins s1 σ H1 D I1 q1
end
/-! ### targets -/
noncomputable abbrev TG := V → St → Hp → (St → Hp → Prop) → Prop
noncomputable abbrev TGs := List V → St → Hp → (St → Hp → Prop) → Prop
noncomputable def PG (X : Cx) (target : Expr) (t : TG) : Prop :=
  ∀ (pins : List (Addr × Obj)) (s : Shared) (σ : St) (H : Hp) (v : V) (u : Value) (Q : St → Hp → Prop), Inv X pins σ H s → RelV v u → t v σ H Q →
    wpAny (model X.prog X.w) X.A (assign target X.env u) (fun _ s' => ∃ σ' H', Inv X pins σ' H' s' ∧ Q σ' H') X.xe s
/-- several targets, one after another -/
noncomputable def PGs (X : Cx) (ts : List Expr) (t : TGs) : Prop :=
  ∀ (pins : List (Addr × Obj)) (s : Shared) (σ : St) (H : Hp) (vs : List V) (us : List Value) (Q : St → Hp → Prop), Inv X pins σ H s → Vals vs us → t vs σ H Q →
    wpAny (model X.prog X.w) X.A (assignInOrder ((assignEach ts X.env).map (·.2)) us) (fun _ s' => ∃ σ' H', Inv X pins σ' H' s' ∧ Q σ' H') X.xe s
/-- a op= b, by values -/
noncomputable abbrev TIp := V → V → Hp → VK → Prop
noncomputable def PIp (X : Cx) (op : Operator) (t : TIp) : Prop :=
  ∀ (pins : List (Addr × Obj)) (s : Shared) (σ : St) (H : Hp) (x y : V) (v u : Value) (Q : VK), Inv X pins σ H s → RelV x v → RelV y u → t x y H Q →
    wpAny (model X.prog X.w) X.A (inplaceOp op v u) (EP X pins σ Q) X.xe s
section
variable {X : Cx} {pos : Pos}
noncomputable def gName (i : Nat) : TG := fun v σ H Q => Q (σ.set i (some v)) H
theorem pg_name {i : Nat} {x : Str} (hN : X.N.Nodup) (hi : X.N[i]? = some x) (hx : Loc X.env.scope x) (hf : X.fn x = true ∨ X.env.scope.names.lookup x = some .local := by first | exact .inl rfl | exact .inr rfl | assumption) : PG X (.Name x pos) (gName i) := by
  intro pins s σ H v u Q I r h
  exact wpAny_assign_Name (store_ok I hN hi hx r (fun s' I' => ⟨_, H, I', h⟩) hf)
noncomputable def gNil : TGs := fun vs σ H Q => vs = [] ∧ Q σ H
noncomputable def gCons (t : TG) (u : TGs) : TGs := fun vs σ H Q => ∃ v r, vs = v :: r ∧ t v σ H fun σ' H' => u r σ' H' Q
theorem pgs_nil : PGs X [] gNil := by
  intro pins s σ H vs us Q I r h
  obtain ⟨e, h⟩ := h
  subst e
  cases r
  exact assignInOrder_nil ⟨σ, H, I, h⟩
theorem pgs_cons {e : Expr} {es : List Expr} {t : TG} {u : TGs} (h1 : PG X e t) (h2 : PGs X es u)
    (hs : (assignEach (e :: es) X.env).map (·.2) = assign e X.env :: (assignEach es X.env).map (·.2) := by rfl) : PGs X (e :: es) (gCons t u) := by
  intro pins s σ H vs us Q I r h
  obtain ⟨v, vr, e1, h⟩ := h
  subst e1
  cases r with
  | cons r rr =>
    rw [hs]
    refine assignInOrder_cons (thn (h1 pins s σ H _ _ _ I r h) fun _ s1 ⟨σ1, H1, I1, q1⟩ => ?_)
    exact h2 pins s1 σ1 H1 _ _ Q I1 rr q1
/-- (a, b, ..) = a tuple of that length -/
noncomputable def gTup (K : PySem.W.Frag) (n : Nat) (t : TGs) : TG := fun v σ H Q => ∃ a xs, v = .ref a ∧ SqT K H a xs ∧ xs.length = n ∧ t xs σ H Q
theorem pg_tup {es : List Expr} {k : Nat} {t : TGs} {n : Nat} (hc : X.calm = true) (h : PGs X es t)
    (hn : (assignEach es X.env).length = n := by rfl) (hst : (assignEach es X.env).findIdx? (·.1) = none := by rfl) : PG X (.Tuple es k pos) (gTup X.K n t) := by
  intro pins s σ H v u Q I r hw
  obtain ⟨a, xs, e1, hq, hl, hw⟩ := hw
  subst e1
  cases r
  obtain ⟨its, rv, ht, hz⟩ := I.tuple hq
  refine assign_Tuple_tuple (I.ok.hd hc) ht (by simp [hn, ← hl, rv.length]) hst fun h' hx => ?_
  have I1 : Inv X pins σ H { s with heap := h' } := I.kept (t' := s.toks) fun b o e => hx b o (Nat.ne_of_lt (Heap.lt_size e)) e
  exact h pins _ σ H xs _ Q I1 (by simpa using rv) hw
/-- target = value -/
noncomputable def tAsg (te : TE) (g : TG) : TS := fun D σ H => te σ H fun x H1 => g x σ H1 D.nx
theorem ps_asg {tg e : Expr} {te : TE} {g : TG} (he : PE X e te) (hg : PG X tg g) (hs : swapsWithSole [tg] e pos.line X.env = pure false := by rfl) (hw : swappedStores [tg] e X.env = pure none := by rfl)
    (h1 : (assignEach [tg] X.env).map (·.2) = [assign tg X.env] := by rfl) : PS X (.Assign [tg] e pos) (tAsg te g) := by
  intro pins s σ H D I h
  refine wpAny_Assign_stores (thn (he pins s σ H _ I h) fun v s1 ⟨x, H1, I1, r1, q1⟩ => ?_) hs hw
  rw [h1]
  exact thn (hg pins s1 σ H1 x v _ I1 r1 q1) fun _ s2 q => q
/-- name = value -/
theorem ps_set {i : Nat} {x : Str} {e : Expr} {te : TE} {pos' : Pos} (hN : X.N.Nodup) (hi : X.N[i]? = some x) (hx : Loc X.env.scope x) (he : PE X e te) (hs : swapsWith e (some (.Name x pos')) pos.line X.env = pure false := by rfl) (hf : X.fn x = true ∨ X.env.scope.names.lookup x = some .local := by first | exact .inl rfl | exact .inr rfl | assumption) :
    PS X (.Assign [.Name x pos'] e pos) (tAsg te (gName i)) := by
  intro pins s σ H D I h
  refine wpAny_Assign_Name (thn (he pins s σ H _ I h) fun v s1 ⟨y, H1, I1, r1, q1⟩ => ?_) hs
  exact store_ok I1 hN hi hx r1 (fun s2 I2 => ⟨_, H1, I2, q1⟩) hf
/-- name op= e -/
noncomputable def tAug (i : Nat) (te : TE) (ti : TIp) : TS := fun D σ H => ∃ x, σ[i]? = some (some x) ∧ te σ H fun y H1 => ti x y H1 fun z H2 => D.nx (σ.set i (some z)) H2
theorem ps_aug {i : Nat} {x : Str} {e : Expr} {te : TE} {op : Operator} {ti : TIp} {pos' : Pos} (hN : X.N.Nodup) (hi : X.N[i]? = some x) (hx : Loc X.env.scope x) (he : PE X e te) (ho : PIp X op ti) (hf : X.fn x = true ∨ X.env.scope.names.lookup x = some .local := by first | exact .inl rfl | exact .inr rfl | assumption) :
    PS X (.AugAssign (.Name x pos') op e pos) (tAug i te ti) := by
  intro pins s σ H D I h
  obtain ⟨v, e1, h⟩ := h
  obtain ⟨m, hn, hl⟩ := I.loc
  have vis : Vis X.env.scope x := by rcases hx with k | k; exact .inl k; exact .inr (.inl k)
  obtain ⟨u, r, l⟩ := hl i x v hi e1 vis
  refine wpAny_AugAssign_Name ?_
  have go : wpAny (model X.prog X.w) X.A (eval e X.env) (fun w s₂ => wpAny (model X.prog X.w) X.A (inplaceOp op u w) (fun r s₃ => wpAny (model X.prog X.w) X.A (storeName X.env x r) (fun _ => SP X pins D .next) X.xe s₃) X.xe s₂) X.xe s := by
    refine thn (he pins s σ H _ I h) fun w s1 ⟨y, H1, I1, r1, q1⟩ => ?_
    refine thn (ho pins s1 σ H1 v y u w _ I1 r r1 q1) fun z s2 ⟨zv, H2, I2, r2, q2⟩ => ?_
    exact store_ok I2 hN hi hx r2 (fun s3 I3 => ⟨_, H2, I3, q2⟩) hf
  rcases l with ⟨hk, hm⟩ | ⟨hk, c, hc, hcell⟩
  · exact wpAny_loadName_local I.ok.kind hk hn hm go
  · rcases hk with hk | hk
    · exact wpAny_loadName_cell I.ok.kind hk hc hcell go
    · rcases hx with k | k
      · have : X.env.scope.names.lookup x = some .free := hk
        rw [k] at this; cases this
      · have : X.env.scope.names.lookup x = some .free := hk
        rw [k] at this; cases this
end
/-! ### while -/
section
variable {X : Cx} {pos : Pos}
end
/-! ### what a loop or a comprehension walks -/
/-- at turn i: it yields x (the heap may grow), or it stops -/
structure It where
  go : Nat → Hp → Prop
  yld : Nat → Hp → V → Hp → Prop
  stop : Nat → Hp → Prop
/-- the iterator's own objects may turn: they are not the frame's, not pinned, younger than the entry (or a comprehension's own) -/
noncomputable def FpOk (X : Cx) (pins : List (Addr × Obj)) (H : Hp) (b : Addr) : Prop :=
  H b = none ∧ b ≠ X.env.locals ∧ b ∉ X.fs ∧ (b ∈ X.ex ∨ X.s₀.heap.objs.size ≤ b) ∧ (∀ x c, X.env.cells.lookup x = some c → c ≠ b) ∧ ∀ p ∈ X.pn ++ pins, p.1 ≠ b
theorem Inv.fpOk {X : Cx} {pins : List (Addr × Obj)} {σ : St} {H H' : Hp} {s : Shared} {b : Addr} (I : Inv X pins σ H s) (hb : s.heap.objs.size ≤ b) (hn : H' b = none) : FpOk X pins H' b := by
  refine ⟨hn, Nat.ne_of_gt (Nat.lt_of_lt_of_le I.lt hb), I.nofs hb, .inr (Nat.le_trans I.sz hb), fun x c e z => ?_, fun p hp z => ?_⟩
  · obtain ⟨v, q⟩ := I.cell x c e
    exact absurd (Nat.lt_of_lt_of_le q.lt (by rw [z]; exact hb)) (Nat.lt_irrefl _)
  · exact absurd (Nat.lt_of_lt_of_le (Heap.lt_size (I.pin p hp).1) (by rw [z]; exact hb)) (Nat.lt_irrefl _)
structure Turn (P : Program) (w : World) (K : PySem.W.Frag) (tg : Expr) (J : It) (fp : List Addr) (it : Addr) (tn : Nat → Heap → Prop) : Prop where
  mem : it ∈ fp
  obj : ∀ i h, tn i h → ∀ b ∈ fp, ∃ o, h.get? b = some o ∧ ∀ v, o.data ≠ .cell v
  keep : ∀ i h h', tn i h → (∀ b ∈ fp, ∀ o, h.get? b = some o → h'.get? b = some o) → tn i h'
  item : ∀ (X : Cx), X.prog = P → X.w = w → X.K = K → X.calm = true → ∀ (i : Nat) (pins : List (Addr × Obj)) (s : Shared) (σ : St) (H : Hp) (E : Value → Shared → Prop), Inv X pins σ H s → (∀ b ∈ fp, FpOk X pins H b) → tn i s.heap → J.go i H →
    wpAny (model P w) X.A (pyNext (.ref it)) (fun r s1 => ∃ u, r = some u ∧
      wpAny (model P w) X.A (letOwnedTupleGo tg (.ref it) u) (fun _ s2 => ∃ x H', Inv X pins σ H' s2 ∧ RelV x u ∧ J.yld i H x H' ∧ tn (i + 1) s2.heap ∧ ∀ b ∈ fp, H' b = none) E s1) E s
  done : ∀ (X : Cx), X.prog = P → X.w = w → X.K = K → X.calm = true → ∀ (i : Nat) (pins : List (Addr × Obj)) (s : Shared) (σ : St) (H : Hp) (E : Value → Shared → Prop), Inv X pins σ H s → (∀ b ∈ fp, FpOk X pins H b) → tn i s.heap → J.stop i H →
    wpAny (model P w) X.A (pyNext (.ref it)) (fun r s1 => r = none ∧ Inv X pins σ H s1) E s
  self : ∀ (A : Around) (i : Nat) (s : Shared) (Q : Value → Shared → Prop) (E : Value → Shared → Prop), tn i s.heap → Q (.ref it) s → wpAny (model P w) A (pyIter (.ref it)) Q E s
noncomputable abbrev TI := St → Hp → (It → Hp → Prop) → Prop
/-- an iterator has come -/
noncomputable def PIE (X : Cx) (pins : List (Addr × Obj)) (σ : St) (tg : Expr) (R : It → Hp → Prop) (itv : Value) (s2 : Shared) : Prop :=
  ∃ (it : Addr) (fp : List Addr) (tn : Nat → Heap → Prop) (J : It) (H' : Hp), itv = .ref it ∧ Inv X pins σ H' s2 ∧ Turn X.prog X.w X.K tg J fp it tn ∧ tn 0 s2.heap ∧ (∀ b ∈ fp, FpOk X pins H' b) ∧ R J H'
noncomputable def PI (X : Cx) (tg iter : Expr) (wi : TI) : Prop :=
  ∀ (pins : List (Addr × Obj)) (s : Shared) (σ : St) (H : Hp) (R : It → Hp → Prop), Inv X pins σ H s → wi σ H R →
    wpAny (model X.prog X.w) X.A (eval iter X.env) (fun v s1 => wpAny (model X.prog X.w) X.A (pyIter v) (PIE X pins σ tg R) X.xe s1) X.xe s
/-- the step ahead of the store is nothing for an iterator that keeps no tuple -/
theorem go_of {M : Model} {A : Around} {E : Value → Shared → Prop} {s : Shared} {tg : Expr} {it : Addr} {u : Value} {o : Obj} {n : String} {vs : Array Value} {Q : Unit → Shared → Prop} (ho : s.heap.get? it = some o) (hc : o.cls = .type n) (hd : o.data = .fields vs)
    (hn : ["enumerate", "zip", "dict_itemiterator", "dict_reverseitemiterator", "odict_iterator", "itertools.zip_longest", "itertools.pairwise"].contains n = false) (hQ : Q () s) : wpAny M A (letOwnedTupleGo tg (.ref it) u) Q E s := by
  unfold letOwnedTupleGo
  cases tg <;> first
    | exact wpAny_pure hQ
    | (cases u <;> first
        | exact wpAny_pure hQ
        | (refine wpAny_bind (wpAny_load ho ?_)
           rw [hc, hd]
           show wpAny M A (if (["enumerate", "zip", "dict_itemiterator", "dict_reverseitemiterator", "odict_iterator", "itertools.zip_longest", "itertools.pairwise"].contains n && vs[0]? == some (rawInt _)) = true then _ else _) Q E s
           rw [if_neg (by intro h; rw [hn, Bool.false_and] at h; cases h)]
           exact wpAny_pure hQ))
/-- the list at a, as it stands at each turn (a loop may append to it) -/
noncomputable def Itl (K : PySem.W.Frag) (a : Addr) : It :=
  ⟨fun i H => ∃ xs x, SqL K H a xs ∧ xs[i]? = some x, fun i H x H' => H' = H ∧ ∀ xs, SqL K H a xs → xs[i]? = some x, fun i H => ∃ xs, SqL K H a xs ∧ xs.length ≤ i⟩
noncomputable def Itt (K : PySem.W.Frag) (a : Addr) : It :=
  ⟨fun i H => ∃ xs x, SqT K H a xs ∧ xs[i]? = some x, fun i H x H' => H' = H ∧ ∀ xs, SqT K H a xs → xs[i]? = some x, fun i H => ∃ xs, SqT K H a xs ∧ xs.length ≤ i⟩
/-- lo, lo + 1, .. (n of them) -/
noncomputable def Itr (lo : Int) (n : Nat) : It := ⟨fun i _ => i < n, fun i H x H' => H' = H ∧ x = .int (lo + i), fun i _ => n ≤ i⟩
theorem turn_list {P : Program} {w : World} {K : PySem.W.Frag} {tg : Expr} (a it : Addr) : Turn P w K tg (Itl K a) [it] it (fun i h => h.IsListIter it a i) where
  mem := by simp
  obj := fun i h st b hb => by
    have e : b = it := by simpa using hb
    subst e
    obtain ⟨o, e, c, d⟩ := st
    exact ⟨o, e, fun v z => by rw [d] at z; cases z⟩
  keep := fun i h h' st k => st.at fun o e => k it (by simp) o e
  item := by
    intro X hP hw hK hc i pins s σ H E I hf st hg
    subst hP hw hK
    obtain ⟨xs, x, hq, hx⟩ := hg
    obtain ⟨its, rv, p, hz⟩ := I.list hq
    obtain ⟨u, hu, ru⟩ := rv.get hx
    obtain ⟨f0, f1, f2, f3, f4, f5⟩ := hf it (by simp)
    refine wpAny_pyNext_list_item st p.isList (x := u) (by simpa using hu) fun h' st' sb => ?_
    have I1 : Inv X pins σ H { s with heap := h' } := I.turned (t' := s.toks) (fun b o hb e => (sb.2 b hb).trans e) f0 f1 f3 f4 f5
    obtain ⟨o, e, c, d⟩ := id st'
    exact ⟨u, rfl, go_of (s := { s with heap := h' }) e c d (by decide) ⟨x, H, I1, ru, ⟨rfl, fun ys hy => by rw [I.list_inj hy hq]; exact hx⟩, st', fun b hb => (hf b hb).1⟩⟩
  done := by
    intro X hP hw hK hc i pins s σ H E I hf st hg
    subst hP hw hK
    obtain ⟨xs, hq, hx⟩ := hg
    obtain ⟨its, rv, p, hz⟩ := I.list hq
    obtain ⟨f0, f1, f2, f3, f4, f5⟩ := hf it (by simp)
    have hl := rv.length
    exact wpAny_pyNext_list_end (I.ok.hd hc) st p.isList (by simp; omega) fun h' eb => ⟨rfl, I.turned (t' := s.toks) (fun b o hb e => eb b o hb e) f0 f1 f3 f4 f5⟩
  self := fun _ _ _ _ _ st h => wpAny_pyIter_listiter st h
theorem turn_tuple {P : Program} {w : World} {K : PySem.W.Frag} {tg : Expr} (a it : Addr) : Turn P w K tg (Itt K a) [it] it (fun i h => h.IsTupleIter it a i) where
  mem := by simp
  obj := fun i h st b hb => by
    have e : b = it := by simpa using hb
    subst e
    obtain ⟨o, e, c, d⟩ := st
    exact ⟨o, e, fun v z => by rw [d] at z; cases z⟩
  keep := fun i h h' st k => st.at fun o e => k it (by simp) o e
  item := by
    intro X hP hw hK hc i pins s σ H E I hf st hg
    subst hP hw hK
    obtain ⟨xs, x, hq, hx⟩ := hg
    obtain ⟨its, rv, p, hz⟩ := I.tuple hq
    obtain ⟨u, hu, ru⟩ := rv.get hx
    obtain ⟨f0, f1, f2, f3, f4, f5⟩ := hf it (by simp)
    refine wpAny_pyNext_tuple_item st (show s.heap.IsTuple a its.toArray from p) (x := u) (by simpa using hu) fun h' st' sb => ?_
    have I1 : Inv X pins σ H { s with heap := h' } := I.turned (t' := s.toks) (fun b o hb e => (sb.2 b hb).trans e) f0 f1 f3 f4 f5
    obtain ⟨o, e, c, d⟩ := id st'
    exact ⟨u, rfl, go_of (s := { s with heap := h' }) e c d (by decide) ⟨x, H, I1, ru, ⟨rfl, fun ys hy => by rw [I.tuple_inj hy hq]; exact hx⟩, st', fun b hb => (hf b hb).1⟩⟩
  done := by
    intro X hP hw hK hc i pins s σ H E I hf st hg
    subst hP hw hK
    obtain ⟨xs, hq, hx⟩ := hg
    obtain ⟨its, rv, p, hz⟩ := I.tuple hq
    obtain ⟨f0, f1, f2, f3, f4, f5⟩ := hf it (by simp)
    have hl := rv.length
    exact wpAny_pyNext_tuple_end (I.ok.hd hc) st (show s.heap.IsTuple a its.toArray from p) (by simp; omega) fun h' eb => ⟨rfl, I.turned (t' := s.toks) (fun b o hb e => eb b o hb e) f0 f1 f3 f4 f5⟩
  self := fun _ _ _ _ _ st h => wpAny_pyIter_tupleiter st h
theorem turn_range {P : Program} {w : World} {K : PySem.W.Frag} {tg : Expr} (it : Addr) (lo : Int) (n : Nat) : Turn P w K tg (Itr lo n) [it] it (fun i h => IsRangeIter h it (lo + (i : Nat) * 1) ((n : Int) - (i : Nat)) 1) where
  mem := by simp
  obj := fun i h st b hb => by
    have e : b = it := by simpa using hb
    subst e
    exact ⟨_, st, fun v z => by
      have z' : Data.fields _ = Data.cell v := z
      cases z'⟩
  keep := fun i h h' st k => k it (by simp) _ st
  item := by
    intro X hP hw hK hc i pins s σ H E I hf st hg
    subst hP hw hK
    obtain ⟨f0, f1, f2, f3, f4, f5⟩ := hf it (by simp)
    have W := Walks.range (prog := X.prog) (w := X.w) (I.ok.hd hc) it lo 1 n
    refine W.item i s _ _ hg st fun v h' tk hv st' kk => ?_
    obtain ⟨t, rfl⟩ := hv
    have I1 : Inv X pins σ H { s with heap := h', toks := tk } := I.turned (fun b o hb e => kk b o (by simpa using hb) e) f0 f1 f3 f4 f5
    refine ⟨_, rfl, go_of (s := { s with heap := h', toks := tk }) (n := "range_iterator") st' rfl rfl (by decide) ⟨.int (lo + i), H, I1, ⟨t, ?_⟩, ⟨rfl, rfl⟩, st', fun b hb => (hf b hb).1⟩⟩
    rw [Int.mul_one]
  done := by
    intro X hP hw hK hc i pins s σ H E I hf st hg
    subst hP hw hK
    obtain ⟨f0, f1, f2, f3, f4, f5⟩ := hf it (by simp)
    exact wpAny_pyNext_range_end (I.ok.hd hc) st (by have : n ≤ i := hg; omega) fun h' eb => ⟨rfl, I.turned (t' := s.toks) (fun b o hb e => eb b o hb e) f0 f1 f3 f4 f5⟩
  self := fun _ _ _ _ _ st h => wpAny_pyIter_rangeiter st h
end L2
namespace L2
open PySem PySem.Spec PyProof.Rows
section
variable {X : Cx} {tg : Expr}
/-- a range object just made, walked -/
theorem range_it {pins : List (Addr × Obj)} {σ : St} {H : Hp} {s : Shared} {R : It → Hp → Prop} {E : Value → Shared → Prop} {lo hi : Int} {t u v : Tok} {tk : Nat} (I : Inv X pins σ H s) (h1 : -(2 ^ 62) ≤ lo) (h2 : lo < 2 ^ 62) (h3 : -(2 ^ 62) ≤ hi) (h4 : hi < 2 ^ 62)
    (q : R (Itr lo (hi - lo).toNat) H) : wpAny (model X.prog X.w) X.A (pyIter (.ref s.heap.objs.size)) (PIE X pins σ tg R) E { s with heap := s.heap.push { cls := .type "range", data := .fields #[.int lo t, .int hi u, .int 1 v] }, toks := tk } := by
  refine wpAny_pyIter_range (IsRange.new ..) (small_one h1 h2 h3 h4) ?_
  have I1 : Inv X pins σ H { s with heap := s.heap.push { cls := .type "range", data := .fields #[.int lo t, .int hi u, .int 1 v] }, toks := tk } := I.kept fun b o e => Heap.get?_push_of_some _ e
  refine ⟨(s.heap.push { cls := .type "range", data := .fields #[.int lo t, .int hi u, .int 1 v] }).objs.size, [(s.heap.push { cls := .type "range", data := .fields #[.int lo t, .int hi u, .int 1 v] }).objs.size], _, _, H, rfl,
    I1.kept (t' := tk) fun b o e => Heap.get?_push_of_some _ e, turn_range _ lo (hi - lo).toNat, ?_, fun b hb => ?_, q⟩
  · have e1 : lo + ((0 : Nat) : Int) * 1 = lo := by simp
    have e2 : (((hi - lo).toNat : Nat) : Int) - ((0 : Nat) : Int) = Builtin.Range.rangeSize lo hi 1 := by rw [rangeSize_one]; split <;> omega
    show IsRangeIter _ _ (lo + ((0 : Nat) : Int) * 1) ((((hi - lo).toNat : Nat) : Int) - ((0 : Nat) : Int)) 1
    rw [e1, e2]
    exact Heap.get?_push_size _ rfl
  · have e : b = (s.heap.push { cls := .type "range", data := .fields #[.int lo t, .int hi u, .int 1 v] }).objs.size := by simpa using hb
    subst e
    exact I1.fpOk (Nat.le_refl _) (I1.hok.fresh (Nat.le_refl _))
noncomputable def iRng1 (ta : TA) : TI := fun σ H R => ta σ H fun vs H1 => ∃ j : Int, vs = [.int j] ∧ -(2 ^ 62) ≤ j ∧ j < 2 ^ 62 ∧ R (Itr 0 j.toNat) H1
theorem pi_range1 {a : Expr} {ta : TA} {p pos : Pos} (hg : Gl X "range") (hm : X.mg "range" = none) (ha : PA X [a] ta) (hs : starEach [a] X.env = [(false, eval a X.env)] := by rfl) : PI X tg (.Call (.Name "range" p) [a] [] pos) (iRng1 ta) := by
  intro pins s σ H R I h
  refine Call_ (ld_blt I hg hm boot_range (PyProof.Rows.callWith_type1 (thn (ha pos pins s σ H _ I h) fun us s1 ⟨vs, H1, I1, r1, q1⟩ => ?_) hs rfl))
  obtain ⟨j, e, q1, q2, q⟩ := q1
  subst e
  cases r1 with
  | cons r rr =>
    cases rr
    obtain ⟨t, rfl⟩ := r
    exact call_range_1 (range_it I1 (by omega) (by omega) q1 q2 (by simpa using q))
/-! ### for -/
/-- W: the invariant by the turn and a measure; N: what the body is to reach -/
noncomputable def tFor (wi : TI) (g : TG) (tb : TS) : TS := fun D σ H => wi σ H fun J H1 => ∃ W : Nat → Nat → St → Hp → Prop, (∃ m, W 0 m σ H1) ∧ ∀ i m σ H, W i m σ H →
  (J.stop i H ∧ D.nx σ H) ∨ (J.go i H ∧ ∃ N : St → Hp → Prop, (∀ σ' H', N σ' H' → ∃ m', m' < m ∧ W (i + 1) m' σ' H') ∧ ∀ x H', J.yld i H x H' → g x σ H' fun σ2 H2 => tb { D with nx := N, ct := N, bk := D.nx } σ2 H2)
/-- the records at fp as they stand -/
noncomputable def pinsAt (fp : List Addr) (h : Heap) : List (Addr × Obj) := fp.filterMap fun b => (h.get? b).map fun o => (b, o)
theorem mem_pinsAt {fp : List Addr} {h : Heap} {b : Addr} {o : Obj} (hb : b ∈ fp) (e : h.get? b = some o) : (b, o) ∈ pinsAt fp h := List.mem_filterMap.mpr ⟨b, hb, by rw [e]; rfl⟩
theorem of_pinsAt {fp : List Addr} {h : Heap} {p : Addr × Obj} (hp : p ∈ pinsAt fp h) : p.1 ∈ fp ∧ h.get? p.1 = some p.2 := by
  obtain ⟨b, hb, e⟩ := List.mem_filterMap.mp hp
  cases q : h.get? b with
  | none => rw [q] at e; cases e
  | some o =>
    rw [q] at e
    have e' : (b, o) = p := Option.some.inj e
    subst e'
    exact ⟨hb, q⟩
theorem Inv.pinned {pins : List (Addr × Obj)} {σ : St} {H : Hp} {s : Shared} {fp : List Addr} (I : Inv X pins σ H s) (hf : ∀ b ∈ fp, FpOk X pins H b) (ho : ∀ b ∈ fp, ∃ o, s.heap.get? b = some o ∧ ∀ v, o.data ≠ .cell v) : Inv X (pins ++ pinsAt fp s.heap) σ H s :=
  I.pins_of fun p hp => (List.mem_append.mp hp).elim (fun z => I.pin p (List.mem_append_right _ z)) fun z => by
    obtain ⟨hb, e⟩ := of_pinsAt z
    obtain ⟨f0, f1, f2, _⟩ := hf p.1 hb
    obtain ⟨o, e', d⟩ := ho p.1 hb
    rw [e] at e'; cases e'
    exact ⟨e, f0, f1, f2, d⟩
theorem Inv.unpinned {pins pl : List (Addr × Obj)} {σ : St} {H : Hp} {s : Shared} (I : Inv X (pins ++ pl) σ H s) : Inv X pins σ H s := I.pins_of fun p hp => I.pin p (List.mem_append_right _ (List.mem_append_left _ hp))
theorem ps_for {iter : Expr} {body : List Stmt} {wi : TI} {g : TG} {tb : TS} {pos : Pos} (hp : PassesOwn (model X.prog X.w) X.A X.env X.xe) (hc : X.calm = true) (hi : PI X tg iter wi) (hg : PG X tg g) (hb : PSs X body tb)
    (hs : ∀ x, foldedSetIterable iter X.env x = pure x := by intro _; rfl) : PS X (.For tg iter body [] pos) (tFor wi g tb) := by
  intro pins s σ H D I h
  refine wpAny_For (thn (hi pins s σ H _ I h) fun v s1 h1 => thn h1 fun itv s2 h2 => ?_) hs
  obtain ⟨it, fp, tn, J, H2, e, I2, T, st2, f2, W, ⟨m0, w0⟩, turn⟩ := h2
  subst e
  -- what stays true of the iterator's objects through the loop
  have stat : ∀ {H' : Hp}, (∀ b ∈ fp, H' b = none) → ∀ b ∈ fp, FpOk X pins H' b := fun hn b hb => ⟨hn b hb, (f2 b hb).2⟩
  refine codeAny_forLoop_any (fun n s' => ∃ i σ' H', Inv X pins σ' H' s' ∧ tn i s'.heap ∧ (∀ b ∈ fp, H' b = none) ∧ W i n σ' H') ?_ m0 ⟨0, σ, H2, I2, st2, fun b hb => (f2 b hb).1, w0⟩
  rintro n s3 ⟨i, σ3, H3, I3, st3, fr3, w3⟩
  rcases turn i n σ3 H3 w3 with ⟨stop, qn⟩ | ⟨go, N, hN, step⟩
  · refine wpAny_passesOwn hp (thn (T.done X rfl rfl rfl hc i pins s3 σ3 H3 X.xe I3 (stat fr3) st3 stop) fun r s4 ⟨hr, I4⟩ => ?_)
    subst hr
    exact wpAny_execs_nil ⟨σ3, H3, I4, qn⟩
  · refine wpAny_passesOwn hp (thn (T.item X rfl rfl rfl hc i pins s3 σ3 H3 X.xe I3 (stat fr3) st3 go) fun r s4 ⟨u, hr, h4⟩ => ?_)
    subst hr
    refine wpAny_passesOwn hp (thn h4 fun _ s5 ⟨x, H5, I5, r5, y5, st5, fr5⟩ => ?_)
    have I5' := I5.pinned (stat fr5) (T.obj _ _ st5)
    refine wpAny_passesOwn hp (thn (hg _ s5 σ3 H5 x u _ I5' r5 (step x H5 y5)) fun _ s6 ⟨σ6, H6, I6, q6⟩ => ?_)
    refine wpAny_passesOwn hp (thn (hb _ s6 σ6 H6 _ I6 q6) fun f s7 q7 => ?_)
    have again : ∀ {σ7 : St} {H7 : Hp}, Inv X (pins ++ pinsAt fp s5.heap) σ7 H7 s7 → N σ7 H7 → ∃ m, m < n ∧ ∃ i σ' H', Inv X pins σ' H' s7 ∧ tn i s7.heap ∧ (∀ b ∈ fp, H' b = none) ∧ W i m σ' H' := fun {σ7 H7} I7 n7 => by
      obtain ⟨m', hm, w7⟩ := hN σ7 H7 n7
      refine ⟨m', hm, i + 1, σ7, H7, I7.unpinned, T.keep _ _ _ st5 fun b hb o e => (I7.pin (b, o) (List.mem_append_right _ (List.mem_append_right _ (mem_pinsAt hb e)))).1, fun b hb => ?_, w7⟩
      obtain ⟨o, e, d⟩ := T.obj _ _ st5 b hb
      exact (I7.pin (b, o) (List.mem_append_right _ (List.mem_append_right _ (mem_pinsAt hb e)))).2.1
    cases f with
    | next => obtain ⟨σ7, H7, I7, n7⟩ := q7; exact again I7 n7
    | cont => obtain ⟨σ7, H7, I7, n7⟩ := q7; exact again I7 n7
    | brk => obtain ⟨σ7, H7, I7, q7⟩ := q7; exact ⟨σ7, H7, I7.unpinned, q7⟩
    | ret v => obtain ⟨x7, σ7, H7, I7, r7, q7⟩ := q7; exact ⟨x7, σ7, H7, I7.unpinned, r7, q7⟩
end
/-! ### the forms one uses -/
end L2
namespace L2
open PySem PySem.Spec PyProof.Rows
noncomputable abbrev R2 := V → V → Hp → VK → Prop
/-- a two-place operation on values: f is binaryOp op, inplaceOp op or compareOp op -/
noncomputable def OpR (X : Cx) (f : Value → Value → Sem Value) (r : R2) : Prop :=
  ∀ (pins : List (Addr × Obj)) (s : Shared) (σ : St) (H : Hp) (x y : V) (v u : Value) (Q : VK), Inv X pins σ H s → RelV x v → RelV y u → r x y H Q →
    wpAny (model X.prog X.w) X.A (f v u) (EP X pins σ Q) X.xe s
/-- a one-place operation -/
noncomputable def UnR (X : Cx) (f : Value → Sem Value) (r : V → Hp → VK → Prop) : Prop :=
  ∀ (pins : List (Addr × Obj)) (s : Shared) (σ : St) (H : Hp) (x : V) (v : Value) (Q : VK), Inv X pins σ H s → RelV x v → r x H Q →
    wpAny (model X.prog X.w) X.A (f v) (EP X pins σ Q) X.xe s
/-- a call of a value that is known (a builtin, a type) with values -/
noncomputable def CallR (X : Cx) (f : Value) (r : List V → Hp → VK → Prop) : Prop :=
  ∀ (pins : List (Addr × Obj)) (s : Shared) (σ : St) (H : Hp) (xs : List V) (us : List Value) (Q : VK), Inv X pins σ H s → Vals xs us → r xs H Q →
    wpAny (model X.prog X.w) X.A (call f us) (EP X pins σ Q) X.xe s
/-- a value's truth -/
noncomputable def TruR (X : Cx) (r : V → Hp → (Bool → Hp → Prop) → Prop) : Prop :=
  ∀ (pins : List (Addr × Obj)) (s : Shared) (σ : St) (H : Hp) (x : V) (v : Value) (Q : Bool → Hp → Prop), Inv X pins σ H s → RelV x v → r x H Q →
    wpAny (model X.prog X.w) X.A (truthy v) (TP X pins σ Q) X.xe s
noncomputable def tOp (r : R2) (ta tb : TE) : TE := fun σ H Q => ta σ H fun x H1 => tb σ H1 fun y H2 => r x y H2 Q
noncomputable def tUn (r : V → Hp → VK → Prop) (ta : TE) : TE := fun σ H Q => ta σ H fun x H1 => r x H1 Q
/-- ints in, under C, and a value out -/
noncomputable def rI (C : Int → Int → Prop) (g : Int → Int → V) : R2 := fun x y H Q => ∃ i j, x = .int i ∧ y = .int j ∧ C i j ∧ Q (g i j) H
noncomputable def rI0 (g : Int → Int → V) : R2 := fun x y H Q => ∃ i j, x = .int i ∧ y = .int j ∧ Q (g i j) H
noncomputable def rU (g : Int → V) : V → Hp → VK → Prop := fun x H Q => ∃ i, x = .int i ∧ Q (g i) H
section
variable {X : Cx} {a b c : Expr} {ta tb tc : TE} {pos : Pos}
theorem binT (ha : PE X a ta) (hb : PE X b tb) {pins : List (Addr × Obj)} {s : Shared} {σ : St} {H : Hp} {R : V → V → Hp → Prop} (I : Inv X pins σ H s)
    (h : ta σ H fun x H1 => tb σ H1 fun y H2 => R x y H2) {Q : Value → Shared → Prop} {f : Value → Value → Sem Value}
    (hf : ∀ v u s2 x y H2, Inv X pins σ H2 s2 → RelV x v → RelV y u → R x y H2 → wpAny (model X.prog X.w) X.A (f v u) Q X.xe s2) :
    wpAny (model X.prog X.w) X.A (eval a X.env) (fun v s₁ => wpAny (model X.prog X.w) X.A (eval b X.env) (fun u s₂ => wpAny (model X.prog X.w) X.A (f v u) Q X.xe s₂) X.xe s₁) X.xe s := by
  refine thn (ha pins s σ H _ I h) fun v s1 ⟨x, H1, I1, r1, q1⟩ => ?_
  refine thn (hb pins s1 σ H1 _ I1 q1) fun u s2 ⟨y, H2, I2, r2, q2⟩ => ?_
  exact hf v u s2 x y H2 I2 r1 r2 q2
theorem pe_op {op : Operator} {r : R2} (ho : OpR X (binaryOp op) r) (ha : PE X a ta) (hb : PE X b tb) : PE X (.BinOp a op b pos) (tOp r ta tb) := by
  intro pins s σ H Q I h
  exact wpAny_BinOp (binT ha hb I h fun v u s2 x y H2 I2 rx ry q => ho pins s2 σ H2 x y v u Q I2 rx ry q)
theorem pe_un {op : UnaryOp} {r : V → Hp → VK → Prop} (ho : UnR X (unaryOp op) r) (ha : PE X a ta) : PE X (.UnaryOp op a pos) (tUn r ta) := by
  intro pins s σ H Q I h
  exact UnaryOp_ (thn (ha pins s σ H _ I h) fun v s1 ⟨x, H1, I1, r1, q1⟩ => ho pins s1 σ H1 x v Q I1 r1 q1)
/-- a op= e at a name: the name's slot i -/
theorem augR {op : Operator} {r : R2} (ho : OpR X (inplaceOp op) r) {pins : List (Addr × Obj)} {s : Shared} {σ : St} {H : Hp} {x y : V} {v u : Value} {Q : VK} (I : Inv X pins σ H s)
    (rx : RelV x v) (ry : RelV y u) (q : r x y H Q) : wpAny (model X.prog X.w) X.A (inplaceOp op v u) (EP X pins σ Q) X.xe s := ho pins s σ H x y v u Q I rx ry q
/-! ### ints -/
theorem opI {f : Value → Value → Sem Value} {C : Int → Int → Prop} {g : Int → Int → Int}
    (rule : ∀ (i j : Int) (t u : Tok) (s : Shared) (Q : Value → Shared → Prop) (E : Value → Shared → Prop), C i j → Q (.int (g i j) s.toks) { s with toks := s.toks + 1 } → wpAny (model X.prog X.w) X.A (f (.int i t) (.int j u)) Q E s) :
    OpR X f (rI C fun i j => .int (g i j)) := by
  intro pins s σ H x y v u Q I rx ry h
  obtain ⟨i, j, rfl, rfl, hc, q⟩ := h
  obtain ⟨t, rfl⟩ := rx
  obtain ⟨t', rfl⟩ := ry
  exact rule i j t t' s _ _ hc ⟨.int (g i j), H, I.tok _, ⟨_, rfl⟩, q⟩
theorem opI0 {f : Value → Value → Sem Value} {g : Int → Int → Int}
    (rule : ∀ (i j : Int) (t u : Tok) (s : Shared) (Q : Value → Shared → Prop) (E : Value → Shared → Prop), Q (.int (g i j) s.toks) { s with toks := s.toks + 1 } → wpAny (model X.prog X.w) X.A (f (.int i t) (.int j u)) Q E s) :
    OpR X f (rI0 fun i j => .int (g i j)) := by
  intro pins s σ H x y v u Q I rx ry h
  obtain ⟨i, j, rfl, rfl, q⟩ := h
  obtain ⟨t, rfl⟩ := rx
  obtain ⟨t', rfl⟩ := ry
  exact rule i j t t' s _ _ ⟨.int (g i j), H, I.tok _, ⟨_, rfl⟩, q⟩
theorem opB0 {f : Value → Value → Sem Value} {g : Int → Int → Bool}
    (rule : ∀ (i j : Int) (t u : Tok) (s : Shared) (Q : Value → Shared → Prop) (E : Value → Shared → Prop), Q (.bool (g i j)) s → wpAny (model X.prog X.w) X.A (f (.int i t) (.int j u)) Q E s) :
    OpR X f (rI0 fun i j => .bl (g i j)) := by
  intro pins s σ H x y v u Q I rx ry h
  obtain ⟨i, j, rfl, rfl, q⟩ := h
  obtain ⟨t, rfl⟩ := rx
  obtain ⟨t', rfl⟩ := ry
  exact rule i j t t' s _ _ ⟨.bl (g i j), H, I, rfl, q⟩
noncomputable def CDiv (i j : Int) : Prop := 0 < j ∧ j < 1073741824
noncomputable def CPow (i j : Int) : Prop := 0 ≤ j ∧ j ≤ 1000000 ∧ i.natAbs < 2 ^ 64
noncomputable def CMul (i j : Int) : Prop := (-(2 ^ 64) < i ∧ i < 2 ^ 64) ∨ (-(2 ^ 64) < j ∧ j < 2 ^ 64)
theorem CMul.ok {i j : Int} (h : CMul i j) : IntMulOk i j := by
  rcases h with ⟨h1, h2⟩ | ⟨h1, h2⟩
  · exact .of_left (intBits_le_64 h1 h2)
  · exact .of_right (intBits_le_64 h1 h2)
theorem op_add : OpR X (binaryOp .Add) (rI0 fun i j => .int (i + j)) := opI0 fun _ _ _ _ _ _ _ q => add_int q
theorem op_sub : OpR X (binaryOp .Sub) (rI0 fun i j => .int (i - j)) := opI0 fun _ _ _ _ _ _ _ q => sub_int q
theorem op_mul : OpR X (binaryOp .Mult) (rI CMul fun i j => .int (i * j)) := opI fun _ _ _ _ _ _ _ hc q => mul_int q hc.ok
/-- // by a positive divisor -/
theorem op_fdiv : OpR X (binaryOp .FloorDiv) (rI CDiv fun i j => .int (i / j)) := opI fun i j _ _ _ _ _ hc q => by
  have h1 : (0 : Int) < j := hc.1
  have h2 : j < 1073741824 := hc.2
  exact floordiv_int (by omega) (by rw [Int.fdiv_eq_ediv_of_nonneg i (by omega)]; exact q) (.inl (PyProof.noPylong_small (by omega)))
/-- % by a positive divisor of any size -/
theorem op_mod : OpR X (binaryOp .Mod) (rI (fun _ j => 0 < j) fun i j => .int (i % j)) := opI fun i j _ _ _ _ _ hc q => by
  have h1 : (0 : Int) < j := hc
  exact mod_int' (by omega) (by rw [Int.fmod_eq_emod_of_nonneg i (by omega)]; exact q)
theorem op_pow : OpR X (binaryOp .Pow) (rI CPow fun i j => .int (i ^ j.toNat)) := opI fun _ _ _ _ _ _ _ hc q => pow_int_small hc.1 hc.2.1 hc.2.2 q
theorem iop_mul : OpR X (inplaceOp .Mult) (rI CMul fun i j => .int (i * j)) := opI fun _ _ _ _ _ _ _ hc q => imul_int q hc.ok
theorem unI {f : Value → Sem Value} {g : Int → Int}
    (rule : ∀ (i : Int) (t : Tok) (s : Shared) (Q : Value → Shared → Prop) (E : Value → Shared → Prop), Q (.int (g i) s.toks) { s with toks := s.toks + 1 } → wpAny (model X.prog X.w) X.A (f (.int i t)) Q E s) :
    UnR X f (rU fun i => .int (g i)) := by
  intro pins s σ H x v Q I rx h
  obtain ⟨i, rfl, q⟩ := h
  obtain ⟨t, rfl⟩ := rx
  exact rule i t s _ _ ⟨.int (g i), H, I.tok _, ⟨_, rfl⟩, q⟩
theorem un_neg : UnR X (unaryOp .USub) (rU fun i => .int (-i)) := unI fun _ _ _ _ _ q => neg_int q
/-! ### bools among ints: n += (a < b) -/
end
/-! ### comparisons -/
section
variable {X : Cx} {a b c : Expr} {ta tb tc : TE} {pos : Pos}
theorem op_lt : OpR X (compareOp .Lt) (rI0 fun i j => .bl (decide (i < j))) := opB0 fun _ _ _ _ _ _ _ q => lt_int q
theorem op_gt : OpR X (compareOp .Gt) (rI0 fun i j => .bl (decide (j < i))) := opB0 fun _ _ _ _ _ _ _ q => gt_int q
/-- two rules for one operation: by cases -/
theorem OpR.or {f : Value → Value → Sem Value} {r r' : R2} (h : OpR X f r) (h' : OpR X f r') : OpR X f (fun x y H Q => r x y H Q ∨ r' x y H Q) := by
  intro pins s σ H x y v u Q I rx ry q
  rcases q with q | q
  · exact h pins s σ H x y v u Q I rx ry q
  · exact h' pins s σ H x y v u Q I rx ry q
theorem nomark (b : Expr) {op : CmpOp} (h : op ≠ .In := by decide) (h2 : op ≠ .NotIn := by decide) : behindInMarks op b = false := by
  have e1 : (op == CmpOp.In) = false := by cases op <;> first | rfl | exact absurd rfl h
  have e2 : (op == CmpOp.NotIn) = false := by cases op <;> first | rfl | exact absurd rfl h2
  cases b <;> simp [behindInMarks, e1, e2]
/-- a comparison as a value; hm: nomark b, or (for in, not in) by with_unfolding_all rfl -/
theorem pe_cmpR {op : CmpOp} {r : R2} (ho : OpR X (compareOp op) r) (ha : PE X a ta) (hb : PE X b tb) (hm : behindInMarks op b = false) : PE X (.Compare a [op] [b] pos) (tOp r ta tb) := by
  intro pins s σ H Q I h
  exact wpAny_Compare1 (binT ha hb I h fun v u s2 x y H2 I2 rx ry q => ho pins s2 σ H2 x y v u Q I2 rx ry q) hm
/-- a reading of a value as a test -/
noncomputable def tTest (t : TE) : TT := fun σ H Q => t σ H fun x H' => ∃ k, x = .bl k ∧ Q k H'
theorem pt_cmpR {op : CmpOp} {r : R2} (ho : OpR X (compareOp op) r) (ha : PE X a ta) (hb : PE X b tb) (hm : behindInMarks op b = false) : PT X (.Compare a [op] [b] pos) (tTest (tOp r ta tb)) := by
  intro pins s σ H Q I h
  refine wpAny_isTrue_Compare1 (thn (ha pins s σ H _ I h) fun v s1 ⟨x, H1, I1, r1, q1⟩ => thn (hb pins s1 σ H1 _ I1 q1) fun u s2 ⟨y, H2, I2, r2, q2⟩ =>
    thn (ho pins s2 σ H2 x y v u _ I2 r1 r2 q2) fun c s3 ⟨z, H3, I3, r3, k, e, q3⟩ => ?_) hm
  subst e
  cases r3
  exact wpAny_truthy_bool ⟨H3, I3, q3⟩
/-! ### truth -/
/-- a value's truth by the abstract heap -/
noncomputable def TruV (K : PySem.W.Frag) (x : V) (H : Hp) (k : Bool) : Prop :=
  match x with
  | .non => k = false
  | .bl b => k = b
  | .int i => k = (i != 0)
  | .str y => y.length ≤ sizeLine ∧ k = ((y.length : Int) != 0)
  | .byt y => y.size ≤ sizeLine ∧ k = ((y.size : Int) != 0)
  | .ref p => (∃ xs, SqL K H p xs ∧ k = !xs.isEmpty) ∨ (∃ xs, SqT K H p xs ∧ k = !xs.isEmpty) ∨ ∃ kvs, H p = some (.dK kvs) ∧ k = !kvs.isEmpty
  | _ => False
theorem isEmpty_kv {κ : Type} {kvs : List (κ × V)} {vs : List (κ × Value)} (r : KV kvs vs) : (!vs.isEmpty) = !kvs.isEmpty := by
  cases r <;> rfl
theorem isEmpty_of {xs : List V} {its : List Value} (r : Vals xs its) : (!its.toArray.isEmpty) = !xs.isEmpty := by
  cases r <;> simp
theorem line63 : (sizeLine : Nat) < 2 ^ 63 := by rw [sizeLine_eq]; decide
theorem tru_ok : TruR X (fun x H Q => ∃ k, TruV X.K x H k ∧ Q k H) := by
  intro pins s σ H x v Q I rx h
  obtain ⟨k, e, q⟩ := h
  have hl := line63
  have hs : sizeLine = 16777216 := sizeLine_eq
  cases x with
  | non =>
    cases rx
    have e' : k = false := e
    subst e'
    exact truthy_none ⟨H, I, q⟩
  | bl b =>
    cases rx
    have e' : k = b := e
    subst e'
    exact wpAny_truthy_bool ⟨H, I, q⟩
  | int i =>
    obtain ⟨t, rfl⟩ := rx
    have e' : k = (i != 0) := e
    subst e'
    exact PySem.P.truthy_int ⟨H, I, q⟩
  | str y =>
    obtain ⟨t, rfl⟩ := rx
    obtain ⟨hy, e'⟩ : y.length ≤ sizeLine ∧ k = ((y.length : Int) != 0) := e
    subst e'
    exact PySem.P.truthy_str (by omega) ⟨H, I.tok _, q⟩
  | byt y =>
    obtain ⟨t, rfl⟩ := rx
    obtain ⟨hy, e'⟩ : y.size ≤ sizeLine ∧ k = ((y.size : Int) != 0) := e
    subst e'
    exact PySem.W.truthy_bytes (by omega) ⟨H, I.tok _, q⟩
  | ref p =>
    cases rx
    have e' : (∃ xs, SqL X.K H p xs ∧ k = !xs.isEmpty) ∨ (∃ xs, SqT X.K H p xs ∧ k = !xs.isEmpty) ∨ ∃ kvs, H p = some (.dK kvs) ∧ k = !kvs.isEmpty := e
    rcases e' with ⟨xs, hx, e'⟩ | ⟨xs, hx, e'⟩ | ⟨kvs, hx, e'⟩
    · subst e'
      obtain ⟨its, r, pl, hz⟩ := I.list hx
      have hlen := r.length
      exact wpAny_truthy_list pl.isList (by simp only [List.size_toArray]; omega) ⟨H, I.tok _, by rw [isEmpty_of r]; exact q⟩
    · subst e'
      obtain ⟨its, r, pl, hz⟩ := I.tuple hx
      have hlen := r.length
      exact truthy_tuple pl (by simp only [List.size_toArray]; omega) ⟨H, I.tok _, by rw [isEmpty_of r]; exact q⟩
    · subst e'
      obtain ⟨hz, hS, vs, r, m⟩ : kvs.length ≤ sizeLine ∧ (p == sysModules) = false ∧ ∃ vs, KV kvs vs ∧ s.heap.DictOf (mixKind X.prog X.w) p vs := I.hok p _ hx
      have hlen : kvs.length = vs.length := Paired.length r
      exact wpAny_truthy_dict hS m (by omega) ⟨H, I.tok _, by rw [isEmpty_kv r]; exact q⟩
  | _ => exact (show False from e).elim
/-- any expression whose test is its value's truth (a name, a call, a subscript, a field ..: he by fun _ => rfl) -/
theorem pt_truth (ha : PE X a ta) (he : ∀ whole, isTrue a X.env whole = (do let v ← whole; standAt a.pos; holding [v] (truthy v))) :
    PT X a (fun σ H Q => ta σ H fun x H' => ∃ k, TruV X.K x H' k ∧ Q k H') := by
  intro pins s σ H Q I h
  exact isTrue_plain (thn (ha pins s σ H _ I h) fun v s1 ⟨x, H1, I1, r1, q1⟩ => tru_ok pins s1 σ H1 x v Q I1 r1 q1) (he _)
/-! ### strs and bytes -/
theorem op_add_str : OpR X (binaryOp .Add) (fun x y H Q => ∃ i j, x = .str i ∧ y = .str j ∧ i.length + j.length ≤ sizeLine ∧ Q (.str (i ++ j)) H) := by
  intro pins s σ H x y v u Q I rx ry h
  obtain ⟨i, j, rfl, rfl, hz, q⟩ := h
  obtain ⟨t, rfl⟩ := rx
  obtain ⟨t', rfl⟩ := ry
  exact add_str (fun t' tk => ⟨.str (i ++ j), H, I.tok _, ⟨_, rfl⟩, q⟩) hz
/-! ### scalar builtins, by CallR -/
theorem vals1 {x : V} {us : List Value} (r : Vals [x] us) : ∃ u, us = [u] ∧ RelV x u := by
  cases r with
  | cons r1 r2 => cases r2; exact ⟨_, rfl, r1⟩
theorem vals2 {x y : V} {us : List Value} (r : Vals [x, y] us) : ∃ u w', us = [u, w'] ∧ RelV x u ∧ RelV y w' := by
  cases r with
  | cons r1 r2 =>
    cases r2 with
    | cons r3 r4 => cases r4; exact ⟨_, _, rfl, r1, r3⟩
end
end L2
namespace L2
open PySem PySem.Spec PyProof.Rows
/-! ### an instance, its attributes a map -/
section
variable {prog : Program} {w : World} {A : Around} {E : Value → Shared → Prop} {s : Shared} {K : PySem.W.Frag} {x dx C f : Addr} {mA : Str → Option Value} {name : Str} {v : Value}
end
/-! ### the attributes as a list of pairs -/
section
variable {P : Program} {w : World} {H H' : Hp} {h h' : Heap} {a C dx : Addr} {fs fs' : List (Str × V)}
end
/-! ### what of the text a class must have -/
structure Cls (K : PySem.W.Frag) (C : Addr) : Prop where
  pg : PySem.W.plainGet K C Str.empty = true
  hd : PySem.W.hasDictIn K C = true
  po : PySem.W.plainOver K C = true
  sa : PySem.W.findIn K (.ref C) "__setattr__" = some (some (.builtin "object.__setattr__"))
theorem Cls.get {K : PySem.W.Frag} {C : Addr} (c : Cls K C) (f : Str) : PySem.W.plainGet K C f = true := c.pg
section
variable {X : Cx} {pins : List (Addr × Obj)} {σ : St} {H : Hp} {s : Shared} {a C dx : Addr} {fs : List (Str × V)} {f : Str} {v : V} {A : Around} {E : Value → Shared → Prop}
/-- a new instance, tracked, without attributes -/
theorem Inv.made (I : Inv X pins σ H s) : Inv X pins σ (upd (upd H s.heap.objs.size (.own (s.heap.objs.size + 1))) (s.heap.objs.size + 1) (.ins C s.heap.objs.size []))
    { s with heap := (s.heap.push PySem.W.emptyDict).push (PySem.W.instObj C s.heap.objs.size) } := by
  have e1 : (s.heap.push PySem.W.emptyDict).get? s.heap.objs.size = some PySem.W.emptyDict := Heap.get?_push_size s.heap rfl
  have e2 : ((s.heap.push PySem.W.emptyDict).push (PySem.W.instObj C s.heap.objs.size)).get? (s.heap.objs.size + 1) = some (PySem.W.instObj C s.heap.objs.size) := by
    have := Heap.get?_push_size (s.heap.push PySem.W.emptyDict) (o := PySem.W.instObj C s.heap.objs.size) rfl
    rwa [Heap.size_push] at this
  have e3 : (s.heap.push PySem.W.emptyDict).Ns s.heap.objs.size (fun _ => none) := ⟨PySem.W.emptyDict, #[], _, e1, rfl, (fun e he => absurd he (by simp)), fun _ => rfl⟩
  have I1 := I.laid (a := s.heap.objs.size) (o := .own (s.heap.objs.size + 1)) (h' := s.heap.push PySem.W.emptyDict) (t' := s.toks) (fun b u q => Heap.get?_push_of_some _ q) (Nat.le_refl _) ⟨_, e1⟩
  refine I1.laid (a := s.heap.objs.size + 1) (o := .ins C s.heap.objs.size []) (t' := s.toks) (fun b u q => Heap.get?_push_of_some _ q) (Nat.le_of_eq (Heap.size_push _ _)) ?_
  have ne : s.heap.objs.size ≠ s.heap.objs.size + 1 := Nat.ne_of_lt (Nat.lt_succ_self _)
  refine ⟨by rw [upd_ne ne, upd_same], Nat.zero_le _, ne, e2, fun _ => none, (Heap.Ns1.of_empty e3).at fun o q => Heap.get?_push_of_some _ q, fun _ => True.intro, fun y hy => absurd rfl hy⟩
/-- e.f where nothing but the object is asked: through attributeBase (super) and the last hold -/
theorem attr_of {prog : Program} {w : World} {env : Env} {e : Expr} {f : Str} {pos : Pos} {s : Shared} {Q : Value → Shared → Prop} (hb : attributeBase e f env (eval e env) = eval e env)
    (h : wpAny (model prog w) A (eval e env) (fun o s₁ => wpAny (model prog w) A (getAttr o f true) Q E s₁) E s) : wpAny (model prog w) A (eval (.Attribute e f pos) env) Q E s :=
  Attribute_any_ h (by rw [arm_eval_Attribute, hb])
end
/-! ### readings and rules -/
section
variable {X : Cx} {o e value : Expr} {f : Str} {pos pos' tpos : Pos} {ta tv : TE}
end
/-! ### isinstance -/
section
variable {X : Cx} {pins : List (Addr × Obj)} {σ : St} {H : Hp} {s : Shared} {A : Around} {E : Value → Shared → Prop} {Q : Value → Shared → Prop} {c : Value} {b : Bool}
end
end L2
namespace L2
open PySem PySem.Spec PyProof.Rows
/-! ### room -/
structure Room (k : Nat) (A : Around) : Prop where
  hd : A.handled = none
  dp : A.depth + 3 * k + 5 < recursionLimit
  un : A.units + 16 * k + 200 < cLine
theorem Room.mono {j k : Nat} {A : Around} (r : Room k A) (h : j ≤ k) : Room j A := ⟨r.hd, by have := r.dp; omega, by have := r.un; omega⟩
theorem Room.deeper {k : Nat} {A : Around} (r : Room (k + 1) A) (env : Env) : Room k (A.deeper env) :=
  ⟨r.hd, by have := r.dp; show A.depth + 1 + 3 * k + 5 < _; omega, by have := r.un; show A.units + 3 + 16 * k + 200 < _; omega⟩
theorem Room.in1 {k : Nat} {A : Around} (r : Room (k + 1) A) : Room k A.in1 :=
  ⟨r.hd, by have := r.dp; show A.depth + 3 * k + 5 < _; omega, by have := r.un; show A.units + 1 + 16 * k + 200 < _; omega⟩
theorem make_depth {A : Around} {C : Addr} {us : List Value} {kw : List (Str × Value)} : (A.under (.builtin "type.__call__" ⟨.ref C :: us, kw⟩)).depth = A.depth + 1 := by
  first | rfl | simp [Around.under, Code.weight, Code.isCreation, Code.isGuard, Code.isCaller, Code.frames, Code.isFrame, guardIds]
theorem make_units {A : Around} {C : Addr} {us : List Value} {kw : List (Str × Value)} : (A.under (.builtin "type.__call__" ⟨.ref C :: us, kw⟩)).units = A.units + 1 := by
  first | rfl | simp [Around.under, Code.cUnits, Code.frames, Code.isFrame]
theorem Room.make {k : Nat} {A : Around} (r : Room (k + 1) A) (C : Addr) (us : List Value) (kw : List (Str × Value)) : Room k (A.under (.builtin "type.__call__" ⟨.ref C :: us, kw⟩)) :=
  ⟨r.hd, by have := r.dp; rw [make_depth]; omega, by have := r.un; rw [make_units]; omega⟩
theorem Room.depth {k : Nat} {A : Around} (r : Room k A) : A.depth < recursionLimit := by have := r.dp; omega
theorem Room.units {k : Nat} {A : Around} (r : Room k A) : A.units + 64 < cLine := by have := r.un; omega
/-! ### argument lists and displays -/
noncomputable def tNil : TA := fun _ H Q => Q [] H
noncomputable def tCons (ta : TE) (tr : TA) : TA := fun σ H Q => ta σ H fun x H1 => tr σ H1 fun xs H2 => Q (x :: xs) H2
section
variable {X : Cx} {e : Expr} {es : List Expr} {te : TE} {t : TA} {pos : Pos}
theorem pa_nil : PA X [] tNil := fun _ _ _ _ H Q I h => Calls.spliced_nil ⟨[], H, I, .nil, h⟩
theorem pa_cons (ha : PE X e te) (hr : PA X es t) (hs : starEach (e :: es) X.env = (false, eval e X.env) :: starEach es X.env := by rfl) : PA X (e :: es) (tCons te t) := by
  intro pos pins s σ H Q I h
  rw [hs]
  show wpAny _ _ (spliced ((false, eval e X.env) :: backTo pos (starEach es X.env))) _ _ s
  refine Calls.spliced_cons (thn (ha pins s σ H _ I h) fun u s1 ⟨x, H1, I1, r1, q1⟩ => ?_)
  exact thn (hr pos pins s1 σ H1 _ I1 q1) fun us s2 ⟨xs, H2, I2, r2, q2⟩ => ⟨x :: xs, H2, I2, .cons r1 r2, q2⟩
/-- a tuple, a list of written items -/
noncomputable def tTup (t : TA) : TE := fun σ H Q => t σ H fun xs H1 => xs.length ≤ sizeLine ∧ ∀ p, H1 p = none → Q (.ref p) (upd H1 p (.tup xs))
noncomputable def tLst (t : TA) : TE := fun σ H Q => t σ H fun xs H1 => xs.length ≤ sizeLine ∧ ∀ p, H1 p = none → Q (.ref p) (upd H1 p (.lst xs))
theorem pe_tup {x1} (h : PA X es t) : PE X (.Tuple es x1 pos) (tTup t) := by
  intro pins s σ H Q I hq
  refine wpAny_Tuple_spliced (thn (h pos pins s σ H _ I hq) fun us s1 ⟨xs, H1, I1, r, z, q⟩ => ⟨by rw [← r.length]; exact z, ?_⟩)
  have hf : H1 s1.heap.objs.size = none := I1.hok.fresh (Nat.le_refl _)
  refine ⟨.ref s1.heap.objs.size, upd H1 s1.heap.objs.size (.tup xs), I1.laid (t' := s1.toks) (fun b u e => Heap.get?_push_of_some _ e) (Nat.le_refl _) ?_, rfl, q _ hf⟩
  exact ⟨z, us, r, ⟨_, Heap.get?_push_size _ rfl, rfl, _, rfl⟩⟩
theorem pe_lst (h : PA X es t) : PE X (.List es pos) (tLst t) := by
  intro pins s σ H Q I hq
  refine wpAny_List_spliced (thn (h pos pins s σ H _ I hq) fun us s1 ⟨xs, H1, I1, r, z, q⟩ => ⟨by rw [← r.length]; exact z, ?_⟩)
  have hf : H1 s1.heap.objs.size = none := I1.hok.fresh (Nat.le_refl _)
  refine ⟨.ref s1.heap.objs.size, upd H1 s1.heap.objs.size (.lst xs), I1.laid (t' := s1.toks) (fun b u e => Heap.get?_push_of_some _ e) (Nat.le_refl _) ?_, rfl, q _ hf⟩
  exact ⟨z, us, 0, r, Heap.get?_push_size _ rfl⟩
end
/-! ### what a def promises -/
/-- a def's promise: the bound arguments in the parameters' order, the heap, the wanted end, the wanted exception -/
noncomputable abbrev Sp := List V → Hp → VK → XK → Prop
/-- how an exception lies behind a call (file 08 gives it): the callers' frames, abstract heap and state ahead of the call, the wish, the exception, the state -/
noncomputable abbrev CXT := List Env → Hp → Shared → XK → Value → Shared → Prop
/-- the state at a call -/
structure Env0 (P : Program) (w : World) (K : PySem.W.Frag) (mg : Str → Option Value) (base : Heap) (A : Around) (outer : List Env) (s : Shared) (H : Hp) : Prop where
  frames : A.frames = some outer
  mod : Mod K mg base
  bs : ∀ b o, base.get? b = some o → s.heap.get? b = some o ∧ H b = none
  bsz : base.objs.size ≤ s.heap.objs.size
  funs : s.heap.FunFrames base outer
  frf : ∀ b ∈ frs outer, H b = none
  hok : HOk P w H s.heap
  bare : AllBare s.gens
/-- a call's end -/
noncomputable def CE (outer : List Env) (P : Program) (w : World) (H : Hp) (s : Shared) (Q : VK) (u : Value) (s' : Shared) : Prop :=
  ∃ v H', s'.os = s.os ∧ AllBare s'.gens ∧ Un (frs outer) [] H H' s.heap s'.heap ∧ HOk P w H' s'.heap ∧ RelV v u ∧ Q v H'
noncomputable def CR (CX : CXT) (outer : List Env) (P : Program) (w : World) (H : Hp) (s : Shared) (Q : VK) (E : XK) (r : Result) (s' : Shared) : Prop :=
  match r with
  | .ok (.ret u) => CE outer P w H s Q u s'
  | .ok _ => False
  | .error e => CX outer H s E e s'
structure FnOk (P : Program) (w : World) (K : PySem.W.Frag) (mg : Str → Option Value) (base : Heap) (CX : CXT) (k : Nat) (f : Addr) (fd : FuncData) (ps : List Str) (sp : Sp) : Prop where
  len : ∀ vs H Q E, sp vs H Q E → vs.length = ps.length
  run : ∀ (A : Around) (outer : List Env) (s : Shared) (H : Hp) (args : Args) (us : List Value) (vs : List V) (Q : VK) (E : XK), Room k A → Env0 P w K mg base A outer s H → BindsTo s fd args (ps.zip us) → Vals vs us → sp vs H Q E →
    codeAny (model P w) A (.call (.ref f) args) (CR CX outer P w H s Q E) s
theorem FnOk.mono {P : Program} {w : World} {K : PySem.W.Frag} {mg : Str → Option Value} {base : Heap} {CX : CXT} {j k : Nat} {f : Addr} {fd : FuncData} {ps : List Str} {sp : Sp} (F : FnOk P w K mg base CX j f fd ps sp) (h : j ≤ k) :
    FnOk P w K mg base CX k f fd ps sp := ⟨F.len, fun A outer s H args us vs Q E hr => F.run A outer s H args us vs Q E (hr.mono h)⟩
/-- a weaker promise -/
theorem FnOk.imp {P : Program} {w : World} {K : PySem.W.Frag} {mg : Str → Option Value} {base : Heap} {CX : CXT} {k : Nat} {f : Addr} {fd : FuncData} {ps : List Str} {sp sp' : Sp} (F : FnOk P w K mg base CX k f fd ps sp)
    (h : ∀ vs H Q E, sp' vs H Q E → sp vs H Q E) : FnOk P w K mg base CX k f fd ps sp' :=
  ⟨fun vs H Q E q => F.len vs H Q E (h _ _ _ _ q), fun A outer s H args us vs Q E hr he hb hv hs => F.run A outer s H args us vs Q E hr he hb hv (h _ _ _ _ hs)⟩
theorem Env0.make {P : Program} {w : World} {K : PySem.W.Frag} {mg : Str → Option Value} {base : Heap} {A : Around} {outer : List Env} {s : Shared} {H : Hp} (e : Env0 P w K mg base A outer s H) (C : Addr) (us : List Value) (kw : List (Str × Value)) :
    Env0 P w K mg base (A.under (.builtin "type.__call__" ⟨.ref C :: us, kw⟩)) outer s H := ⟨by first | exact e.frames | (simpa [Around.under, Code.envs, Code.isFrame, pushEnvs] using e.frames), e.mod, e.bs, e.bsz, e.funs, e.frf, e.hok, e.bare⟩
theorem Env0.in1 {P : Program} {w : World} {K : PySem.W.Frag} {mg : Str → Option Value} {base : Heap} {A : Around} {outer : List Env} {s : Shared} {H : Hp} (e : Env0 P w K mg base A outer s H) :
    Env0 P w K mg base A.in1 outer s H := ⟨e.frames, e.mod, e.bs, e.bsz, e.funs, e.frf, e.hok, e.bare⟩
section
variable {X : Cx} {pins : List (Addr × Obj)} {σ : St} {H : Hp} {s s' : Shared}
/-- from a body: what a callee wants -/
theorem Inv.env0 (I : Inv X pins σ H s) : Env0 X.prog X.w X.K X.mg X.base X.A X.stack s H :=
  ⟨I.ok.frames, I.ok.mod, I.bs, Nat.le_trans I.ok.bsz I.sz, I.stack, I.stkFree, I.hok, I.bare⟩
/-- behind a call -/
theorem Inv.after {Q : VK} {u : Value} (I : Inv X pins σ H s) (h : CE X.stack X.prog X.w H s Q u s') : EP X pins σ Q u s' := by
  obtain ⟨v, H', os, bare, un, hok, r, q⟩ := h
  obtain ⟨hh, g, d, t, os'⟩ := s'
  obtain rfl : os' = s.os := os
  exact ⟨v, H', I.call (h' := hh) (g' := g) (d' := d) (t' := t) (ch := []) un hok bare (fun b z => absurd z (by simp)), r, q⟩
end
/-! ### calls -/
/-- f(..): the written arguments, then the defaults dvs; E: what is wanted of an exception -/
noncomputable def tCall (sp : Sp) (dvs : List V) (E : XK) (t : TA) : TE := fun σ H Q => t σ H fun vs H1 => sp (vs ++ dvs) H1 Q E
/-- how the parameters are bound: us the positional arguments, kw the keywords' values by name, ds the defaults that fill up -/
noncomputable def Binds (K : PySem.W.Frag) (fd : FuncData) (ps : List Str) (ds : List Value) : Prop :=
  ∀ (s : Shared) (us : List Value), K.In s.heap → (us ++ ds).length = ps.length → BindsTo s fd ⟨us, []⟩ (ps.zip (us ++ ds))
/-- every parameter is given -/
theorem Binds.all {K : PySem.W.Frag} {fd : FuncData} {ps : List Str} (h : ∀ us : List Value, us.length = ps.length → bindArgs fd ⟨us, []⟩ = pure (ps.zip us)) : Binds K fd ps [] := fun s us _ hl => by
  rw [List.append_nil] at hl ⊢
  exact .of_eq (h us hl)
/-- an exception of a callee reaches what this body wants of exceptions -/
noncomputable def Passes (CX : CXT) (X : Cx) (E : XK) : Prop := ∀ (pins : List (Addr × Obj)) (σ : St) (H : Hp) (s : Shared) (e : Value) (s' : Shared), Inv X pins σ H s → CX X.stack H s E e s' → X.xe e s'
section
variable {X : Cx} {CX : CXT} {k : Nat} {f C : Addr} {fd : FuncData} {ps : List Str} {sp : Sp} {dvs : List V} {ds : List Value} {E : XK} {x m : Str} {p pos apos : Pos} {e o : Expr} {es : List Expr} {ta : TE} {t : TA}
/-- the callee runs -/
theorem run_fn {pins : List (Addr × Obj)} {σ : St} {H : Hp} {s : Shared} {Q : VK} {us : List Value} {vs : List V} (F : FnOk X.prog X.w X.K X.mg X.base CX k f fd ps sp) (hr : Room k X.A) (hb : Binds X.K fd ps ds) (hd : Vals dvs ds) (hx : Passes CX X E)
    (I : Inv X pins σ H s) (r : Vals vs us) (h : sp (vs ++ dvs) H Q E) : wpAny (model X.prog X.w) X.A (call (.ref f) us) (EP X pins σ Q) X.xe s := by
  have r2 : Vals (vs ++ dvs) (us ++ ds) := r.append hd
  have hl : (us ++ ds).length = ps.length := by rw [← r2.length]; exact F.len _ _ _ _ h
  refine wpAny_call (codeAny_mono (F.run X.A X.stack s H ⟨us, []⟩ (us ++ ds) (vs ++ dvs) Q E hr I.env0 (hb s us I.kIn hl) r2 h) fun r s' hq => ?_)
  cases r with
  | error e => exact hx pins σ H s e s' I hq
  | ok fl =>
    cases fl with
    | ret u => exact I.after hq
    | next => exact False.elim hq
    | brk => exact False.elim hq
    | cont => exact False.elim hq
theorem pe_call (F : FnOk X.prog X.w X.K X.mg X.base CX k f fd ps sp) (hr : Room k X.A) (hg : Gl X x) (hm : X.mg x = some (.ref f)) (hk : PySem.W.keepIn X.K (.ref f) = true) (hb : Binds X.K fd ps ds) (hd : Vals dvs ds) (hx : Passes CX X E)
    (ha : PA X (e :: es) t) (hdb : (x == ("__debug__" : Str)) = false := by decide) (he : starEach (e :: es) X.env = (false, eval e X.env) :: starEach es X.env := by rfl) (hpl : (backTo pos (starEach es X.env)).any (·.1) = false := by rfl) :
    PE X (.Call (.Name x p) (e :: es) [] pos) (tCall sp dvs E t) := by
  intro pins s σ H Q I h
  refine wpAny_Call_Name_kw (ld_glob I hg hm ?_ hdb)
  refine PySem.W.callWith_K (h₀ := X.base) I.ok.mod.kin hk (thn (ha pos pins s σ H _ I h) fun us s1 ⟨vs, H1, I1, r, q⟩ => ⟨I1.kIn, ?_⟩) he hpl
  exact run_fn F hr hb hd hx I1 r q
end
/-! ### keywords -/
section
variable {X : Cx} {CX : CXT} {k : Nat} {f C : Addr} {fd : FuncData} {ps ks : List Str} {sp : Sp} {E : XK} {x m : Str} {p pos apos kpos : Pos} {e o : Expr} {es : List Expr} {kws : List Keyword} {te ta : TE} {t tk : TA} {nm : Option Str}
variable {g : List Value → List Value → List Value} {gV : List V → List V → List V}
end
/-! ### a def's body keeps its promise -/
/-- names: the parameters first -/
structure FnScope (N P : List Str) (sc : Scope) : Prop where
  kind : sc.kind = .function
  co : sc.isCoroutine = false
  gen : sc.isGenerator = false
  nd : N.Nodup
  pre : N.take P.length = P
  par : ∀ x ∈ P, sc.names.lookup x = some .local ∨ sc.names.lookup x = some .cell
  nofree : ∀ y ∈ sc.names, y.2 ≠ .free
theorem bindL_out {kindOf : Str → Option NameKind} {x : Str} : ∀ {binds : List (Str × Value)} {m : Str → Option Value}, (∀ v, (x, v) ∉ binds) → bindL kindOf binds m x = m x
  | [], _, _ => rfl
  | (n, v) :: r, m, h => by
    unfold bindL
    rw [bindL_out fun w hw => h w (List.mem_cons_of_mem _ hw)]
    split
    · have : x ≠ n := by rintro rfl; exact h v List.mem_cons_self
      simp [this]
    · rfl
theorem bindC_out {kindOf : Str → Option NameKind} {x : Str} : ∀ {binds : List (Str × Value)} {m : Str → Option Value}, (∀ v, (x, v) ∉ binds) → bindC kindOf binds m x = m x
  | [], _, _ => rfl
  | (n, v) :: r, m, h => by
    unfold bindC
    rw [bindC_out fun w hw => h w (List.mem_cons_of_mem _ hw)]
    split
    · rfl
    · have : x ≠ n := by rintro rfl; exact h v List.mem_cons_self
      simp [this]
theorem bindL_get {kindOf : Str → Option NameKind} {x : Str} {v : Value} : ∀ {P : List Str} {vs : List Value} {i : Nat} {m : Str → Option Value}, P.Nodup → P[i]? = some x → vs[i]? = some v → kindOf x = some .local →
    bindL kindOf (P.zip vs) m x = some v
  | [], _, _, _, _, h, _, _ => by simp at h
  | _ :: _, [], _, _, _, _, h, _ => by simp at h
  | p :: P, w :: vs, 0, m, nd, h1, h2, hk => by
    simp at h1 h2; subst h1; subst h2
    show bindL kindOf ((p, w) :: P.zip vs) m p = _
    unfold bindL
    rw [bindL_out fun v hv => (List.nodup_cons.mp nd).1 (List.of_mem_zip hv).1, if_pos hk]
    simp
  | p :: P, w :: vs, i + 1, m, nd, h1, h2, hk => by
    show bindL kindOf ((p, w) :: P.zip vs) m x = _
    unfold bindL
    exact bindL_get (i := i) (List.nodup_cons.mp nd).2 (by simpa using h1) (by simpa using h2) hk
theorem bindC_get {kindOf : Str → Option NameKind} {x : Str} {v : Value} : ∀ {P : List Str} {vs : List Value} {i : Nat} {m : Str → Option Value}, P.Nodup → P[i]? = some x → vs[i]? = some v → kindOf x ≠ some .local →
    bindC kindOf (P.zip vs) m x = some v
  | [], _, _, _, _, h, _, _ => by simp at h
  | _ :: _, [], _, _, _, _, h, _ => by simp at h
  | p :: P, w :: vs, 0, m, nd, h1, h2, hk => by
    simp at h1 h2; subst h1; subst h2
    show bindC kindOf ((p, w) :: P.zip vs) m p = _
    unfold bindC
    rw [bindC_out fun v hv => (List.nodup_cons.mp nd).1 (List.of_mem_zip hv).1, if_neg hk]
    simp
  | p :: P, w :: vs, i + 1, m, nd, h1, h2, hk => by
    show bindC kindOf ((p, w) :: P.zip vs) m x = _
    unfold bindC
    exact bindC_get (i := i) (List.nodup_cons.mp nd).2 (by simpa using h1) (by simpa using h2) hk
/-- the names' values at the entry -/
noncomputable def start (N : List Str) (vs : List V) : St := vs.map some ++ List.replicate (N.length - vs.length) none
/-- the context of a def's body, at its entry; an exception leaves the frame, then lies as CX says -/
noncomputable def cxOf (CX : CXT) (P : Program) (w : World) (K : PySem.W.Frag) (mg : Str → Option Value) (base : Heap) (N : List Str) (qual : Str) (scope : Scope) (f : Addr) (cd : Value) (A : Around) (outer : List Env) (s : Shared) (H : Hp) (E : XK) : Cx where
  prog := P
  w := w
  K := K
  mg := mg
  base := base
  A := A.deeper (envOfC qual scope s.heap.objs.size f cd)
  N := N
  s₀ := s
  H₀ := H
  env := envOfC qual scope s.heap.objs.size f cd
  outer := outer
  stack := envOfC qual scope s.heap.objs.size f cd :: outer
  ex := []
  calm := true
  fn := fun _ => true
  pn := []
  xe := fun e s' => wpAny (model P w) (A.deeper (envOfC qual scope s.heap.objs.size f cd)) (leaving (envOfC qual scope s.heap.objs.size f cd) e) (fun _ s'' => CX outer H s E e s'') (fun e' s'' => CX outer H s E e' s'') s'
theorem cell_has {sc : Scope} {n : Nat} {x : Str} (h : sc.names.lookup x = some .cell) : ∃ c, (cellsFrom n sc.names []).lookup x = some c := by
  have q := PySem.W.cellsFrom_some sc.names n [] (.inl h)
  exact Option.isSome_iff_exists.mp q
theorem inv_start {CX : CXT} {P : Program} {w : World} {K : PySem.W.Frag} {mg : Str → Option Value} {base : Heap} {N ps : List Str} {qual : Str} {scope : Scope} {f : Addr} {cd : Value} {A : Around} {outer : List Env} {s s1 : Shared} {H : Hp} {E : XK} {us : List Value} {vs : List V}
    (S : FnScope N ps scope) (hd : A.handled = none) (e0 : Env0 P w K mg base A outer s H) (hl : vs.length = ps.length) (r : Vals vs us)
    (x : InCallC s s.heap.objs.size (bindL (envOfC qual scope s.heap.objs.size f cd).kindOf (ps.zip us) fun _ => none) (cellsFrom (s.heap.objs.size + 1) scope.names []) (bindC (envOfC qual scope s.heap.objs.size f cd).kindOf (ps.zip us) fun _ => none) s1) :
    Inv (cxOf CX P w K mg base N qual scope f cd A outer s H E) [] (start N vs) H s1 := by
  have hpl : ps.length ≤ N.length := by have := congrArg List.length S.pre; rw [List.length_take] at this; omega
  obtain ⟨h1, tk, rfl, hk⟩ := x.done
  have noA : ∀ b : Addr, b ∉ (cxOf CX P w K mg base N qual scope f cd A outer s H E).ex := fun b z => absurd (show b ∈ ([] : List Addr) from z) (by simp)
  refine ⟨⟨e0.mod, S.kind, rfl, rfl, Nat.le_refl _, fun y z c h1 h2 => ?_, fun y hy => ?_, fun y c _ h => ?_, fun _ => hd, Around.frames_deeper e0.frames, .inr ⟨rfl, rfl⟩, fun b z => absurd z (noA b), e0.bs, e0.bsz, fun b _ _ => noA b, fun b z => absurd z (noA b), e0.funs, e0.frf⟩,
    rfl, e0.bare, Un.kept hk, ⟨_, x.toInCall.ns, fun i y v h1 h2 h3 => ?_⟩, fun y c h => ⟨_, x.cell y c h⟩, e0.hok.fresh (Nat.le_refl _), fun y c h => ?_, fun p hp => absurd (show p ∈ ([] : List (Addr × Obj)) from hp) (by simp), e0.hok.kept hk, ?_⟩
  · exact name_of_addr x.apart (PySem.mem_of_lookup h1) (PySem.mem_of_lookup h2)
  · have hy : scope.names.lookup y = some .cell ∨ scope.names.lookup y = some .free := hy
    rcases hy with hy | hy
    · exact cell_has hy
    · exact absurd rfl (S.nofree _ (PySem.mem_of_lookup hy))
  · exact Nat.le_of_lt (x.above y c (PySem.mem_of_lookup h))
  · have hi : i < vs.length := by
      unfold start at h2
      by_cases hi : i < vs.length
      · exact hi
      · rw [List.getElem?_append_right (by simpa using hi)] at h2
        rw [List.getElem?_replicate] at h2
        split at h2 <;> cases h2
    have ha : vs[i]? = some v := by
      unfold start at h2
      rw [List.getElem?_append_left (by simpa using hi), List.getElem?_map] at h2
      cases e : vs[i]? with
      | none => rw [e] at h2; cases h2
      | some a => rw [e] at h2; cases h2; rfl
    obtain ⟨u, hu, rv⟩ := r.get ha
    have hp : ps[i]? = some y := by
      rw [← S.pre, List.getElem?_take_of_lt (by omega)]; exact h1
    have ndP : ps.Nodup := by rw [← S.pre]; exact S.nd.sublist (List.take_sublist _ _)
    refine ⟨u, rv, ?_⟩
    rcases S.par y (List.mem_of_getElem? hp) with k | k
    · exact .inl ⟨k, bindL_get ndP hp hu k⟩
    · obtain ⟨c, e⟩ := cell_has (n := s.heap.objs.size + 1) k
      refine .inr ⟨.inl k, c, e, ?_⟩
      have q := x.cell y c e
      rw [bindC_get ndP hp hu (by show scope.names.lookup y ≠ _; rw [k]; decide)] at q
      exact q
  · exact e0.hok.fresh (Nat.le_of_lt (x.above y c (PySem.mem_of_lookup h)))
  · unfold start
    show _ = N.length
    rw [List.length_append, List.length_map, List.length_replicate]
    omega
/-- THE RULE: a def (or a method) of the text, by its body. The body's reading t is chosen for each entry; it is run at the parameters' values -/
theorem fn_of {CX : CXT} {P : Program} {w : World} {K : PySem.W.Frag} {mg : Str → Option Value} {base : Heap} {k : Nat} {f : Addr} {name qual : Str} {params : Arguments} {body : List Stmt} {scope : Scope} {dV kV doc pm cdv ct oc : Value} {an od : Option Addr}
    {osl : Array (Option Value)} {N ps : List Str} {sp : Sp} (lk : K.lookup f = some ⟨oc, od, .func (PySem.W.fnOf name qual params body scope dV kV doc pm an cdv ct), osl⟩) (hcd : PySem.W.codeIn K cdv qual = true) (S : FnScope N ps scope)
    (len : ∀ vs H Q E, sp vs H Q E → vs.length = ps.length)
    (hbody : ∀ (A : Around) (outer : List Env) (s : Shared) (H : Hp) (vs : List V) (Q : VK) (E : XK), Room k (A.deeper (envOfC qual scope s.heap.objs.size f cdv)) → sp vs H Q E →
      ∃ t, PSs (cxOf CX P w K mg base N qual scope f cdv A outer s H E) body t ∧ t { nx := fun _ H' => Q .non H', rt := Q } (start N vs) H) :
    FnOk P w K mg base CX (k + 1) f (PySem.W.fnOf name qual params body scope dV kV doc pm an cdv ct) ps sp := by
  refine ⟨len, fun A outer s H args us vs Q E hr e0 hb r hsp => ?_⟩
  have hl := len _ _ _ _ hsp
  have KX : K.In s.heap := e0.mod.kin.keeps fun b o e => (e0.bs b o e).1
  have lim : s.heap.NoLimit := e0.mod.nolimit.keeps fun b o e => (e0.bs b o e).1
  have hkind : ∀ y ∈ ps.zip us, scope.names.lookup y.1 = some .local ∨ (scope.names.lookup y.1 = some .cell ∧ ((cellsFrom (s.heap.objs.size + 1) scope.names []).lookup y.1).isSome = true) := fun ⟨n, v⟩ hy => by
    rcases S.par n (List.of_mem_zip hy).1 with q | q
    · exact .inl q
    · exact .inr ⟨q, PySem.W.cellsFrom_some _ _ _ (.inl q)⟩
  refine codeAny_call_function hr.depth (KX _ _ lk) rfl S.co S.gen rfl (PySem.W.codeRec_of KX hcd) (hb _ _ _ _ ?_)
  refine wpAny_newFunctionEnv_cells S.kind hkind fun env he s1 x => ?_
  subst he
  refine ⟨lim.keeps x.toInCall.keep, codeAny_func ?_⟩
  obtain ⟨t, ht, hq⟩ := hbody A outer s H vs Q E (hr.deeper _) hsp
  have I : Inv (cxOf CX P w K mg base N qual scope f cdv A outer s H E) [] (start N vs) H s1 := inv_start S hr.hd e0 hl r x
  refine wpAny_mono (ht [] s1 (start N vs) H _ I hq) (fun fl s' hs => ?_) fun e s' hs => hs
  have fin : ∀ {σ' : St} {H' : Hp} {v : V} {u : Value}, Inv (cxOf CX P w K mg base N qual scope f cdv A outer s H E) [] σ' H' s' → RelV v u → Q v H' → CE outer P w H s Q u s' :=
    fun {σ' H' v u} J rv q => ⟨v, H', J.os, J.bare, J.base, J.hok, rv, q⟩
  cases fl with
  | ret u =>
    obtain ⟨v, σ', H', J, rv, q⟩ := hs
    exact fin J rv q
  | next =>
    obtain ⟨σ', H', J, q⟩ := hs
    exact fin (v := V.non) (u := Value.none) J rfl q
  | brk =>
    obtain ⟨_, _, _, q⟩ := hs
    exact False.elim q
  | cont =>
    obtain ⟨_, _, _, q⟩ := hs
    exact False.elim q
end L2
namespace L2
open PySem PySem.Spec PyProof.Rows
section
variable {X : Cx} {x : Str} {p pos : Pos} {e : Expr} {es : List Expr} {t : TA} {id T : String} {r : List V → Hp → VK → Prop}
noncomputable def tCB (r : List V → Hp → VK → Prop) (t : TA) : TE := fun σ H Q => t σ H fun vs H1 => r vs H1 Q
/-- f(e, ..), f a built-in function -/
theorem pe_callB (hc : CallR X (.builtin id) r) (hg : Gl X x) (hm : X.mg x = none) (hv : bootBuiltins x = some (.builtin id)) (ha : PA X (e :: es) t) (hn : x ≠ "__name__" := by decide) (hdb : (x == ("__debug__" : Str)) = false := by decide)
    (he : starEach (e :: es) X.env = (false, eval e X.env) :: starEach es X.env := by rfl) (hpl : (backTo pos (starEach es X.env)).any (·.1) = false := by rfl) : PE X (.Call (.Name x p) (e :: es) [] pos) (tCB r t) := by
  intro pins s σ H Q I h
  refine wpAny_Call_Name_kw (ld_blt I hg hm hv ?_ hn hdb)
  exact PyProof.Rows.callWith_builtin1 (thn (ha pos pins s σ H _ I h) fun us s1 ⟨vs, H1, I1, r1, q1⟩ => hc pins s1 σ H1 vs us Q I1 r1 q1) he hpl
/-- T(e, ..), T a built-in type -/
theorem pe_callTy (hc : CallR X (.type T) r) (hg : Gl X x) (hm : X.mg x = none) (hv : bootBuiltins x = some (.type T)) (ha : PA X (e :: es) t) (hn : x ≠ "__name__" := by decide) (hdb : (x == ("__debug__" : Str)) = false := by decide)
    (he : starEach (e :: es) X.env = (false, eval e X.env) :: starEach es X.env := by rfl) (hpl : (backTo pos (starEach es X.env)).any (·.1) = false := by rfl) : PE X (.Call (.Name x p) (e :: es) [] pos) (tCB r t) := by
  intro pins s σ H Q I h
  refine wpAny_Call_Name_kw (ld_blt I hg hm hv ?_ hn hdb)
  exact PyProof.Rows.callWith_type1 (thn (ha pos pins s σ H _ I h) fun us s1 ⟨vs, H1, I1, r1, q1⟩ => hc pins s1 σ H1 vs us Q I1 r1 q1) he hpl
end
end L2
namespace HT
open PySem PyProof.Rows
/-- t < u of tuples of ints -/
noncomputable def lexLt : List Int → List Int → Bool
  | [], [] => false
  | [], _ :: _ => true
  | _ :: _, [] => false
  | x :: xs, y :: ys => if x = y then lexLt xs ys else decide (x < y)
section
open PySem.SeqAt
open PySem.AutoSeq1 (wpAny_loadPart')
open PySem.MeetsSeq PySem.MeetsSeq2 PySem.MeetsSeq3
end
section
variable {prog : Program} {w : World} {A : Around} {E : Value → Shared → Prop} {s : Shared}
/-- t + u, t not empty -/
theorem cat_tup {t b : Addr} {vs ws : List Value} {Q : Value → Shared → Prop} (ht : IsTup s.heap t vs.toArray) (hb : IsTup s.heap b ws.toArray) (hv : vs ≠ [])
    (h1 : ws = [] → Q (.ref t) s) (h2 : ws ≠ [] → Q (.ref s.heap.objs.size) { s with heap := s.heap.push { cls := .type "tuple", data := .seq (vs ++ ws).toArray } })
    (hsz : vs.length + ws.length ≤ sizeLine) : wpAny (model prog w) A (binaryOp .Add (.ref t) (.ref b)) Q E s := by
  obtain ⟨⟨cls, dd, data, sl⟩, ho, hc, n, hd⟩ := id ht
  obtain ⟨⟨cls2, dd2, data2, sl2⟩, ho2, hc2, n2, hd2⟩ := id hb
  simp only at hc hd hc2 hd2
  subst hc hd hc2 hd2
  have e : vs.toArray ++ ws.toArray = (vs ++ ws).toArray := by simp
  by_cases hw : ws = []
  · exact concat_meets ⟨_, ho, rfl⟩ ⟨_, ho2, rfl⟩ noFill_tuple_add seq_tuple_add PySem.F.slot_tuple_add PySem.F.entry_tuple_add (PySem.F.args_tuple_add_2 _ _)
      (tuple_addW1 t b vs.toArray ws.toArray n n2 dd dd2 sl sl2 (by simpa using hv) (by simp [hw])) ⟨ho, ho2, h1 hw⟩
  · refine concat_meets ⟨_, ho, rfl⟩ ⟨_, ho2, rfl⟩ noFill_tuple_add seq_tuple_add PySem.F.slot_tuple_add PySem.F.entry_tuple_add (PySem.F.args_tuple_add_2 _ _)
      (tuple_addW2 t b vs.toArray ws.toArray n n2 dd dd2 sl sl2 (by simpa using hv) (by simpa using hw) (by rw [List.size_toArray, List.size_toArray]; exact hsz)) ⟨ho, ho2, ?_⟩
    rw [e]
    exact h2 hw
/-! ### t[a:b], not the whole -/
end
end HT
namespace L2
open PySem PySem.Spec PyProof.Rows
/-! ### the parts of a slice -/
noncomputable abbrev TO := St → Hp → (Option Int → Hp → Prop) → Prop
section
variable {X : Cx} {e : Expr} {te : TE} {lo hi : Option Expr} {tl th : TO} {pos p2 : Pos}
/-- what a slice of a value is, by values: the slice object stands at sl -/
noncomputable def SlR (X : Cx) (r : V → Option Int → Option Int → Hp → VK → Prop) : Prop :=
  ∀ (pins : List (Addr × Obj)) (s : Shared) (σ : St) (H : Hp) (x : V) (v vl vu : Value) (lo hi : Option Int) (sl : Addr) (Q : VK), Inv X pins σ H s → RelV x v → s.heap.IsSliceOf sl vl vu .none → IsPart vl lo → IsPart vu hi → r x lo hi H Q →
    ∃ T id, typeLookup (.type T) "__getitem__" = pure (some (.builtin id)) ∧ s.TypeIs v T ∧ wpAny (model X.prog X.w) X.A (getItem v (.ref sl)) (EP X pins σ Q) X.xe s
theorem SlR.or {r r' : V → Option Int → Option Int → Hp → VK → Prop} (h : SlR X r) (h' : SlR X r') : SlR X (fun x lo hi H Q => r x lo hi H Q ∨ r' x lo hi H Q) := by
  intro pins s σ H x v vl vu lo hi sl Q I rx hs pl pu q
  rcases q with q | q
  · exact h pins s σ H x v vl vu lo hi sl Q I rx hs pl pu q
  · exact h' pins s σ H x v vl vu lo hi sl Q I rx hs pl pu q
/-! ### t < u, t + u -/
/-- t + u, t not empty: u empty gives t itself -/
noncomputable def rCatT (K : PySem.W.Frag) : R2 := fun x y H Q => ∃ a b xs ys, x = .ref a ∧ y = .ref b ∧ SqT K H a xs ∧ SqT K H b ys ∧ xs ≠ [] ∧ xs.length + ys.length ≤ sizeLine ∧
  (ys = [] → Q (.ref a) H) ∧ (ys ≠ [] → ∀ p, H p = none → Q (.ref p) (upd H p (.tup (xs ++ ys))))
theorem Vals.nil_iff {xs : List V} {us : List Value} (r : Vals xs us) : us = [] ↔ xs = [] := by
  cases r with
  | nil => simp
  | cons _ _ => simp
theorem op_catT : OpR X (binaryOp .Add) (rCatT X.K) := by
  intro pins s σ H x y v u Q I rx ry h
  obtain ⟨a, b, xs, ys, rfl, rfl, ha, hb, hx, hz, q1, q2⟩ := h
  cases rx
  cases ry
  obtain ⟨its, r1, p1, _⟩ := I.tuple ha
  obtain ⟨its2, r2, p2, _⟩ := I.tuple hb
  refine HT.cat_tup p1 p2 (fun z => hx (r1.nil_iff.mp z)) (fun z => ⟨.ref a, H, I, rfl, q1 (r2.nil_iff.mp z)⟩) (fun z => ?_) (by rw [← r1.length, ← r2.length]; exact hz)
  refine ⟨.ref s.heap.objs.size, _, I.laid (t' := s.toks) (o := .tup (xs ++ ys)) (fun b ob q => Heap.get?_push_of_some _ q) (Nat.le_refl _) ?_, rfl, q2 (fun w => z (r2.nil_iff.mpr w)) _ (I.hok.fresh (Nat.le_refl _))⟩
  exact ⟨by rw [List.length_append]; exact hz, _, r1.append r2, IsTup.new _ _⟩
end
end L2
namespace L2
open PySem PySem.Spec PyProof.Rows
/-! ### places -/
/-- the place that an index of any sign means -/
noncomputable def ixN (n : Nat) (i : Int) : Option Nat := if 0 ≤ i then (if i < n then some i.toNat else none) else if -(n : Int) ≤ i then some (i + n).toNat else none
noncomputable def atI {α : Type} (xs : List α) (i : Int) : Option α := (ixN xs.length i).bind fun j => xs[j]?
theorem ixN_seq {n : Nat} {i : Int} {j : Nat} (h : ixN n i = some j) : seqIndex? i n = some j ∧ j < n ∧ -(n : Int) ≤ i ∧ i < n := by
  unfold ixN at h
  by_cases h0 : 0 ≤ i
  · rw [if_pos h0] at h
    by_cases h1 : i < n
    · rw [if_pos h1] at h
      have e : i.toNat = j := Option.some.inj h
      exact ⟨by rw [seqIndex_of h0 h1, e], by omega, by omega, h1⟩
    · rw [if_neg h1] at h; cases h
  · rw [if_neg h0] at h
    by_cases h1 : -(n : Int) ≤ i
    · rw [if_pos h1] at h
      have e : (i + n).toNat = j := Option.some.inj h
      exact ⟨by rw [seqIndex_neg (by omega) h1, e], by omega, h1, by omega⟩
    · rw [if_neg h1] at h; cases h
theorem atI_get {α : Type} {xs : List α} {i : Int} {v : α} (h : atI xs i = some v) : ∃ j, seqIndex? i xs.length = some j ∧ xs[j]? = some v ∧ j < xs.length ∧ -(xs.length : Int) ≤ i ∧ i < xs.length := by
  unfold atI at h
  cases e : ixN xs.length i with
  | none => rw [e] at h; cases h
  | some j =>
    rw [e] at h
    obtain ⟨h1, h2, h3, h4⟩ := ixN_seq e
    exact ⟨j, h1, h, h2, h3, h4⟩
theorem atI_nat {α : Type} {xs : List α} {j : Nat} {v : α} (h : xs[j]? = some v) : atI xs (j : Int) = some v := by
  have hj : j < xs.length := (List.getElem?_eq_some_iff.mp h).1
  have e : ixN xs.length (j : Int) = some j := by
    unfold ixN
    rw [if_pos (by omega), if_pos (by omega)]; simp
  unfold atI; rw [e]; exact h
/-! ### what may be subscripted -/
/-- what stands as an index of a plain subscript -/
noncomputable def PlainIx (b : Expr) : Prop := ∀ o i, subscripted b false o i = operate [o, i] (getItem o i)
/-- a subscript by values -/
noncomputable def IxR (X : Cx) (r : R2) : Prop :=
  ∀ (value slice : Expr) (pins : List (Addr × Obj)) (s : Shared) (σ : St) (H : Hp) (x y : V) (v u : Value) (Q : VK), Inv X pins σ H s → RelV x v → RelV y u → r x y H Q →
    subscripted slice false v u = operate [v, u] (getItem v u) → wpAny (model X.prog X.w) X.A (subscriptTail value slice v u) (EP X pins σ Q) X.xe s
/-- a call of a builtin's method by values: the receiver, the arguments -/
noncomputable def MtR (X : Cx) (id : String) (r : V → List V → Hp → VK → Prop) : Prop :=
  ∀ (pins : List (Addr × Obj)) (s : Shared) (σ : St) (H : Hp) (x : V) (xs : List V) (v : Value) (us : List Value) (Q : VK), Inv X pins σ H s → RelV x v → Vals xs us → r x xs H Q →
    wpAny (model X.prog X.w) X.A (call (.builtin id) (v :: us)) (EP X pins σ Q) X.xe s
section
variable {X : Cx} {a b : Expr} {ta tb : TE} {pos : Pos}
theorem IxR.or {r r' : R2} (h : IxR X r) (h' : IxR X r') : IxR X (fun x y H Q => r x y H Q ∨ r' x y H Q) := by
  intro value slice pins s σ H x y v u Q I rx ry q hs
  rcases q with q | q
  · exact h value slice pins s σ H x y v u Q I rx ry q hs
  · exact h' value slice pins s σ H x y v u Q I rx ry q hs
theorem MtR.or {id : String} {r r' : V → List V → Hp → VK → Prop} (h : MtR X id r) (h' : MtR X id r') : MtR X id (fun x xs H Q => r x xs H Q ∨ r' x xs H Q) := by
  intro pins s σ H x xs v us Q I rx rs q
  rcases q with q | q
  · exact h pins s σ H x xs v us Q I rx rs q
  · exact h' pins s σ H x xs v us Q I rx rs q
/-- a[b] -/
theorem pe_ix {r : R2} (hr : IxR X r) (ha : PE X a ta) (hb : PE X b tb) (hs : PlainIx b) : PE X (.Subscript a b pos) (tOp r ta tb) := by
  intro pins s σ H Q I h
  exact Subscript_ (binT ha hb I h fun v u s2 x y H2 I2 rx ry q => hr a b pins s2 σ H2 x y v u Q I2 rx ry q (hs _ _))
noncomputable def rIxL (K : PySem.W.Frag) : R2 := fun x y H Q => ∃ p xs i v, x = .ref p ∧ y = .int i ∧ SqL K H p xs ∧ atI xs i = some v ∧ Q v H
noncomputable def rIxT (K : PySem.W.Frag) : R2 := fun x y H Q => ∃ p xs i v, x = .ref p ∧ y = .int i ∧ SqT K H p xs ∧ atI xs i = some v ∧ Q v H
noncomputable def rIxS : R2 := fun x y H Q => ∃ z i c, x = .str z ∧ y = .int i ∧ z.length ≤ sizeLine ∧ atI z.cps.toList i = some c ∧ Q (.str ⟨#[c]⟩) H
theorem ix_list : IxR X (rIxL X.K) := by
  intro value slice pins s σ H x y v u Q I rx ry h hs
  obtain ⟨p, xs, i, z, rfl, rfl, hq, he, q⟩ := h
  cases rx
  obtain ⟨t, rfl⟩ := ry
  obtain ⟨its, r, pl, hz⟩ := I.list hq
  obtain ⟨j, h1, h2, h3, h4, h5⟩ := atI_get he
  obtain ⟨w, ew, rw'⟩ := r.get h2
  have hl := r.length
  have hn := line63
  have fin : EP X pins σ Q w s := ⟨z, H, I, rw', q⟩
  by_cases h0 : 0 ≤ i
  · have hj : i.toNat = j := by
      rw [seqIndex_of h0 h5] at h1
      exact Option.some.inj h1
    exact item_listR pl.isList h0 (by omega) (by rw [hj]; simpa using ew) fin hs
  · have hj : (i + (its.toArray.size : Int)).toNat = j := by
      rw [seqIndex_neg (by omega) h4] at h1
      rw [List.size_toArray, ← hl]
      exact Option.some.inj h1
    exact subscriptTail_builtinR (x := w) pl.isList.typeIs slot_list_getitem.lookup
      (wpAny_getItem_list_neg (Q := fun r s' => r = w ∧ EP X pins σ Q r s') pl.isList (by omega) (by rw [List.size_toArray] <;> omega) (by omega) (by rw [hj]; simpa using ew) ⟨rfl, fin⟩) hs
theorem ix_tup : IxR X (rIxT X.K) := by
  intro value slice pins s σ H x y v u Q I rx ry h hs
  obtain ⟨p, xs, i, z, rfl, rfl, hq, he, q⟩ := h
  cases rx
  obtain ⟨t, rfl⟩ := ry
  obtain ⟨its, r, pl, hz⟩ := I.tuple hq
  obtain ⟨j, h1, h2, h3, h4, h5⟩ := atI_get he
  obtain ⟨w, ew, rw'⟩ := r.get h2
  have hl := r.length
  have hn := line63
  have fin : EP X pins σ Q w s := ⟨z, H, I, rw', q⟩
  exact subscriptTail_builtinR (x := w) pl.typeIs slot_tuple_getitem.lookup
    (getItem_tuple (j := j) (Q := fun r s' => r = w ∧ EP X pins σ Q r s') pl (by omega) (by omega) (by rw [List.size_toArray, ← hl]; exact h1) (by simpa using ew) ⟨rfl, fin⟩) hs
theorem ix_str : IxR X rIxS := by
  intro value slice pins s σ H x y v u Q I rx ry h hs
  obtain ⟨z, i, c, rfl, rfl, hz, he, q⟩ := h
  obtain ⟨t, rfl⟩ := rx
  obtain ⟨t', rfl⟩ := ry
  obtain ⟨j, h1, h2, h3, h4, h5⟩ := atI_get he
  have hl : z.cps.toList.length = z.length := by simp [Str.length]
  rw [hl] at h1 h4 h5
  have hn := line63
  exact tail_any (typeIs_str s z t) slot_str_getitem.lookup (getItem_str (c := c) (by
    have e1 : decide (i < -(2 ^ 63 : Int)) = false := decide_eq_false (by omega)
    have e2 : decide (i ≥ 2 ^ 63) = false := decide_eq_false (by omega)
    rw [e1, e2, Bool.or_false]) (by rw [h1]; simpa using h2) ⟨.str ⟨#[c]⟩, H, I.tok _, ⟨_, rfl⟩, q⟩) hs
/-- list, tuple or str -/
noncomputable def rIx (K : PySem.W.Frag) : R2 := fun x y H Q => rIxL K x y H Q ∨ rIxT K x y H Q ∨ rIxS x y H Q
theorem ix_seq : IxR X (rIx X.K) := ix_list.or (ix_tup.or ix_str)
/-! ### xs[i] = v, any sign -/
theorem Inv.lst {pins : List (Addr × Obj)} {σ : St} {H : Hp} {s : Shared} {p : Addr} {xs : List V} (I : Inv X pins σ H s) (h : H p = some (.lst xs)) :
    ∃ (its : List Value) (n : Nat), Vals xs its ∧ s.heap.get? p = some { cls := .type "list", data := .seq its.toArray n } ∧ xs.length ≤ sizeLine := by
  obtain ⟨z, its, n, r, e⟩ := I.hok p _ h
  exact ⟨its, n, r, e, z⟩
/-! ### slices -/
/-! ### in, not in: flat items -/
noncomputable def flatV : V → Bool
  | .non => true
  | .bl _ => true
  | .int _ => true
  | .str _ => true
  | _ => false
/-- == of flat values -/
noncomputable def eqV : V → V → Bool
  | .non, .non => true
  | .bl a, .bl b => a == b
  | .bl a, .int b => (if a then 1 else 0) == b
  | .int a, .bl b => a == (if b then 1 else 0)
  | .int a, .int b => a == b
  | .str a, .str b => a == b
  | _, _ => false
theorem eqAt_V {A : Around} {s : Shared} {y x : V} {u v : Value} (ry : RelV y u) (rx : RelV x v) (fy : flatV y = true) (fx : flatV x = true) : SeqAt.EqAt A s u v (eqV y x) := by
  cases y with
  | non =>
    cases ry
    cases x with
    | non => cases rx; exact SeqAt.EqAt.same _
    | bl b => cases rx; exact SeqAt.EqAt.none_bool b
    | int b => obtain ⟨t, rfl⟩ := rx; exact SeqAt.EqAt.none_int b t
    | str b => obtain ⟨t, rfl⟩ := rx; exact SeqAt.EqAt.none_str b t
    | _ => exact absurd (show false = true from fx) Bool.false_ne_true
  | bl a =>
    cases ry
    cases x with
    | non => cases rx; exact SeqAt.EqAt.bool_none a
    | bl b => cases rx; exact SeqAt.EqAt.bool_bool a b
    | int b => obtain ⟨t, rfl⟩ := rx; exact SeqAt.EqAt.bool_int a b t
    | str b => obtain ⟨t, rfl⟩ := rx; exact SeqAt.EqAt.bool_str a b t
    | _ => exact absurd (show false = true from fx) Bool.false_ne_true
  | int a =>
    obtain ⟨t', rfl⟩ := ry
    cases x with
    | non => cases rx; exact SeqAt.EqAt.int_none a t'
    | bl b => cases rx; exact SeqAt.EqAt.int_bool a t' b
    | int b => obtain ⟨t, rfl⟩ := rx; exact SeqAt.EqAt.int_int a t' b t
    | str b => obtain ⟨t, rfl⟩ := rx; exact SeqAt.EqAt.int_str a t' b t
    | _ => exact absurd (show false = true from fx) Bool.false_ne_true
  | str a =>
    obtain ⟨t', rfl⟩ := ry
    cases x with
    | non => cases rx; exact SeqAt.EqAt.str_none a t'
    | bl b => cases rx; exact SeqAt.EqAt.str_bool a t' b
    | int b => obtain ⟨t, rfl⟩ := rx; exact SeqAt.EqAt.str_int a t' b t
    | str b => obtain ⟨t, rfl⟩ := rx; exact SeqAt.EqAt.str_str a t' b t
    | _ => exact absurd (show false = true from fx) Bool.false_ne_true
  | _ => exact absurd (show false = true from fy) Bool.false_ne_true
/-! ### len, list(x), tuple(x) of any list or tuple that is read -/
theorem call_len_seq : CallR X (.builtin "len") (fun xs H Q => ∃ p ys, xs = [.ref p] ∧ (SqL X.K H p ys ∨ SqT X.K H p ys) ∧ Q (.int ys.length) H) := by
  intro pins s σ H xs us Q I r h
  obtain ⟨p, ys, rfl, hq, q⟩ := h
  obtain ⟨u, rfl, rx⟩ := vals1 r
  cases rx
  have hn := line63
  rcases hq with hq | hq
  · obtain ⟨its, r', pl, hz⟩ := I.list hq
    have hlen := r'.length
    exact Calls.call_len_list pl.isList (by simp only [List.size_toArray] <;> omega) ⟨.int ys.length, H, I.tok _, ⟨s.toks + 1, by rw [List.size_toArray, hlen]⟩, q⟩
  · obtain ⟨its, r', pl, hz⟩ := I.tuple hq
    have hlen := r'.length
    exact len_tuple pl (by simp only [List.size_toArray] <;> omega) ⟨.int ys.length, H, I.tok _, ⟨s.toks + 1, by rw [List.size_toArray, hlen]⟩, q⟩
theorem call_len_str : CallR X (.builtin "len") (fun xs H Q => ∃ z, xs = [.str z] ∧ z.length ≤ sizeLine ∧ Q (.int z.length) H) := by
  intro pins s σ H xs us Q I r h
  obtain ⟨z, rfl, hz, q⟩ := h
  obtain ⟨u, rfl, t, rfl⟩ := vals1 r
  have hn := line63
  exact len_str (by omega) ⟨.int z.length, H, I.tok _, ⟨_, rfl⟩, q⟩
theorem CallR.or {f : Value} {r r' : List V → Hp → VK → Prop} (h : CallR X f r) (h' : CallR X f r') : CallR X f (fun xs H Q => r xs H Q ∨ r' xs H Q) := by
  intro pins s σ H xs us Q I rs q
  rcases q with q | q
  · exact h pins s σ H xs us Q I rs q
  · exact h' pins s σ H xs us Q I rs q
theorem call_tuple_of : CallR X (.type "tuple") (fun xs H Q => ∃ p ys, xs = [.ref p] ∧ ((SqL X.K H p ys ∧ ∀ l, H l = none → Q (.ref l) (upd H l (.tup ys))) ∨ (SqT X.K H p ys ∧ Q (.ref p) H))) := by
  intro pins s σ H xs us Q I r h
  obtain ⟨p, ys, rfl, h⟩ := h
  obtain ⟨u, rfl, rx⟩ := vals1 r
  cases rx
  rcases h with ⟨hq, q⟩ | ⟨hq, q⟩
  · obtain ⟨its, r', pl, hz⟩ := I.list hq
    have hlen := r'.length
    refine call_tuple_list pl.isList (fun h' kp => ?_) (by simp only [List.size_toArray] <;> omega)
    have I1 : Inv X pins σ H { s with heap := h' } := I.kept (t' := s.toks) kp
    have I2 : Inv X pins σ (upd H h'.objs.size (.tup ys)) { s with heap := h'.push { cls := .type "tuple", data := .seq its.toArray } } :=
      I1.laid (t' := s.toks) (fun b o e => Heap.get?_push_of_some _ e) (Nat.le_refl _) (show ObjOk X.prog X.w _ _ _ (.tup ys) from ⟨hz, its, r', IsTup.new _ _⟩)
    exact ⟨.ref h'.objs.size, _, I2, rfl, q _ (I1.hok.fresh (Nat.le_refl _))⟩
  · obtain ⟨its, r', pl, hz⟩ := I.tuple hq
    exact call_tuple_same pl ⟨.ref p, H, I, rfl, q⟩
/-! ### the call of a builtin's method: o.m(..) -/
/-- the value is of that builtin type -/
noncomputable def tyV (K : PySem.W.Frag) (T : String) (x : V) (H : Hp) : Prop := match x with
  | .str _ => T = "str"
  | .int _ => T = "int"
  | .ref p => (T = "list" ∧ ∃ xs, SqL K H p xs) ∨ (T = "tuple" ∧ ∃ o, K.lookup p = some o ∧ o.cls = .type "tuple" ∧ o.dict = none) ∨
      (T = "dict" ∧ ((∃ kvs, H p = some (.dK kvs)) ∨ ∃ kvs, H p = some (.dT kvs))) ∨ (T = "set" ∧ ∃ S n, H p = some (.set S n))
  | _ => False
theorem tyV_is {pins : List (Addr × Obj)} {σ : St} {H : Hp} {s : Shared} {T : String} {x : V} {v : Value} (I : Inv X pins σ H s) (r : RelV x v) (ty : tyV X.K T x H) :
    s.TypeIs v T ∧ ∀ a, v = .ref a → ∃ ob, s.heap.get? a = some ob ∧ ob.dict = none := by
  cases x with
  | str z =>
    obtain ⟨t, rfl⟩ := r
    cases (show T = "str" from ty)
    exact ⟨typeIs_str s z t, fun _ e => nomatch e⟩
  | int i =>
    obtain ⟨t, rfl⟩ := r
    cases (show T = "int" from ty)
    exact ⟨typeIs_int s i t, fun _ e => nomatch e⟩
  | ref p =>
    cases r
    rcases ty with ⟨rfl, xs, hq⟩ | ⟨rfl, o, hk, hc, hd⟩ | ⟨rfl, hk⟩ | ⟨rfl, S, n, hk⟩
    · obtain ⟨its, _, pl, _⟩ := I.list hq
      refine ⟨pl.isList.typeIs, fun a e => ?_⟩
      cases e
      obtain ⟨o, n, e, c, hd, _⟩ := pl
      exact ⟨o, e, hd⟩
    · refine ⟨⟨o, I.kIn p o hk, hc⟩, fun a e => ?_⟩
      cases e
      exact ⟨o, I.kIn _ o hk, hd⟩
    · have z : ∃ o, s.heap.get? p = some o ∧ o.ExactDict := by
        rcases hk with ⟨kvs, hk⟩ | ⟨kvs, hk⟩
        · obtain ⟨_, _, _, _, o, _, _, e, ex, _⟩ := I.hok p _ hk
          exact ⟨o, e, ex⟩
        · obtain ⟨_, _, _, _, o, _, _, e, ex, _⟩ := I.hok p _ hk
          exact ⟨o, e, ex⟩
      obtain ⟨o, e, ex⟩ := z
      refine ⟨⟨o, e, ex.1⟩, fun a e2 => ?_⟩
      cases e2
      exact ⟨o, e, ex.2.1⟩
    · obtain ⟨o, _, _, _, e, ex, _⟩ := I.hok p _ hk
      refine ⟨⟨o, e, ex.1⟩, fun a e2 => ?_⟩
      cases e2
      exact ⟨o, e, ex.2.1⟩
  | _ => exact False.elim ty
noncomputable def tBM (K : PySem.W.Frag) (T : String) (r : V → List V → Hp → VK → Prop) (to : TE) (t : TA) : TE := fun σ H Q => to σ H fun x H1 => tyV K T x H1 ∧ t σ H1 fun xs H2 => r x xs H2 Q
variable {o e : Expr} {es : List Expr} {to : TE} {t : TA} {name : Str} {apos cpos : Pos} {T id : String} {r : V → List V → Hp → VK → Prop}
theorem pe_bm (pa : PlainAttrs T) (slot : Slot T name id) (hty : typeOf (.builtin id) = pure (.type "method_descriptor")) (hm : MtR X id r) (ho : PE X o to) (ha : PA X (e :: es) t)
    (hbase : attributeBase o name X.env (eval o X.env) = eval o X.env := by rfl)
    (hfew : ((backTo cpos (starEach (e :: es) X.env)).all (fun x => !x.1) && (backToKw cpos (keywordEach [] X.env)).all (fun x => x.1.isSome)
      && decide ((e :: es).length + ([] : List Keyword).length + (if ([] : List Keyword).isEmpty then 0 else 1) < 30)) = true := by rfl)
    (hline : (apos.endLine == cpos.line) = true := by rfl) (hs : starEach (e :: es) X.env = (false, eval e X.env) :: starEach es X.env := by rfl) (hplain : (backTo cpos (starEach es X.env)).any (·.1) = false := by rfl) :
    PE X (.Call (.Attribute o name apos) (e :: es) [] cpos) (tBM X.K T r to t) := by
  intro pins s σ H Q I h
  refine wpAny_Call_method_late hbase hfew hline rfl (thn (ho pins s σ H _ I h) fun v s1 ⟨x, H1, I1, r1, ty, q1⟩ => ?_)
  obtain ⟨h1, h2⟩ := tyV_is I1 r1 ty
  refine ⟨T, id, pa, slot, hty, h1, h2, ?_⟩
  have hA := ha cpos pins s1 σ H1 _ I1 q1
  rw [hs] at hA ⊢
  refine Calls.callWith_builtin (by show (false || (backTo cpos (starEach es X.env)).any (·.1)) = false; rw [hplain] <;> rfl) (Calls.evalArgs_plain ?_)
  exact thn hA fun us s2 ⟨vs, H2, I2, r2, q2⟩ => hm pins s2 σ H2 x vs v us Q I2 r1 r2 q2
/- xs.append(e), list.index on a module's tuple .. are MtR facts of 06m -/
end
end L2
namespace L2
open PySem PySem.Spec PyProof.Rows
noncomputable def MtM (X : Cx) (id : String) (r : V → List V → Hp → VK → Prop) : Prop :=
  ∀ (pins : List (Addr × Obj)) (s : Shared) (σ : St) (H : Hp) (x : V) (xs : List V) (v : Value) (us : List Value) (Q : VK), Inv X pins σ H s → RelV x v → Vals xs us → r x xs H Q →
    wpAny (model X.prog X.w) X.A (call (.builtin id) (v :: us)) (EP X pins σ Q) X.xe s
/-! ### lists of values -/
theorem Vals.one : ∀ {x : V} {us : List Value}, Vals [x] us → ∃ u, us = [u] ∧ RelV x u
  | _, _, .cons r .nil => ⟨_, rfl, r⟩
theorem Vals.two : ∀ {x y : V} {us : List Value}, Vals [x, y] us → ∃ u v, us = [u, v] ∧ RelV x u ∧ RelV y v
  | _, _, _, .cons r (.cons q .nil) => ⟨_, _, rfl, r, q⟩
theorem Vals.zero : ∀ {us : List Value}, Vals [] us → us = []
  | _, .nil => rfl
theorem Vals.dropLast {xs : List V} {us : List Value} (h : Vals xs us) : Vals xs.dropLast us.dropLast := by
  induction h with
  | nil => exact .nil
  | cons r t ih =>
    cases t with
    | nil => exact .nil
    | cons q t' => exact .cons r ih
theorem Vals.reverse {xs : List V} {us : List Value} (h : Vals xs us) : Vals xs.reverse us.reverse := by
  induction h with
  | nil => exact .nil
  | cons r t ih => rw [List.reverse_cons, List.reverse_cons]; exact Vals.append ih (.cons r .nil)
theorem Vals.rep {xs : List V} {us : List Value} (h : Vals xs us) : ∀ k : Nat, Vals (List.replicate k xs).flatten (List.replicate k us).flatten
  | 0 => .nil
  | k + 1 => by
    rw [List.replicate_succ, List.replicate_succ, List.flatten_cons, List.flatten_cons]
    exact Vals.append h (Vals.rep h k)
section
variable {X : Cx} {pins : List (Addr × Obj)} {σ : St} {H : Hp} {s : Shared} {l b : Addr} {xs ys zs : List V}
/-! ### the two steps: a tracked list is rewritten, a new list is laid -/
theorem Inv.lset {its its' : List Value} {n : Nat} {f : Array Value → Array Value} {t' : Nat} (I : Inv X pins σ H s) (hH : H l = some (.lst xs))
    (e : s.heap.get? l = some { cls := .type "list", data := .seq its.toArray n }) (hf : f its.toArray = its'.toArray) (hv : Vals ys its') (hz : ys.length ≤ sizeLine) :
    Inv X pins σ (upd H l (.lst ys)) { s with heap := s.heap.update l (Obj.mapSeq f), toks := t' } := by
  have q := PySem.IsL.update e f
  rw [hf] at q
  refine I.write (x := l) (e := l) (by rw [hH]; exact trivial) (.inl rfl) (fun b' u hb hu => (Heap.get?_update_other s.heap (Obj.mapSeq f) (Ne.symm hb)).trans hu) ⟨_, q⟩ ?_
  exact ⟨hz, its', _, hv, q⟩
theorem Inv.lnew {its : List Value} {t' : Nat} (I : Inv X pins σ H s) (hv : Vals ys its) (hz : ys.length ≤ sizeLine) :
    Inv X pins σ (upd H s.heap.objs.size (.lst ys)) { s with heap := s.heap.push { cls := .type "list", data := .seq its.toArray }, toks := t' } :=
  I.laid (fun _ _ q => Heap.get?_push_of_some _ q) (Nat.le_refl _) ⟨hz, its, 0, hv, Heap.get?_push_size _ rfl⟩
theorem Inv.fresh (I : Inv X pins σ H s) : H s.heap.objs.size = none := I.hok.fresh (Nat.le_refl _)
theorem Inv.lstM (I : Inv X pins σ H s) (hH : H l = some (.lst xs)) : xs.length ≤ sizeLine ∧ ∃ (its : List Value) (n : Nat), Vals xs its ∧ xs.length = its.length ∧ s.heap.get? l = some { cls := .type "list", data := .seq its.toArray n } := by
  obtain ⟨z, its, n, r, e⟩ := I.hok l _ hH
  exact ⟨z, its, n, r, r.length, e⟩
end
section
variable {X : Cx}
/-! ### methods -/
noncomputable def rAppend : V → List V → Hp → VK → Prop := fun x vs H Q => ∃ l xs y, x = .ref l ∧ vs = [y] ∧ H l = some (.lst xs) ∧ xs.length < sizeLine ∧ Q .non (upd H l (.lst (xs ++ [y])))
theorem mt_append : MtM X "list.append" rAppend := by
  intro pins s σ H x vs v us Q I rx rv h
  obtain ⟨l, xs, y, rfl, rfl, hH, hz, q⟩ := h
  cases rx
  obtain ⟨u, rfl, ru⟩ := rv.one
  obtain ⟨z, its, n, r, hl, e⟩ := I.lstM hH
  refine call_meets F.slot_list_append ⟨_, e, rfl⟩ F.entry_list_append (F.args_list_append_2 _ _) (PySem.list_append l its.toArray n u (by rw [List.size_toArray]; omega)) ⟨e, ?_⟩
  refine ⟨.non, _, I.lset (its' := its ++ [u]) hH e (by simp) (r.append (.cons ru .nil)) ?_, rfl, q⟩
  rw [List.length_append, List.length_singleton]
  omega
/-! ### list + list, list += list, list * int -/
noncomputable def rCat : R2 := fun x y H Q => ∃ l b xs zs, x = .ref l ∧ y = .ref b ∧ H l = some (.lst xs) ∧ H b = some (.lst zs) ∧ xs.length + zs.length ≤ sizeLine ∧ ∀ p, H p = none → Q (.ref p) (upd H p (.lst (xs ++ zs)))
theorem op_cat : OpR X (binaryOp .Add) rCat := by
  intro pins s σ H x y v u Q I rx ry h
  obtain ⟨l, b, xs, zs, rfl, rfl, hH, hB, hz, q⟩ := h
  cases rx
  cases ry
  obtain ⟨z, its, n, r, hl, e⟩ := I.lstM hH
  obtain ⟨z2, its2, n2, r2, hl2, e2⟩ := I.lstM hB
  refine PySem.P.add_list e e2 ?_ (by rw [List.size_toArray, List.size_toArray]; omega)
  have ea : its.toArray ++ its2.toArray = (its ++ its2).toArray := by simp
  rw [ea]
  exact ⟨.ref _, _, I.lnew (t' := s.toks) (r.append r2) (by rw [List.length_append]; omega), rfl, q _ I.fresh⟩
/-! ### del xs[i] -/
end
/-! ### xs[a:b] = ys -/
section
variable {prog : Program} {w : World} {A : Around} {E : Value → Shared → Prop} {s : Shared}
end
section
variable {X : Cx}
end
end L2
namespace Att
open PySem PySem.W PySem.Calls PyProof.Rows
/-! ### the script -/
theorem ints_of_wellAll {P : Params} {h : Heap} : ∀ (ns : List Int) (vs : List Value), WellAll P h vs (ns.map WData.int) → IntsAre vs ns := by
  intro ns
  induction ns with
  | nil =>
    intro vs w
    rw [List.map_nil] at w
    cases w
    exact .nil
  | cons n ns ih =>
    intro vs w
    rw [List.map_cons] at w
    cases w with
    | cons a b =>
      cases a
      exact .cons _ _ (ih _ b)
theorem script_of {l : OpenLaw} {n : Nat} (hn : l.most = some n) {P : Params} {h : Heap} {args : List WData} {vals : List Value}
    (hpre : l.row.toRowW.claim.pre args = true) (hwl : WellAll P h vals args) :
    ∃ a vs ns, vals = [Value.ref a] ∧ args = [WData.list (ns.map WData.int)] ∧ h.get? a = some { cls := .type "list", data := .seq vs.toArray } ∧ IntsAre vs ns ∧ ns.length ≤ n := by
  have hsh : WShape.hasAll [] args [.list .int] = true := (pre_splitW hpre).1
  have hc : l.pre.holds [] { args := args } = true := (pre_splitW hpre).2
  obtain ⟨d, r, rfl, h1, h2⟩ := hasAllW_cons hsh
  obtain rfl := hasAllW_nil h2
  obtain ⟨xs, rfl, h3⟩ := hasW_list h1
  obtain ⟨ns, rfl⟩ := items_int h3
  have hlen : ns.length ≤ n := by
    unfold OpenLaw.pre at hc
    have h4 : (WTm.not (.lt (.lit (.int (n : Int))) (.len (.arg 0)))).holds [] { args := [.list (ns.map .int)] } = true := by
      have h4 := (holds_andW hc).1
      rw [hn] at h4
      exact h4
    have h5 := condW_of h4 (w_not (w_lt w_lit (w_len_list (w_arg rfl))))
    rw [List.length_map] at h5
    refine Nat.le_of_not_lt fun q => ?_
    have q' : (n : Int) < ((ns.length : Nat) : Int) := by omega
    first
      | (rw [decide_eq_true q'] at h5; exact absurd h5 (by decide))
      | (simp at h5; omega)
  cases hwl with
  | cons w1 w2 =>
    cases w2
    cases w1 with
    | list ho hall => exact ⟨_, _, ns, rfl, rfl, ho, ints_of_wellAll ns _ hall, hlen⟩
theorem post_true (l : OpenLaw) (args : List WData) : l.row.toRowW.claim.post args (.bool true) args = true :=
  postW_of (r := l.row.toRowW) (X := (true == true))
    (show WShape.has [] (.bool true) .bool = true by first | rfl | decide | simp [WShape.has, WShape.arms, WShape.armsAll])
    (show (WTm.eq .res (.lit (.bool true))).value [] { args := args, res := some (.bool true), after := args } = some (.bool (true == true)) from w_eq_bool (w_res rfl) w_lit) rfl
/-! ### the attachment: holds_open's last premise (the goal 'hc' behind k_head) from a wpAny of the law's body -/
/-- the same from a codeAny of the CALL (for a layer whose function contracts speak of calls) -/
theorem attach_call {l : OpenLaw} {n : Nat} {q : Program} {loose : List Str} {XP : (Str → Option Value) → Heap → Prop} {YP : World → Heap → Prop} {d : DefRec}
    (hn : l.most = some n) (hdf : d.params.defaults = [])
    (call : ∀ (w : World) (s₀ s₁ : Shared) (mg mb : Str → Option Value) (fa : Addr) (o : Obj) (pm cd doc : Value) (a : Addr) (vs : List Value) (ns : List Int),
      Ground q loose [] XP w s₀ mg mb s₁.heap → YP w s₁.heap →
      s₁.heap.get? fa = some o → o.data = .func (docDef d.name d.params d.body d.scope pm cd doc) → s₁.heap.CodeRec cd d.name → mg d.name = some (.ref fa) →
      s₁.heap.get? a = some { cls := .type "list", data := .seq vs.toArray } → IntsAre vs ns → ns.length ≤ n → s₁.gens = #[] →
      codeAny (model l.prog w) callerA (.call (.ref fa) ⟨[.ref a], []⟩) (fun r s' => r = .ok (.ret (.bool true)) ∧ OldK s₁.heap s'.heap ∧ s'.os = s₁.os ∧ AllBare s'.gens) s₁) :
    WalkO q loose XP YP l.row.toRowW d [] (fun f vs => PySem.call f vs) := by
  intro w s₀ s₁ mg mb G Y fa o pm cd doc dV kV ho hd hcd hD hmg hg args vals as hpre hlay hrd hwl hlo
  obtain rfl : dV = .none := Dflts.none hD hdf
  obtain rfl : kV = .none := Dflts.noKw hD
  obtain ⟨a, vs, ns, rfl, rfl, hobj, hints, hlen⟩ := script_of hn hpre hwl
  refine enter_call (codeAny_mono (call w s₀ s₁ mg mb fa o pm cd doc a vs ns G Y ho (fd_plain hd) hcd hmg hobj hints hlen hg) fun r s' hq => ?_)
  obtain ⟨rfl, h2, h3, h4⟩ := hq
  exact ⟨.inl ⟨.bool true, .bool true, [], rfl, fun _ => rfl, .bool true, post_true l _, fun _ => ⟨List.Pairwise.nil, fun _ hm => (nomatch hm)⟩⟩, h2, h3, h4⟩
/-! ### rules over ANY heap (no ledger) from facts about the written part K: the library's own take a ledger (News) for what they write -/
section
variable {prog : Program} {w : World} {A : Around} {E : Value → Shared → Prop} {s : Shared} {K : Frag}
/-- x.name where the instance's dict holds the name and the class does not -/
theorem get_field {x C : Addr} {ox : Obj} {es : List DictEntry} {n : Nat} {name : Str} {expr : Bool} {v : Value} {Q : Value → Shared → Prop}
    (X : K.In s.heap) (I : PySem.W.InstAt s.heap x ox C (some (dictOf es n))) (hg : plainGet K C name = true) (hh : hasDictIn K C = true) (ha : findIn K (.ref C) name = some none)
    (hl : getL name es = some (some v)) (hv : handedIn v = true) (h : Q v { s with toks := s.toks + 1 }) : wpAny (model prog w) A (getAttr (.ref x) name expr) Q E s :=
  get_value X I (plainGet_of hg).1 (findObj_own hh ha rfl hl) hv h
/-! the whole heap as the ledger: makes every rule that writes through a ledger a rule over any heap -/
end
end Att
namespace L2
open PySem PySem.Spec PyProof.Rows
theorem vals_ints : ∀ {vs : List Value} {ns : List Int}, IntsAre vs ns → Vals (ns.map V.int) vs
  | _, _, .nil => .nil
  | _, _, .cons n t h => .cons ⟨t, rfl⟩ (vals_ints h)
/-- nothing is tracked but the script, known to the object (or it is an object of the module) -/
noncomputable def Only (H : Hp) : Prop := ∀ b, H b = none ∨ ∃ o xs, H b = some (.frz o (.lst xs))
/-- THE HEAD: the law's promise, at the heap behind the top. F, the promise of the law's def, may use that base is part of the heap (so K.In base, base.Ns mainGlobals mg stand in Mod) -/
theorem law_call {P : Program} {w : World} {K : PySem.W.Frag} {mg mb : Str → Option Value} {CX : CXT} {k : Nat} {fa a : Addr} {fd : FuncData} {x : Str} {sp : Sp} {s₁ : Shared} {vs : List Value} {ns : List Int}
    (KX : K.In s₁.heap) (hns : s₁.heap.Ns mainGlobals mg) (hb : s₁.heap.Ns builtinsNs mb) (hbb : ∀ x : Str, x ≠ "__name__" → mb x = bootBuiltins x) (hlim : s₁.heap.NoLimit) (hg : s₁.gens = #[])
    (ha : s₁.heap.get? a = some { cls := .type "list", data := .seq vs.toArray }) (hi : IntsAre vs ns) (hl : ns.length ≤ sizeLine) (hr : Room k callerA)
    (F : ∀ base : Heap, K.In base → base.Ns mainGlobals mg → FnOk P w K mg base CX k fa fd [x] sp) (hbind : ∀ (s : Shared) (u : Value), BindsTo s fd ⟨[u], []⟩ [(x, u)])
    (hsp : ∀ H : Hp, Only H → SqL K H a (ns.map V.int) → sp [.ref a] H (fun v _ => v = .bl true) fun _ _ _ => False)
    (hCX : ∀ H e s', CX [] H s₁ (fun _ _ _ => False) e s' → False) :
    codeAny (model P w) callerA (.call (.ref fa) ⟨[.ref a], []⟩) (fun r s' => r = .ok (.ret (.bool true)) ∧ OldK s₁.heap s'.heap ∧ s'.os = s₁.os ∧ AllBare s'.gens) s₁ := by
  have rv := vals_ints hi
  have lenV := hi.length
  -- from an abstract heap in which nothing but the script may be tracked
  have core : ∀ H : Hp, Only H → SqL K H a (ns.map V.int) → HOk P w H s₁.heap → (∀ b, H b ≠ none → b = a) → (H a ≠ none → K.lookup a = none) →
      codeAny (model P w) callerA (.call (.ref fa) ⟨[.ref a], []⟩) (fun r s' => r = .ok (.ret (.bool true)) ∧ OldK s₁.heap s'.heap ∧ s'.os = s₁.os ∧ AllBare s'.gens) s₁ := by
    intro H hO hS hok hA hK
    have base_of : ∀ {b : Addr} {o : Obj}, s₁.heap.get? b = some o → H b = none → (hidT s₁.heap H).get? b = some o := fun e n => hidT_get e n
    have noA : ∀ {b : Addr} {o : Obj} {es : Array DictEntry} {ep : Nat}, s₁.heap.get? b = some o → o.data = .dict es ep → H b = none := fun {b o es ep} e d => by
      cases q : H b with
      | none => rfl
      | some u =>
        have e' : b = a := hA b (by rw [q]; simp)
        subst e'
        rw [ha] at e; cases e
        have d' : Data.seq vs.toArray _ = Data.dict es ep := d
        cases d'
    have nsK : ∀ {b : Addr} {m : Str → Option Value}, s₁.heap.Ns b m → (hidT s₁.heap H).Ns b m := fun {b m} ⟨o, es, ep, e, d, r⟩ => ⟨o, es, ep, base_of e (noA e d), d, r⟩
    have hKb : K.In (hidT s₁.heap H) := fun b o e => base_of (KX b o e) (by
      cases q : H b with
      | none => rfl
      | some u =>
        have e' : b = a := hA b (by rw [q]; simp)
        subst e'
        rw [hK (by rw [q]; simp)] at e; cases e)
    have hM : Mod K mg (hidT s₁.heap H) := ⟨hKb, nsK hns, ⟨mb, nsK hb, hbb⟩, let ⟨mc, h1, h2⟩ := hlim; ⟨mc, nsK h1, h2⟩⟩
    have e0 : Env0 P w K mg (hidT s₁.heap H) callerA [] s₁ H := ⟨rfl, hM, fun b o e => of_hidT e, Nat.le_of_eq (hidT_size _ _), trivial, fun b hb => absurd (show b ∈ ([] : List Addr) from hb) (by simp), hok, .of_eq hg⟩
    refine codeAny_mono ((F _ hKb (nsK hns)).run callerA [] s₁ H ⟨[.ref a], []⟩ [.ref a] [.ref a] _ _ hr e0 (hbind s₁ (.ref a)) (.cons rfl .nil) (hsp H hO hS)) fun r s' h => ?_
    cases r with
    | error e => exact (hCX H e s' h).elim
    | ok fl =>
      cases fl with
      | next => exact False.elim h
      | brk => exact False.elim h
      | cont => exact False.elim h
      | ret u =>
        obtain ⟨v, H', os, bare, un, hok', r', q⟩ := h
        have q' : v = .bl true := q
        subst q'
        obtain rfl : u = Value.bool true := r'
        refine ⟨rfl, OldK.of_keep fun b o e => ?_, os, bare⟩
        cases q : H b with
        | none => exact un.keep b o e q (by intro z; exact absurd (show b ∈ ([] : List Addr) from z) (by simp)) (by simp)
        | some u =>
          rcases hO b with z | ⟨ob, xs, z⟩
          · rw [q] at z; cases z
          · have z2 := un.frzs b ob _ z
            obtain ⟨e1, _⟩ := hok b _ z
            obtain ⟨e2, _⟩ := hok' b _ z2
            rw [e] at e1; cases e1
            exact e2
  cases hk : K.lookup a with
  | some o =>
    -- the script is one of the module's own objects
    have e := KX a o hk
    rw [ha] at e
    cases e
    refine core (fun _ => none) (fun _ => .inl rfl) (.inr ⟨_, vs.toArray, _, hk, rfl, rfl, rfl, by rw [List.size_toArray, lenV]; exact hl, by simpa using rv⟩) (fun b u z => by have z' : (none : Option HO) = some u := z; cases z') (fun b z => absurd rfl z) fun z => absurd rfl z
  | none =>
    refine core (fun b => if b = a then some (.frz { cls := .type "list", data := .seq vs.toArray } (.lst (ns.map V.int))) else none) (fun b => ?_) (.inl (.inr ⟨{ cls := .type "list", data := .seq vs.toArray }, if_pos rfl⟩)) (fun b u z => ?_) (fun b z => ?_) fun _ => hk
    · by_cases hb : b = a
      · exact .inr ⟨_, _, if_pos hb⟩
      · exact .inl (if_neg hb)
    · by_cases hb : b = a
      · have z' := (if_pos hb).symm.trans z
        cases z'
        subst hb
        exact ⟨ha, by rw [List.length_map]; exact hl, vs, _, rv, ha⟩
      · have z' := (if_neg hb).symm.trans z
        cases z'
    · by_cases hb : b = a
      · exact hb
      · exact absurd (if_neg hb) z
end L2
namespace L2
open PySem PySem.Spec PyProof.Rows
noncomputable abbrev KOf {K : PySem.W.Frag} {h : Heap} (_ : K.In h) : PySem.W.Frag := K
/-- the goal that k_head leaves (case hc), from the law's promise. F gives the function object fd (K's own) once, then the promise over every base -/
theorem walk_of {l : PySem.W.OpenLaw} {n k : Nat} {q : Program} {loose : List Str} {XP : (Str → Option Value) → Heap → Prop} {YP : World → Heap → Prop} {d : DefRec} {K : Params → PySem.W.Frag} {CX : World → CXT} {sp : World → Sp} {x : Str}
    (hn : l.most = some n) (hn2 : n ≤ sizeLine) (hdf : d.params.defaults = []) (hr : Room k callerA)
    (hY : ∀ (w : World) (h : Heap), YP w h → (K w.params).In h)
    (F : ∀ (w : World) (mg : Str → Option Value) (fa : Addr) (h : Heap), (K w.params).In h → h.Ns mainGlobals mg → mg d.name = some (.ref fa) →
      ∃ fd : FuncData, (∀ (s : Shared) (u : Value), BindsTo s fd ⟨[u], []⟩ [(x, u)]) ∧
        ∀ base : Heap, (K w.params).In base → base.Ns mainGlobals mg → FnOk l.prog w (K w.params) mg base (CX w) k fa fd [x] (sp w))
    (hsp : ∀ (w : World) (H : Hp) (a : Addr) (ns : List Int), ns.length ≤ n → Only H → SqL (K w.params) H a (ns.map V.int) → sp w [.ref a] H (fun v _ => v = .bl true) fun _ _ _ => False)
    (hCX : ∀ (w : World) (H : Hp) (s : Shared) (e : Value) (s' : Shared), CX w [] H s (fun _ _ _ => False) e s' → False) :
    PySem.W.WalkO q loose XP YP l.row.toRowW d [] (fun f vs => PySem.call f vs) := by
  refine Att.attach_call hn hdf fun w s₀ s₁ mg mb fa o pm cd doc a vs ns G Y ho hd hcd hmg hobj hints hlen hg => ?_
  have KX := hY w _ Y
  obtain ⟨fd, hb, hF⟩ := F w mg fa _ KX G.T.g hmg
  exact law_call KX G.T.g G.T.b G.T.builtins G.T.nolimit hg hobj hints (Nat.le_trans hlen hn2) hr hF hb (fun H hO hS => hsp w H a ns hlen hO hS) fun H e s' => hCX w H s₁ e s'
end L2
/- THE LAST THEOREM (shape; LID, My.* are yours):
   My.Adr: a structure of the addresses that your layer names (classes, functions); My.Txt K t: a structure (Prop) of the equations over K;
   My.txt_mk : {K} {implicit addresses ..} (e1 : nsIn K mainGlobals "law" = some (some (.ref f))) (e2 : K.lookup f = some ⟨oc, od, .func (fnOf "law" "law" params body scope dV kV doc pm an cdv ct), sl⟩) (e3 : codeIn K cdv "law" = true) .. : ∃ t, My.Txt K t
set_option maxRecDepth 100000 in
set_option maxHeartbeats 0 in
theorem PySem.Challenge.cw_LID_holds : PySem.Challenge.rw_LID.Holds := by
  w_on; o_law; k_head; (case hw => w_witness2)
  k_fill
  refine L2.walk_of (l := PySem.Challenge.rw_LID) (n := 63) (k := 40) (x := "script") (CX := fun w => ..) (sp := fun _ => My.sp_law) rfl (by decide) rfl ⟨rfl, by decide, by decide⟩ (fun w h Y => PySem.W.kIn_of Y) ?F ?S ?C
  case F =>
    intro w mg fa h KX G hmg
    have T : ∃ t, My.Txt (L2.KOf KX) t := by
      dsimp only [L2.KOf]                          -- K must stand as «<heap const> w.params» for k_is
      refine' My.txt_mk ?e1 ?e2 ?e3 ..
      (case e1 => PySem.W.k_is)                    -- in the order: a name -> its address -> its object -> its parts
      (case e2 => PySem.W.k_is)
      ..
    obtain ⟨t, T⟩ := T
    have e0 := hmg.symm.trans (PySem.W.mg_of KX G T.law)
    cases e0                                       -- fa is the law's own address
    exact ⟨_, fun s u => .of_eq rfl, fun base kb nb => My.law_fn T kb nb⟩     -- if «.of_eq rfl» comes too early: refine' ⟨_, ?b, fun base kb nb => My.law_fn T kb nb⟩; exact fun s u => .of_eq rfl
  case S => exact fun w H a ns hl hO hS => ..
  case C => exact ..
(the tactic k_is has no namespace: write k_is) -/
/-! SHORT WORDS over the layer: a def of the text, its body, what a loop and a test want. -/
namespace L2
open PySem PySem.Spec PyProof.Rows
/-! ### the text by places -/
noncomputable def defArgs (s : Stmt) : Arguments := match s with
  | .FunctionDef _ a _ _ _ _ _ _ _ _ => a
  | _ => { posonlyargs := [], args := [], vararg := none, kwonlyargs := [], kw_defaults := [], kwarg := none, defaults := [] }
noncomputable def defBody (s : Stmt) : List Stmt := match s with
  | .FunctionDef _ _ b _ _ _ _ _ _ _ => b
  | _ => []
noncomputable def defScope (s : Stmt) : Scope := match s with
  | .FunctionDef _ _ _ _ _ _ sc _ _ _ => sc
  | _ => { kind := .function, names := [], isGenerator := false, isCoroutine := false }
/-! ### no exception leaves a def -/
noncomputable abbrev CX0 : CXT := fun _ _ _ _ _ _ => False
noncomputable abbrev E0 : XK := fun _ _ _ => False
theorem pass0 {X : Cx} : Passes CX0 X E0 := fun _ _ _ _ _ _ _ h => h.elim
/-! ### a def (or method) of the text as it stands behind the top -/
structure Fun (K : PySem.W.Frag) (x qual : Str) (st : Stmt) (f : Addr) (fd : FuncData) : Prop where
  ex : ∃ (oc : Value) (od : Option Addr) (kV doc pm : Value) (an : Option Addr) (cdv ct : Value) (osl : Array (Option Value)),
    fd = PySem.W.fnOf x qual (defArgs st) (defBody st) (defScope st) .none kV doc pm an cdv ct ∧ K.lookup f = some ⟨oc, od, .func fd, osl⟩ ∧ PySem.W.codeIn K cdv qual = true
  kp : PySem.W.keepIn K (.ref f) = true
section
variable {P : Program} {w : World} {K : PySem.W.Frag} {mg : Str → Option Value} {base : Heap}
/-- THE RULE for a def: its body as a term of rules, and the reading of that term -/
theorem Fun.ok {x qual : Str} {st : Stmt} {f : Addr} {fd : FuncData} {N ps : List Str} {k : Nat} {sp : Sp} (F : Fun K x qual st f fd) (S : FnScope N ps (defScope st)) (len : ∀ vs H Q E, sp vs H Q E → vs.length = ps.length)
    (hbody : ∀ (cdv : Value) (A : Around) (outer : List Env) (s : Shared) (H : Hp) (vs : List V) (Q : VK) (E : XK), Room k (A.deeper (envOfC qual (defScope st) s.heap.objs.size f cdv)) → sp vs H Q E →
      ∃ t, PSs (cxOf CX0 P w K mg base N qual (defScope st) f cdv A outer s H E).nox (defBody st) t ∧ t { nx := fun _ H' => Q .non H', rt := Q } (start N vs) H) : FnOk P w K mg base CX0 (k + 1) f fd ps sp := by
  obtain ⟨oc, od, kV, doc, pm, an, cdv, ct, osl, rfl, lk, hcd⟩ := F.ex
  refine fn_of lk hcd S len fun A outer s H vs Q E hr hsp => ?_
  obtain ⟨t, h, q⟩ := hbody cdv A outer s H vs Q E hr hsp
  exact ⟨t, h.nox, q⟩
/-- how its arguments bind (no defaults): h is «fun _ _ _ _ _ _ us hl => match us, hl with | [_, _], _ => rfl», one _ a parameter -/
theorem Fun.binds {x qual : Str} {st : Stmt} {f : Addr} {fd : FuncData} {ps : List Str} (F : Fun K x qual st f fd)
    (h : ∀ (kV doc pm : Value) (an : Option Addr) (cdv ct : Value) (us : List Value), us.length = ps.length → bindArgs (PySem.W.fnOf x qual (defArgs st) (defBody st) (defScope st) .none kV doc pm an cdv ct) ⟨us, []⟩ = pure (ps.zip us)) : Binds K fd ps [] := by
  obtain ⟨oc, od, kV, doc, pm, an, cdv, ct, osl, rfl, lk, hcd⟩ := F.ex
  exact .all (h kV doc pm an cdv ct)
theorem fun_mk {x qual : Str} {st : Stmt} {f : Addr} {oc : Value} {od an : Option Addr} {osl : Array (Option Value)} {kV doc pm cdv ct : Value} (l : K.lookup f = some ⟨oc, od, .func (PySem.W.fnOf x qual (defArgs st) (defBody st) (defScope st) .none kV doc pm an cdv ct), osl⟩)
    (c : PySem.W.codeIn K cdv qual = true) (k : PySem.W.keepIn K (.ref f) = true) : Fun K x qual st f (PySem.W.fnOf x qual (defArgs st) (defBody st) (defScope st) .none kV doc pm an cdv ct) := ⟨⟨oc, od, kV, doc, pm, an, cdv, ct, osl, rfl, l, c⟩, k⟩
end
/-! ### expressions in short: the name that stands in the i-th slot -/
section
variable {X : Cx}
end
/-! ### tests -/
theorem iteF {A B : Prop} (h : B) : if false = true then A else B := by
  rw [if_neg Bool.false_ne_true]
  exact h
theorem iteT {A B : Prop} (h : A) : if true = true then A else B := by
  rw [if_pos rfl]
  exact h
/-! ### heaps -/
/-- all that was tracked is as it was -/
noncomputable def Same (H H' : Hp) : Prop := ∀ b o, H b = some o → H' b = some o
theorem Same.refl (H : Hp) : Same H H := fun _ _ h => h
theorem Same.trans {H H1 H2 : Hp} (a : Same H H1) (b : Same H1 H2) : Same H H2 := fun c o h => b c o (a c o h)
theorem Same.free {H H' : Hp} (e : Same H H') {l : Addr} (h : H' l = Option.none) : H l = Option.none := by
  cases q : H l with
  | none => rfl
  | some o =>
    rw [e l o q] at h
    cases h
theorem Same.seq {K : PySem.W.Frag} {H H' : Hp} {a : Addr} {xs : List V} (e : Same H H') (h : SqL K H a xs) : SqL K H' a xs := by
  rcases h with (h | ⟨o, h⟩) | h
  · exact .inl (.inl (e _ _ h))
  · exact .inl (.inr ⟨o, e _ _ h⟩)
  · exact .inr h
end L2
set_option Elab.async false
set_option linter.all false
set_option maxRecDepth 100000
set_option maxHeartbeats 4000000
namespace K53
open PySem
noncomputable def top (i : Nat) : Stmt := PySem.Challenge.pw_pickalike_k53_kinds_refused.main.body.getD i (.Pass ⟨0, 0, 0, 0⟩)
noncomputable def topC (i j : Nat) : Stmt := match top i with
  | .ClassDef (body := b) .. => b.getD j (.Pass ⟨0, 0, 0, 0⟩)
  | _ => .Pass ⟨0, 0, 0, 0⟩
end K53
set_option Elab.async false
set_option linter.all false
set_option maxRecDepth 100000
set_option maxHeartbeats 4000000
namespace K53
open PySem PySem.Spec PyProof.Rows L2
noncomputable abbrev E (P : Params) (k : Str) (t : Nat) (v : Value) : DictEntry := ⟨PyData.keyHash P k, .str k t, v⟩
noncomputable def KF (P : Params) : PySem.W.Frag :=
(nat_lit 2, ⟨.none, none, (.dict #[] 0), #[]⟩) ::
(nat_lit 3, ⟨(.type "dict"), none, (.dict #[E P "__name__" 165 (.str "law_pickalike_k53_kinds_refused" 488), E P "__doc__" 166 .none, E P "__package__" 167 .none, E P "__loader__" 168 (.builtin "__main__.__loader__#opaque"), E P "__spec__" 169 .none, E P "__annotations__" 170 (.ref 6), E P "__builtins__" 171 (.ref 4), E P "__file__" 173 (.str "/claim/cut.py" 172), E P "__cached__" 174 .none, E P "PickError" 206 (.ref 24), E P "NoWorld" 222 (.ref 37), E P "NoTongue" 238 (.ref 49), E P "NoSaying" 254 (.ref 61), E P "NoMore" 270 (.ref 73), E P "NoName" 295 (.ref 92), E P "NoLetter" 320 (.ref 111), E P "TooMany" 345 (.ref 130), E P "NoCount" 370 (.ref 149), E P "NoPoint" 395 (.ref 168), E P "NoRow" 420 (.ref 187), E P "is_whole" 429 (.ref 196), E P "need_count" 440 (.ref 203), E P "MOST_DEPTH" 442 (.int 6 441), E P "MOST_POWER" 446 (.int 600 445), E P "power" 456 (.ref 210), E P "sorted_once" 465 (.ref 217), E P "face_of" 471 (.ref 222), E P "kind_of" 477 (.ref 227), E P "kind" 487 (.ref 235), E P "_law_cell" 497 (.ref 242), E P "_law_names" 512 (.ref 249), E P "_law_bits" 522 (.ref 256), E P "_law_world" 528 (.ref 261), E P "_law_one" 534 (.ref 266), E P "_law_flags" 542 (.ref 273), E P "_law_same" 550 (.ref 280), E P "_law_is" 556 (.ref 285), E P "_law_number" 566 (.ref 292), E P "_law_count_due" 575 (.ref 299), E P "_law_row" 587 (.ref 306), E P "_law_told" 597 (.ref 313), E P "law" 612 (.ref 320)] 42), #[]⟩) ::
(nat_lit 15, ⟨(.type "tuple"), none, (.seq #[(.type "ValueError")] 0), #[]⟩) ::
(nat_lit 22, ⟨(.type "tuple"), none, (.seq #[] 0), #[]⟩) ::
(nat_lit 23, ⟨(.type "dict"), none, (.dict #[E P "__module__" 196 (.str "pickalike.errors" 187), E P "__firstlineno__" 200 (.int 2 199), E P "__static_attributes__" 201 (.ref 22), E P "__weakref__" 203 (.ref 25), E P "__doc__" 204 .none] 3), #[]⟩) ::
(nat_lit 24, ⟨(.type "type"), none, (.cls ⟨"PickError", [(.type "ValueError")], [(.ref 24), (.type "ValueError"), (.type "Exception"), (.type "BaseException"), (.type "object")], 23, "PickError", true, [], [(.ref 37), (.ref 49), (.ref 61), (.ref 73), (.ref 92), (.ref 111), (.ref 130), (.ref 149), (.ref 168), (.ref 187)], false, none, false⟩), #[(some (.ref 15)), none, (some (.str "PickError" 189)), (some (.str "PickError" 197)), (some (.builtin "ValueError.__new__")), (some (.bool true))]⟩) ::
(nat_lit 25, ⟨(.type "getset_descriptor"), none, (.fields #[(.str "__weakref__" 202), (.ref 24), (.builtin "ExceptionGroup.__weakref__"), .none]), #[]⟩) ::
(nat_lit 28, ⟨(.type "tuple"), none, (.seq #[(.ref 24)] 0), #[]⟩) ::
(nat_lit 35, ⟨(.type "tuple"), none, (.seq #[] 0), #[]⟩) ::
(nat_lit 36, ⟨(.type "dict"), none, (.dict #[E P "__module__" 214 (.str "pickalike.errors" 187), E P "__firstlineno__" 218 (.int 4 217), E P "__static_attributes__" 219 (.ref 35), E P "__doc__" 220 .none] 2), #[]⟩) ::
(nat_lit 37, ⟨(.type "type"), none, (.cls ⟨"NoWorld", [(.ref 24)], [(.ref 37), (.ref 24), (.type "ValueError"), (.type "Exception"), (.type "BaseException"), (.type "object")], 36, "NoWorld", true, [], [], false, none, false⟩), #[(some (.ref 28)), none, (some (.str "NoWorld" 207)), (some (.str "NoWorld" 215)), (some (.builtin "ValueError.__new__")), (some (.bool true))]⟩) ::
(nat_lit 40, ⟨(.type "tuple"), none, (.seq #[(.ref 24)] 0), #[]⟩) ::
(nat_lit 47, ⟨(.type "tuple"), none, (.seq #[] 0), #[]⟩) ::
(nat_lit 48, ⟨(.type "dict"), none, (.dict #[E P "__module__" 230 (.str "pickalike.errors" 187), E P "__firstlineno__" 234 (.int 6 233), E P "__static_attributes__" 235 (.ref 47), E P "__doc__" 236 .none] 2), #[]⟩) ::
(nat_lit 49, ⟨(.type "type"), none, (.cls ⟨"NoTongue", [(.ref 24)], [(.ref 49), (.ref 24), (.type "ValueError"), (.type "Exception"), (.type "BaseException"), (.type "object")], 48, "NoTongue", true, [], [], false, none, false⟩), #[(some (.ref 40)), none, (some (.str "NoTongue" 223)), (some (.str "NoTongue" 231)), (some (.builtin "ValueError.__new__")), (some (.bool true))]⟩) ::
(nat_lit 52, ⟨(.type "tuple"), none, (.seq #[(.ref 24)] 0), #[]⟩) ::
(nat_lit 59, ⟨(.type "tuple"), none, (.seq #[] 0), #[]⟩) ::
(nat_lit 60, ⟨(.type "dict"), none, (.dict #[E P "__module__" 246 (.str "pickalike.errors" 187), E P "__firstlineno__" 250 (.int 8 249), E P "__static_attributes__" 251 (.ref 59), E P "__doc__" 252 .none] 2), #[]⟩) ::
(nat_lit 61, ⟨(.type "type"), none, (.cls ⟨"NoSaying", [(.ref 24)], [(.ref 61), (.ref 24), (.type "ValueError"), (.type "Exception"), (.type "BaseException"), (.type "object")], 60, "NoSaying", true, [], [], false, none, false⟩), #[(some (.ref 52)), none, (some (.str "NoSaying" 239)), (some (.str "NoSaying" 247)), (some (.builtin "ValueError.__new__")), (some (.bool true))]⟩) ::
(nat_lit 64, ⟨(.type "tuple"), none, (.seq #[(.ref 24)] 0), #[]⟩) ::
(nat_lit 71, ⟨(.type "tuple"), none, (.seq #[] 0), #[]⟩) ::
(nat_lit 72, ⟨(.type "dict"), none, (.dict #[E P "__module__" 262 (.str "pickalike.errors" 187), E P "__firstlineno__" 266 (.int 10 265), E P "__static_attributes__" 267 (.ref 71), E P "__doc__" 268 .none] 2), #[]⟩) ::
(nat_lit 73, ⟨(.type "type"), none, (.cls ⟨"NoMore", [(.ref 24)], [(.ref 73), (.ref 24), (.type "ValueError"), (.type "Exception"), (.type "BaseException"), (.type "object")], 72, "NoMore", true, [], [], false, none, false⟩), #[(some (.ref 64)), none, (some (.str "NoMore" 255)), (some (.str "NoMore" 263)), (some (.builtin "ValueError.__new__")), (some (.bool true))]⟩) ::
(nat_lit 76, ⟨(.type "tuple"), none, (.seq #[(.ref 24)] 0), #[]⟩) ::
(nat_lit 83, ⟨(.type "tuple"), none, (.seq #[] 0), #[]⟩) ::
(nat_lit 85, ⟨(.type "tuple"), none, (.seq #[(.str "self" 286), (.str "name" 287)] 0), #[]⟩) ::
(nat_lit 86, ⟨(.type "tuple"), none, (.seq #[] 0), #[]⟩) ::
(nat_lit 88, ⟨(.type "code"), none, (.fields #[(.str "__init__" 283), (.str "NoName.__init__" 284), (.str "/claim/cut.py" 285), (.int 14 0), (.int 2 0), (.int 0 0), (.int 0 0), (.int 3 0), (.ref 83), (.bool true), (.int 181 0), (.ref 84), .none, (.ref 85), (.ref 86), (.ref 87), (.int 288 0), (.int 14 0), (.str "/claim/cut.py" 289)]), #[]⟩) ::
(nat_lit 89, ⟨(.type "function"), none, (.func (PySem.W.fnOf "__init__" "NoName.__init__" (defArgs (topC 6 0)) (defBody (topC 6 0)) (defScope (topC 6 0)) .none .none .none (.str "pickalike.errors" 187) none (.ref 88) .none)), #[]⟩) ::
(nat_lit 90, ⟨(.type "tuple"), none, (.seq #[(.str "name" 291)] 0), #[]⟩) ::
(nat_lit 91, ⟨(.type "dict"), none, (.dict #[E P "__module__" 278 (.str "pickalike.errors" 187), E P "__firstlineno__" 282 (.int 12 281), E P "__init__" 290 (.ref 89), E P "__static_attributes__" 292 (.ref 90), E P "__doc__" 293 .none] 2), #[]⟩) ::
(nat_lit 92, ⟨(.type "type"), none, (.cls ⟨"NoName", [(.ref 24)], [(.ref 92), (.ref 24), (.type "ValueError"), (.type "Exception"), (.type "BaseException"), (.type "object")], 91, "NoName", true, [], [], false, none, false⟩), #[(some (.ref 76)), none, (some (.str "NoName" 271)), (some (.str "NoName" 279)), (some (.builtin "ValueError.__new__")), (some (.bool true))]⟩) ::
(nat_lit 95, ⟨(.type "tuple"), none, (.seq #[(.ref 24)] 0), #[]⟩) ::
(nat_lit 102, ⟨(.type "tuple"), none, (.seq #[] 0), #[]⟩) ::
(nat_lit 104, ⟨(.type "tuple"), none, (.seq #[(.str "self" 311), (.str "letter" 312)] 0), #[]⟩) ::
(nat_lit 105, ⟨(.type "tuple"), none, (.seq #[] 0), #[]⟩) ::
(nat_lit 107, ⟨(.type "code"), none, (.fields #[(.str "__init__" 308), (.str "NoLetter.__init__" 309), (.str "/claim/cut.py" 310), (.int 19 0), (.int 2 0), (.int 0 0), (.int 0 0), (.int 3 0), (.ref 102), (.bool true), (.int 181 0), (.ref 103), .none, (.ref 104), (.ref 105), (.ref 106), (.int 313 0), (.int 19 0), (.str "/claim/cut.py" 314)]), #[]⟩) ::
(nat_lit 108, ⟨(.type "function"), none, (.func (PySem.W.fnOf "__init__" "NoLetter.__init__" (defArgs (topC 7 0)) (defBody (topC 7 0)) (defScope (topC 7 0)) .none .none .none (.str "pickalike.errors" 187) none (.ref 107) .none)), #[]⟩) ::
(nat_lit 109, ⟨(.type "tuple"), none, (.seq #[(.str "letter" 316)] 0), #[]⟩) ::
(nat_lit 110, ⟨(.type "dict"), none, (.dict #[E P "__module__" 303 (.str "pickalike.errors" 187), E P "__firstlineno__" 307 (.int 17 306), E P "__init__" 315 (.ref 108), E P "__static_attributes__" 317 (.ref 109), E P "__doc__" 318 .none] 2), #[]⟩) ::
(nat_lit 111, ⟨(.type "type"), none, (.cls ⟨"NoLetter", [(.ref 24)], [(.ref 111), (.ref 24), (.type "ValueError"), (.type "Exception"), (.type "BaseException"), (.type "object")], 110, "NoLetter", true, [], [], false, none, false⟩), #[(some (.ref 95)), none, (some (.str "NoLetter" 296)), (some (.str "NoLetter" 304)), (some (.builtin "ValueError.__new__")), (some (.bool true))]⟩) ::
(nat_lit 114, ⟨(.type "tuple"), none, (.seq #[(.ref 24)] 0), #[]⟩) ::
(nat_lit 121, ⟨(.type "tuple"), none, (.seq #[] 0), #[]⟩) ::
(nat_lit 123, ⟨(.type "tuple"), none, (.seq #[(.str "self" 336), (.str "many" 337)] 0), #[]⟩) ::
(nat_lit 124, ⟨(.type "tuple"), none, (.seq #[] 0), #[]⟩) ::
(nat_lit 126, ⟨(.type "code"), none, (.fields #[(.str "__init__" 333), (.str "TooMany.__init__" 334), (.str "/claim/cut.py" 335), (.int 24 0), (.int 2 0), (.int 0 0), (.int 0 0), (.int 3 0), (.ref 121), (.bool true), (.int 181 0), (.ref 122), .none, (.ref 123), (.ref 124), (.ref 125), (.int 338 0), (.int 24 0), (.str "/claim/cut.py" 339)]), #[]⟩) ::
(nat_lit 127, ⟨(.type "function"), none, (.func (PySem.W.fnOf "__init__" "TooMany.__init__" (defArgs (topC 8 0)) (defBody (topC 8 0)) (defScope (topC 8 0)) .none .none .none (.str "pickalike.errors" 187) none (.ref 126) .none)), #[]⟩) ::
(nat_lit 128, ⟨(.type "tuple"), none, (.seq #[(.str "many" 341)] 0), #[]⟩) ::
(nat_lit 129, ⟨(.type "dict"), none, (.dict #[E P "__module__" 328 (.str "pickalike.errors" 187), E P "__firstlineno__" 332 (.int 22 331), E P "__init__" 340 (.ref 127), E P "__static_attributes__" 342 (.ref 128), E P "__doc__" 343 .none] 2), #[]⟩) ::
(nat_lit 130, ⟨(.type "type"), none, (.cls ⟨"TooMany", [(.ref 24)], [(.ref 130), (.ref 24), (.type "ValueError"), (.type "Exception"), (.type "BaseException"), (.type "object")], 129, "TooMany", true, [], [], false, none, false⟩), #[(some (.ref 114)), none, (some (.str "TooMany" 321)), (some (.str "TooMany" 329)), (some (.builtin "ValueError.__new__")), (some (.bool true))]⟩) ::
(nat_lit 133, ⟨(.type "tuple"), none, (.seq #[(.ref 24)] 0), #[]⟩) ::
(nat_lit 140, ⟨(.type "tuple"), none, (.seq #[] 0), #[]⟩) ::
(nat_lit 142, ⟨(.type "tuple"), none, (.seq #[(.str "self" 361), (.str "told" 362)] 0), #[]⟩) ::
(nat_lit 143, ⟨(.type "tuple"), none, (.seq #[] 0), #[]⟩) ::
(nat_lit 145, ⟨(.type "code"), none, (.fields #[(.str "__init__" 358), (.str "NoCount.__init__" 359), (.str "/claim/cut.py" 360), (.int 29 0), (.int 2 0), (.int 0 0), (.int 0 0), (.int 3 0), (.ref 140), (.bool true), (.int 181 0), (.ref 141), .none, (.ref 142), (.ref 143), (.ref 144), (.int 363 0), (.int 29 0), (.str "/claim/cut.py" 364)]), #[]⟩) ::
(nat_lit 146, ⟨(.type "function"), none, (.func (PySem.W.fnOf "__init__" "NoCount.__init__" (defArgs (topC 9 0)) (defBody (topC 9 0)) (defScope (topC 9 0)) .none .none .none (.str "pickalike.errors" 187) none (.ref 145) .none)), #[]⟩) ::
(nat_lit 147, ⟨(.type "tuple"), none, (.seq #[(.str "told" 366)] 0), #[]⟩) ::
(nat_lit 148, ⟨(.type "dict"), none, (.dict #[E P "__module__" 353 (.str "pickalike.errors" 187), E P "__firstlineno__" 357 (.int 27 356), E P "__init__" 365 (.ref 146), E P "__static_attributes__" 367 (.ref 147), E P "__doc__" 368 .none] 2), #[]⟩) ::
(nat_lit 149, ⟨(.type "type"), none, (.cls ⟨"NoCount", [(.ref 24)], [(.ref 149), (.ref 24), (.type "ValueError"), (.type "Exception"), (.type "BaseException"), (.type "object")], 148, "NoCount", true, [], [], false, none, false⟩), #[(some (.ref 133)), none, (some (.str "NoCount" 346)), (some (.str "NoCount" 354)), (some (.builtin "ValueError.__new__")), (some (.bool true))]⟩) ::
(nat_lit 152, ⟨(.type "tuple"), none, (.seq #[(.ref 24)] 0), #[]⟩) ::
(nat_lit 159, ⟨(.type "tuple"), none, (.seq #[] 0), #[]⟩) ::
(nat_lit 161, ⟨(.type "tuple"), none, (.seq #[(.str "self" 386), (.str "point" 387)] 0), #[]⟩) ::
(nat_lit 162, ⟨(.type "tuple"), none, (.seq #[] 0), #[]⟩) ::
(nat_lit 164, ⟨(.type "code"), none, (.fields #[(.str "__init__" 383), (.str "NoPoint.__init__" 384), (.str "/claim/cut.py" 385), (.int 34 0), (.int 2 0), (.int 0 0), (.int 0 0), (.int 3 0), (.ref 159), (.bool true), (.int 181 0), (.ref 160), .none, (.ref 161), (.ref 162), (.ref 163), (.int 388 0), (.int 34 0), (.str "/claim/cut.py" 389)]), #[]⟩) ::
(nat_lit 165, ⟨(.type "function"), none, (.func (PySem.W.fnOf "__init__" "NoPoint.__init__" (defArgs (topC 10 0)) (defBody (topC 10 0)) (defScope (topC 10 0)) .none .none .none (.str "pickalike.errors" 187) none (.ref 164) .none)), #[]⟩) ::
(nat_lit 166, ⟨(.type "tuple"), none, (.seq #[(.str "point" 391)] 0), #[]⟩) ::
(nat_lit 167, ⟨(.type "dict"), none, (.dict #[E P "__module__" 378 (.str "pickalike.errors" 187), E P "__firstlineno__" 382 (.int 32 381), E P "__init__" 390 (.ref 165), E P "__static_attributes__" 392 (.ref 166), E P "__doc__" 393 .none] 2), #[]⟩) ::
(nat_lit 168, ⟨(.type "type"), none, (.cls ⟨"NoPoint", [(.ref 24)], [(.ref 168), (.ref 24), (.type "ValueError"), (.type "Exception"), (.type "BaseException"), (.type "object")], 167, "NoPoint", true, [], [], false, none, false⟩), #[(some (.ref 152)), none, (some (.str "NoPoint" 371)), (some (.str "NoPoint" 379)), (some (.builtin "ValueError.__new__")), (some (.bool true))]⟩) ::
(nat_lit 171, ⟨(.type "tuple"), none, (.seq #[(.ref 24)] 0), #[]⟩) ::
(nat_lit 178, ⟨(.type "tuple"), none, (.seq #[] 0), #[]⟩) ::
(nat_lit 180, ⟨(.type "tuple"), none, (.seq #[(.str "self" 411), (.str "row" 412)] 0), #[]⟩) ::
(nat_lit 181, ⟨(.type "tuple"), none, (.seq #[] 0), #[]⟩) ::
(nat_lit 183, ⟨(.type "code"), none, (.fields #[(.str "__init__" 408), (.str "NoRow.__init__" 409), (.str "/claim/cut.py" 410), (.int 39 0), (.int 2 0), (.int 0 0), (.int 0 0), (.int 3 0), (.ref 178), (.bool true), (.int 181 0), (.ref 179), .none, (.ref 180), (.ref 181), (.ref 182), (.int 413 0), (.int 39 0), (.str "/claim/cut.py" 414)]), #[]⟩) ::
(nat_lit 184, ⟨(.type "function"), none, (.func (PySem.W.fnOf "__init__" "NoRow.__init__" (defArgs (topC 11 0)) (defBody (topC 11 0)) (defScope (topC 11 0)) .none .none .none (.str "pickalike.errors" 187) none (.ref 183) .none)), #[]⟩) ::
(nat_lit 185, ⟨(.type "tuple"), none, (.seq #[(.str "row" 416)] 0), #[]⟩) ::
(nat_lit 186, ⟨(.type "dict"), none, (.dict #[E P "__module__" 403 (.str "pickalike.errors" 187), E P "__firstlineno__" 407 (.int 37 406), E P "__init__" 415 (.ref 184), E P "__static_attributes__" 417 (.ref 185), E P "__doc__" 418 .none] 2), #[]⟩) ::
(nat_lit 187, ⟨(.type "type"), none, (.cls ⟨"NoRow", [(.ref 24)], [(.ref 187), (.ref 24), (.type "ValueError"), (.type "Exception"), (.type "BaseException"), (.type "object")], 186, "NoRow", true, [], [], false, none, false⟩), #[(some (.ref 171)), none, (some (.str "NoRow" 396)), (some (.str "NoRow" 404)), (some (.builtin "ValueError.__new__")), (some (.bool true))]⟩) ::
(nat_lit 190, ⟨(.type "tuple"), none, (.seq #[] 0), #[]⟩) ::
(nat_lit 192, ⟨(.type "tuple"), none, (.seq #[(.str "thing" 426)] 0), #[]⟩) ::
(nat_lit 193, ⟨(.type "tuple"), none, (.seq #[] 0), #[]⟩) ::
(nat_lit 195, ⟨(.type "code"), none, (.fields #[(.str "is_whole" 423), (.str "is_whole" 424), (.str "/claim/cut.py" 425), (.int 43 0), (.int 1 0), (.int 0 0), (.int 0 0), (.int 3 0), (.ref 190), (.bool true), (.int 181 0), (.ref 191), .none, (.ref 192), (.ref 193), (.ref 194), (.int 427 0), (.int 43 0), (.str "/claim/cut.py" 428)]), #[]⟩) ::
(nat_lit 196, ⟨(.type "function"), none, (.func (PySem.W.fnOf "is_whole" "is_whole" (defArgs (top 13)) (defBody (top 13)) (defScope (top 13)) .none .none .none (.str "pickalike.worlds" 421) none (.ref 195) .none)), #[]⟩) ::
(nat_lit 197, ⟨(.type "tuple"), none, (.seq #[] 0), #[]⟩) ::
(nat_lit 199, ⟨(.type "tuple"), none, (.seq #[(.str "told" 435), (.str "least" 436), (.str "most" 437)] 0), #[]⟩) ::
(nat_lit 200, ⟨(.type "tuple"), none, (.seq #[] 0), #[]⟩) ::
(nat_lit 202, ⟨(.type "code"), none, (.fields #[(.str "need_count" 432), (.str "need_count" 433), (.str "/claim/cut.py" 434), (.int 46 0), (.int 3 0), (.int 0 0), (.int 0 0), (.int 3 0), (.ref 197), (.bool true), (.int 181 0), (.ref 198), .none, (.ref 199), (.ref 200), (.ref 201), (.int 438 0), (.int 46 0), (.str "/claim/cut.py" 439)]), #[]⟩) ::
(nat_lit 203, ⟨(.type "function"), none, (.func (PySem.W.fnOf "need_count" "need_count" (defArgs (top 15)) (defBody (top 15)) (defScope (top 15)) .none .none .none (.str "pickalike.checks" 430) none (.ref 202) .none)), #[]⟩) ::
(nat_lit 204, ⟨(.type "tuple"), none, (.seq #[] 0), #[]⟩) ::
(nat_lit 206, ⟨(.type "tuple"), none, (.seq #[(.str "many" 450), (.str "depth" 451), (.str "told" 452), (.str "step" 453)] 0), #[]⟩) ::
(nat_lit 207, ⟨(.type "tuple"), none, (.seq #[] 0), #[]⟩) ::
(nat_lit 209, ⟨(.type "code"), none, (.fields #[(.str "power" 447), (.str "power" 448), (.str "/claim/cut.py" 449), (.int 52 0), (.int 2 0), (.int 0 0), (.int 0 0), (.int 3 0), (.ref 204), (.bool true), (.int 181 0), (.ref 205), .none, (.ref 206), (.ref 207), (.ref 208), (.int 454 0), (.int 52 0), (.str "/claim/cut.py" 455)]), #[]⟩) ::
(nat_lit 210, ⟨(.type "function"), none, (.func (PySem.W.fnOf "power" "power" (defArgs (top 19)) (defBody (top 19)) (defScope (top 19)) .none .none .none (.str "pickalike.kinds" 443) none (.ref 209) .none)), #[]⟩) ::
(nat_lit 211, ⟨(.type "tuple"), none, (.seq #[] 0), #[]⟩) ::
(nat_lit 213, ⟨(.type "tuple"), none, (.seq #[(.str "told" 460), (.str "kept" 461), (.str "one" 462)] 0), #[]⟩) ::
(nat_lit 214, ⟨(.type "tuple"), none, (.seq #[] 0), #[]⟩) ::
(nat_lit 216, ⟨(.type "code"), none, (.fields #[(.str "sorted_once" 457), (.str "sorted_once" 458), (.str "/claim/cut.py" 459), (.int 57 0), (.int 1 0), (.int 0 0), (.int 0 0), (.int 3 0), (.ref 211), (.bool true), (.int 181 0), (.ref 212), .none, (.ref 213), (.ref 214), (.ref 215), (.int 463 0), (.int 57 0), (.str "/claim/cut.py" 464)]), #[]⟩) ::
(nat_lit 217, ⟨(.type "function"), none, (.func (PySem.W.fnOf "sorted_once" "sorted_once" (defArgs (top 20)) (defBody (top 20)) (defScope (top 20)) .none .none .none (.str "pickalike.kinds" 443) none (.ref 216) .none)), #[]⟩) ::
(nat_lit 218, ⟨(.type "tuple"), none, (.seq #[] 0), #[]⟩) ::
(nat_lit 221, ⟨(.type "code"), none, (.fields #[(.str "face_of" 466), (.str "face_of" 467), (.str "/claim/cut.py" 468), (.int 63 0), (.int 2 0), (.int 0 0), (.int 0 0), (.int 3 0), (.ref 218), (.bool true), (.int 181 0), (.ref 219), .none, .none, .none, (.ref 220), (.int 469 0), (.int 63 0), (.str "/claim/cut.py" 470)]), #[]⟩) ::
(nat_lit 222, ⟨(.type "function"), none, (.func (PySem.W.fnOf "face_of" "face_of" (defArgs (top 21)) (defBody (top 21)) (defScope (top 21)) .none .none .none (.str "pickalike.kinds" 443) none (.ref 221) .none)), #[]⟩) ::
(nat_lit 223, ⟨(.type "tuple"), none, (.seq #[] 0), #[]⟩) ::
(nat_lit 226, ⟨(.type "code"), none, (.fields #[(.str "kind_of" 472), (.str "kind_of" 473), (.str "/claim/cut.py" 474), (.int 74 0), (.int 3 0), (.int 0 0), (.int 0 0), (.int 3 0), (.ref 223), (.bool true), (.int 181 0), (.ref 224), .none, .none, .none, (.ref 225), (.int 475 0), (.int 74 0), (.str "/claim/cut.py" 476)]), #[]⟩) ::
(nat_lit 227, ⟨(.type "function"), none, (.func (PySem.W.fnOf "kind_of" "kind_of" (defArgs (top 22)) (defBody (top 22)) (defScope (top 22)) .none .none .none (.str "pickalike.kinds" 443) none (.ref 226) .none)), #[]⟩) ::
(nat_lit 228, ⟨(.type "tuple"), none, (.seq #[.none] 0), #[]⟩) ::
(nat_lit 229, ⟨(.type "tuple"), none, (.seq #[] 0), #[]⟩) ::
(nat_lit 231, ⟨(.type "tuple"), none, (.seq #[(.str "world" 481), (.str "depth" 482), (.str "row" 483), (.str "many" 484)] 0), #[]⟩) ::
(nat_lit 232, ⟨(.type "tuple"), none, (.seq #[] 0), #[]⟩) ::
(nat_lit 234, ⟨(.type "code"), none, (.fields #[(.str "kind" 478), (.str "kind" 479), (.str "/claim/cut.py" 480), (.int 79 0), (.int 3 0), (.int 0 0), (.int 0 0), (.int 3 0), (.ref 229), (.bool true), (.int 181 0), (.ref 230), .none, (.ref 231), (.ref 232), (.ref 233), (.int 485 0), (.int 79 0), (.str "/claim/cut.py" 486)]), #[]⟩) ::
(nat_lit 235, ⟨(.type "function"), none, (.func (PySem.W.fnOf "kind" "kind" (defArgs (top 23)) (defBody (top 23)) (defScope (top 23)) (.ref 228) .none .none (.str "pickalike.kinds" 443) none (.ref 234) .none)), #[]⟩) ::
(nat_lit 236, ⟨(.type "tuple"), none, (.seq #[] 0), #[]⟩) ::
(nat_lit 238, ⟨(.type "tuple"), none, (.seq #[(.str "_law_script" 493), (.str "_law_k" 494)] 0), #[]⟩) ::
(nat_lit 239, ⟨(.type "tuple"), none, (.seq #[] 0), #[]⟩) ::
(nat_lit 241, ⟨(.type "code"), none, (.fields #[(.str "_law_cell" 490), (.str "_law_cell" 491), (.str "/claim/cut.py" 492), (.int 86 0), (.int 2 0), (.int 0 0), (.int 0 0), (.int 3 0), (.ref 236), (.bool true), (.int 181 0), (.ref 237), .none, (.ref 238), (.ref 239), (.ref 240), (.int 495 0), (.int 86 0), (.str "/claim/cut.py" 496)]), #[]⟩) ::
(nat_lit 242, ⟨(.type "function"), none, (.func (PySem.W.fnOf "_law_cell" "_law_cell" (defArgs (top 25)) (defBody (top 25)) (defScope (top 25)) .none .none .none (.str "law_pickalike_k53_kinds_refused" 488) none (.ref 241) .none)), #[]⟩) ::
(nat_lit 243, ⟨(.type "tuple"), none, (.seq #[] 0), #[]⟩) ::
(nat_lit 245, ⟨(.type "tuple"), none, (.seq #[(.str "_law_cell_here" 501), (.str "_law_many" 502), (.str "_law_letters" 503), (.str "_law_sign" 504), (.str "_law_stem" 505), (.str "_law_found" 506), (.str "_law_k" 507), (.str "_law_other" 508), (.str "_law_name" 509)] 0), #[]⟩) ::
(nat_lit 246, ⟨(.type "tuple"), none, (.seq #[] 0), #[]⟩) ::
(nat_lit 248, ⟨(.type "code"), none, (.fields #[(.str "_law_names" 498), (.str "_law_names" 499), (.str "/claim/cut.py" 500), (.int 90 0), (.int 2 0), (.int 0 0), (.int 0 0), (.int 3 0), (.ref 243), (.bool true), (.int 181 0), (.ref 244), .none, (.ref 245), (.ref 246), (.ref 247), (.int 510 0), (.int 90 0), (.str "/claim/cut.py" 511)]), #[]⟩) ::
(nat_lit 249, ⟨(.type "function"), none, (.func (PySem.W.fnOf "_law_names" "_law_names" (defArgs (top 26)) (defBody (top 26)) (defScope (top 26)) .none .none .none (.str "law_pickalike_k53_kinds_refused" 488) none (.ref 248) .none)), #[]⟩) ::
(nat_lit 250, ⟨(.type "tuple"), none, (.seq #[] 0), #[]⟩) ::
(nat_lit 252, ⟨(.type "tuple"), none, (.seq #[(.str "_law_cell_here" 516), (.str "_law_size" 517), (.str "_law_found" 518), (.str "_law_k" 519)] 0), #[]⟩) ::
(nat_lit 253, ⟨(.type "tuple"), none, (.seq #[] 0), #[]⟩) ::
(nat_lit 255, ⟨(.type "code"), none, (.fields #[(.str "_law_bits" 513), (.str "_law_bits" 514), (.str "/claim/cut.py" 515), (.int 102 0), (.int 2 0), (.int 0 0), (.int 0 0), (.int 3 0), (.ref 250), (.bool true), (.int 181 0), (.ref 251), .none, (.ref 252), (.ref 253), (.ref 254), (.int 520 0), (.int 102 0), (.str "/claim/cut.py" 521)]), #[]⟩) ::
(nat_lit 256, ⟨(.type "function"), none, (.func (PySem.W.fnOf "_law_bits" "_law_bits" (defArgs (top 27)) (defBody (top 27)) (defScope (top 27)) .none .none .none (.str "law_pickalike_k53_kinds_refused" 488) none (.ref 255) .none)), #[]⟩) ::
(nat_lit 257, ⟨(.type "tuple"), none, (.seq #[] 0), #[]⟩) ::
(nat_lit 260, ⟨(.type "code"), none, (.fields #[(.str "_law_world" 523), (.str "_law_world" 524), (.str "/claim/cut.py" 525), (.int 108 0), (.int 3 0), (.int 0 0), (.int 0 0), (.int 3 0), (.ref 257), (.bool true), (.int 181 0), (.ref 258), .none, .none, .none, (.ref 259), (.int 526 0), (.int 108 0), (.str "/claim/cut.py" 527)]), #[]⟩) ::
(nat_lit 261, ⟨(.type "function"), none, (.func (PySem.W.fnOf "_law_world" "_law_world" (defArgs (top 28)) (defBody (top 28)) (defScope (top 28)) .none .none .none (.str "law_pickalike_k53_kinds_refused" 488) none (.ref 260) .none)), #[]⟩) ::
(nat_lit 262, ⟨(.type "tuple"), none, (.seq #[] 0), #[]⟩) ::
(nat_lit 265, ⟨(.type "code"), none, (.fields #[(.str "_law_one" 529), (.str "_law_one" 530), (.str "/claim/cut.py" 531), (.int 118 0), (.int 3 0), (.int 0 0), (.int 0 0), (.int 3 0), (.ref 262), (.bool true), (.int 181 0), (.ref 263), .none, .none, .none, (.ref 264), (.int 532 0), (.int 118 0), (.str "/claim/cut.py" 533)]), #[]⟩) ::
(nat_lit 266, ⟨(.type "function"), none, (.func (PySem.W.fnOf "_law_one" "_law_one" (defArgs (top 29)) (defBody (top 29)) (defScope (top 29)) .none .none .none (.str "law_pickalike_k53_kinds_refused" 488) none (.ref 265) .none)), #[]⟩) ::
(nat_lit 267, ⟨(.type "tuple"), none, (.seq #[] 0), #[]⟩) ::
(nat_lit 269, ⟨(.type "tuple"), none, (.seq #[(.str "_law_e" 538), (.str "_law_some" 539)] 0), #[]⟩) ::
(nat_lit 270, ⟨(.type "tuple"), none, (.seq #[] 0), #[]⟩) ::
(nat_lit 272, ⟨(.type "code"), none, (.fields #[(.str "_law_flags" 535), (.str "_law_flags" 536), (.str "/claim/cut.py" 537), (.int 124 0), (.int 1 0), (.int 0 0), (.int 0 0), (.int 3 0), (.ref 267), (.bool true), (.int 181 0), (.ref 268), .none, (.ref 269), (.ref 270), (.ref 271), (.int 540 0), (.int 124 0), (.str "/claim/cut.py" 541)]), #[]⟩) ::
(nat_lit 273, ⟨(.type "function"), none, (.func (PySem.W.fnOf "_law_flags" "_law_flags" (defArgs (top 30)) (defBody (top 30)) (defScope (top 30)) .none .none .none (.str "law_pickalike_k53_kinds_refused" 488) none (.ref 272) .none)), #[]⟩) ::
(nat_lit 274, ⟨(.type "tuple"), none, (.seq #[] 0), #[]⟩) ::
(nat_lit 276, ⟨(.type "tuple"), none, (.seq #[(.str "_law_thing" 546), (.str "_law_other" 547)] 0), #[]⟩) ::
(nat_lit 277, ⟨(.type "tuple"), none, (.seq #[] 0), #[]⟩) ::
(nat_lit 279, ⟨(.type "code"), none, (.fields #[(.str "_law_same" 543), (.str "_law_same" 544), (.str "/claim/cut.py" 545), (.int 127 0), (.int 2 0), (.int 0 0), (.int 0 0), (.int 3 0), (.ref 274), (.bool true), (.int 181 0), (.ref 275), .none, (.ref 276), (.ref 277), (.ref 278), (.int 548 0), (.int 127 0), (.str "/claim/cut.py" 549)]), #[]⟩) ::
(nat_lit 280, ⟨(.type "function"), none, (.func (PySem.W.fnOf "_law_same" "_law_same" (defArgs (top 31)) (defBody (top 31)) (defScope (top 31)) .none .none .none (.str "law_pickalike_k53_kinds_refused" 488) none (.ref 279) .none)), #[]⟩) ::
(nat_lit 281, ⟨(.type "tuple"), none, (.seq #[] 0), #[]⟩) ::
(nat_lit 284, ⟨(.type "code"), none, (.fields #[(.str "_law_is" 551), (.str "_law_is" 552), (.str "/claim/cut.py" 553), (.int 131 0), (.int 2 0), (.int 0 0), (.int 0 0), (.int 3 0), (.ref 281), (.bool true), (.int 181 0), (.ref 282), .none, .none, .none, (.ref 283), (.int 554 0), (.int 131 0), (.str "/claim/cut.py" 555)]), #[]⟩) ::
(nat_lit 285, ⟨(.type "function"), none, (.func (PySem.W.fnOf "_law_is" "_law_is" (defArgs (top 32)) (defBody (top 32)) (defScope (top 32)) .none .none .none (.str "law_pickalike_k53_kinds_refused" 488) none (.ref 284) .none)), #[]⟩) ::
(nat_lit 286, ⟨(.type "tuple"), none, (.seq #[] 0), #[]⟩) ::
(nat_lit 288, ⟨(.type "tuple"), none, (.seq #[(.str "_law_cell_here" 560), (.str "_law_least" 561), (.str "_law_greatest" 562), (.str "_law_some" 563)] 0), #[]⟩) ::
(nat_lit 289, ⟨(.type "tuple"), none, (.seq #[] 0), #[]⟩) ::
(nat_lit 291, ⟨(.type "code"), none, (.fields #[(.str "_law_number" 557), (.str "_law_number" 558), (.str "/claim/cut.py" 559), (.int 141 0), (.int 3 0), (.int 0 0), (.int 0 0), (.int 3 0), (.ref 286), (.bool true), (.int 181 0), (.ref 287), .none, (.ref 288), (.ref 289), (.ref 290), (.int 564 0), (.int 141 0), (.str "/claim/cut.py" 565)]), #[]⟩) ::
(nat_lit 292, ⟨(.type "function"), none, (.func (PySem.W.fnOf "_law_number" "_law_number" (defArgs (top 33)) (defBody (top 33)) (defScope (top 33)) .none .none .none (.str "law_pickalike_k53_kinds_refused" 488) none (.ref 291) .none)), #[]⟩) ::
(nat_lit 293, ⟨(.type "tuple"), none, (.seq #[] 0), #[]⟩) ::
(nat_lit 295, ⟨(.type "tuple"), none, (.seq #[(.str "_law_thing" 570), (.str "_law_least" 571), (.str "_law_greatest" 572)] 0), #[]⟩) ::
(nat_lit 296, ⟨(.type "tuple"), none, (.seq #[] 0), #[]⟩) ::
(nat_lit 298, ⟨(.type "code"), none, (.fields #[(.str "_law_count_due" 567), (.str "_law_count_due" 568), (.str "/claim/cut.py" 569), (.int 146 0), (.int 3 0), (.int 0 0), (.int 0 0), (.int 3 0), (.ref 293), (.bool true), (.int 181 0), (.ref 294), .none, (.ref 295), (.ref 296), (.ref 297), (.int 573 0), (.int 146 0), (.str "/claim/cut.py" 574)]), #[]⟩) ::
(nat_lit 299, ⟨(.type "function"), none, (.func (PySem.W.fnOf "_law_count_due" "_law_count_due" (defArgs (top 34)) (defBody (top 34)) (defScope (top 34)) .none .none .none (.str "law_pickalike_k53_kinds_refused" 488) none (.ref 298) .none)), #[]⟩) ::
(nat_lit 300, ⟨(.type "tuple"), none, (.seq #[] 0), #[]⟩) ::
(nat_lit 302, ⟨(.type "tuple"), none, (.seq #[(.str "_law_script" 579), (.str "_law_at" 580), (.str "_law_many" 581), (.str "_law_most" 582), (.str "_law_found" 583), (.str "_law_k" 584)] 0), #[]⟩) ::
(nat_lit 303, ⟨(.type "tuple"), none, (.seq #[] 0), #[]⟩) ::
(nat_lit 305, ⟨(.type "code"), none, (.fields #[(.str "_law_row" 576), (.str "_law_row" 577), (.str "/claim/cut.py" 578), (.int 152 0), (.int 4 0), (.int 0 0), (.int 0 0), (.int 3 0), (.ref 300), (.bool true), (.int 181 0), (.ref 301), .none, (.ref 302), (.ref 303), (.ref 304), (.int 585 0), (.int 152 0), (.str "/claim/cut.py" 586)]), #[]⟩) ::
(nat_lit 306, ⟨(.type "function"), none, (.func (PySem.W.fnOf "_law_row" "_law_row" (defArgs (top 35)) (defBody (top 35)) (defScope (top 35)) .none .none .none (.str "law_pickalike_k53_kinds_refused" 488) none (.ref 305) .none)), #[]⟩) ::
(nat_lit 307, ⟨(.type "tuple"), none, (.seq #[] 0), #[]⟩) ::
(nat_lit 309, ⟨(.type "tuple"), none, (.seq #[(.str "_law_script" 591), (.str "_law_world_here" 592), (.str "_law_depth" 593), (.str "_law_way" 594)] 0), #[]⟩) ::
(nat_lit 310, ⟨(.type "tuple"), none, (.seq #[] 0), #[]⟩) ::
(nat_lit 312, ⟨(.type "code"), none, (.fields #[(.str "_law_told" 588), (.str "_law_told" 589), (.str "/claim/cut.py" 590), (.int 157 0), (.int 3 0), (.int 0 0), (.int 0 0), (.int 3 0), (.ref 307), (.bool true), (.int 181 0), (.ref 308), .none, (.ref 309), (.ref 310), (.ref 311), (.int 595 0), (.int 157 0), (.str "/claim/cut.py" 596)]), #[]⟩) ::
(nat_lit 313, ⟨(.type "function"), none, (.func (PySem.W.fnOf "_law_told" "_law_told" (defArgs (top 36)) (defBody (top 36)) (defScope (top 36)) .none .none .none (.str "law_pickalike_k53_kinds_refused" 488) none (.ref 312) .none)), #[]⟩) ::
(nat_lit 314, ⟨(.type "tuple"), none, (.seq #[] 0), #[]⟩) ::
(nat_lit 316, ⟨(.type "tuple"), none, (.seq #[(.str "_law_script" 601), (.str "_law_world_here" 602), (.str "_law_depth" 603), (.str "_law_due" 604), (.str "_law_power" 605), (.str "_law_k" 606), (.str "_law_caught" 607), (.str "_law_found" 608), (.str "_law_e" 609)] 0), #[]⟩) ::
(nat_lit 317, ⟨(.type "tuple"), none, (.seq #[] 0), #[]⟩) ::
(nat_lit 319, ⟨(.type "code"), none, (.fields #[(.str "law" 598), (.str "law" 599), (.str "/claim/cut.py" 600), (.int 166 0), (.int 1 0), (.int 0 0), (.int 0 0), (.int 3 0), (.ref 314), (.bool true), (.int 181 0), (.ref 315), .none, (.ref 316), (.ref 317), (.ref 318), (.int 610 0), (.int 166 0), (.str "/claim/cut.py" 611)]), #[]⟩) ::
(nat_lit 320, ⟨(.type "function"), none, (.func (PySem.W.fnOf "law" "law" (defArgs (top 37)) (defBody (top 37)) (defScope (top 37)) .none .none .none (.str "law_pickalike_k53_kinds_refused" 488) none (.ref 319) .none)), #[]⟩) :: []
noncomputable def VW : Program := { PySem.Challenge.pw_pickalike_k53_kinds_refused with main := { PySem.Challenge.pw_pickalike_k53_kinds_refused.main with body := [top 1, top 2, top 3, top 4, top 5, top 6, top 7, top 8, top 9, top 10, top 11, top 13, top 15, top 16, top 18, top 19, top 20, top 21, top 22, top 25, top 26, top 27, top 28, top 29, top 30, top 31, top 32, top 33, top 34, top 35, top 36, top 37] } }
noncomputable def HK : PySem.W.Hook := PySem.W.kHook KF [2, 3, 15, 22, 23, 24, 25, 28, 35, 36, 37, 40, 47, 48, 49, 52, 59, 60, 61, 64, 71, 72, 73, 76, 83, 85, 86, 88, 89, 90, 91, 92, 95, 102, 104, 105, 107, 108, 109, 110, 111, 114, 121, 123, 124, 126, 127, 128, 129, 130, 133, 140, 142, 143, 145, 146, 147, 148, 149, 152, 159, 161, 162, 164, 165, 166, 167, 168, 171, 178, 180, 181, 183, 184, 185, 186, 187, 190, 192, 193, 195, 196, 197, 199, 200, 202, 203, 204, 206, 207, 209, 210, 211, 213, 214, 216, 217, 218, 221, 222, 223, 226, 227, 228, 229, 231, 232, 234, 235, 236, 238, 239, 241, 242, 243, 245, 246, 248, 249, 250, 252, 253, 255, 256, 257, 260, 261, 262, 265, 266, 267, 269, 270, 272, 273, 274, 276, 277, 279, 280, 281, 284, 285, 286, 288, 289, 291, 292, 293, 295, 296, 298, 299, 300, 302, 303, 305, 306, 307, 309, 310, 312, 313, 314, 316, 317, 319, 320] (fun _ => by kernel_rfl)
noncomputable def XT : Shared → Bool := fun s => PySem.W.xlAt VW [] s && PySem.W.recOk (PySem.W.RowW.records PySem.Challenge.rw_pickalike_k53_kinds_refused.row.toRowW) s
theorem look : PySem.W.OpenLaw.wellSaid PySem.Challenge.rw_pickalike_k53_kinds_refused = true := by decide +kernel
theorem left : PySem.W.LeftO PySem.Challenge.rw_pickalike_k53_kinds_refused.row.prog VW ["kind"] XT (PySem.W.Hook.obs HK) (PySem.W.Hook.val HK) 6490 := fun w => by kernel_rfl
end K53
set_option Elab.async false
set_option linter.all false
set_option maxRecDepth 100000
set_option maxHeartbeats 4000000
/-! An exception's class of one's own, with its own `__init__`, below another class of one's own. -/
namespace DX
open PySem PySem.Spec
open Sem (wp)
/-- an exception that has not flown yet -/
noncomputable abbrev exO (C t : Addr) (dx : Option Addr) : Obj := { cls := .ref C, dict := dx, data := .fields #[.ref t, .none, .none, .none, .bool false, .none] }
/-- a new exception stands at e -/
structure Made (h h' : Heap) (C e t : Addr) : Prop where
  keep : ∀ b o, h.get? b = some o → h'.get? b = some o
  new : h.objs.size ≤ e
  obj : h'.get? e = some (exO C t none)
section
variable {prog : Program} {w : World} {A : Around} {E : Value → Shared → Prop} {h : Heap} {g : Array GenState} {d : Drawn} {t : Nat} {os : OsState}
variable {nm q : Str} {C N : Addr} {bs bm bmB : List Value} {hdct : Bool} {sn : List Str} {sub : List Value} {ab : Bool} {col : Option Bool} {dd : Option Addr} {k0 k1 k2 k3 k5 : Option Value} {B Bn newId nid initId inN : String} {bmN : List Value}
theorem type_call_initU (Fn : ExcBaseFacts Bn newId inN bmN) (hBn : bmB.contains (.type Bn) = true) (F : ExcBaseFacts B nid initId bmB) (T : OwnTail h bmB bm) {mN : Str → Option Value} {rest : List Value} {fI : Addr} {oI : Obj} {Q : Fin → Shared → Prop}
    (hC : h.get? C = some (excClassObj nm q C N bs bm hdct sn sub ab col dd k0 k1 k2 k3 k5 newId)) (hn : h.Ns N mN) (hi : mN "__init__" = some (.ref fI)) (hfI : h.get? fI = some oI) (hfc : oI.cls = .type "function")
    (hq : ∀ h' e tp, Made h h' C e tp → wpAny (model prog w) A (call (.ref fI) (.ref e :: rest)) (fun r s' => r = .none ∧ Q (.done (.ret (.ref e))) s') E ⟨h', g, d, t, os⟩) (hrest : rest.length ≤ sizeLine) :
    wpAny (model prog w) A (Builtin.«type.__call__» ⟨.ref C :: rest, []⟩) Q E ⟨h, g, d, t, os⟩ := by
  repeat (first | with_reducible refine wpAny_loadPart_at hC ?_ | with_reducible refine wpAny_madeBy_exc hC ?_ | wp_step)
  refine codeAny_call_builtin_code (Code.quiet_builtin _ Fn.quiet) (wpAny_check_new_subU Fn hBn T hC (codeAny_exc_new_subU Fn hBn F T hC ?_ hrest))
  show wpAny _ _ _ _ _ _
  obtain ⟨o1, q1⟩ : ∃ o1 : Obj, o1 = { cls := .type "tuple", data := .seq rest.toArray } := ⟨_, rfl⟩
  obtain ⟨o2, q2⟩ : ∃ o2 : Obj, o2 = { cls := .ref C, data := .fields #[.ref h.objs.size, .none, .none, .none, .bool false, .none] } := ⟨_, rfl⟩
  rw [← q1, ← q2]
  have up : ∀ b o, h.get? b = some o → ((h.push o1).push o2).get? b = some o := fun b o hb => Heap.get?_push_of_some o2 (Heap.get?_push_of_some o1 hb)
  have hC₁ := up _ _ hC
  have hfI₁ := up _ _ hfI
  have hn₁ : ((h.push o1).push o2).Ns N mN := let ⟨o, es, ep, e, r⟩ := hn; ⟨o, es, ep, up _ _ e, r⟩
  have hget : ((h.push o1).push o2).get? (h.objs.size + 1) = some o2 := by subst q1 q2; heap_get
  have hcC : (Value.ref C :: bm).contains (.ref C) = true := by simp
  have T₁ := T.keeps (h' := (h.push o1).push o2) up
  have c2 : o2.cls = .ref C := by subst q2; rfl
  unfold isInstance
  repeat (first | with_reducible refine wpAny_loadPart_at hget ?_ | (simp only [c2]; with_reducible refine wpAny_isSubtype_exc hC₁ ?_; rw [hcC]) | wp_step)
  rw [c2]
  refine wpAny_typeLookup_tail hC₁ hn₁ T₁ F.mroIs F.init.lookup ?_
  rw [hi]
  refine wpAny_holding (wpAny_bind ?_)
  unfold bindSpecial
  refine wpAny_bind (wpAny_typeOf (T := "function") ⟨_, hfI₁, hfc⟩ ?_)
  rw [if_pos (by decide)]
  have made : Made h ((h.push o1).push o2) C (h.objs.size + 1) h.objs.size := ⟨up, Nat.le_succ _, by rw [hget, q2]⟩
  refine wpAny_pure (wpAny_bind (wpAny_mono (hq _ _ _ made) (fun r s' hr => ?_) fun _ _ x => x))
  obtain ⟨rfl, hQ⟩ := hr
  wp_walk
  exact hQ
/-- the class called -/
theorem call_initU (Fn : ExcBaseFacts Bn newId inN bmN) (hBn : bmB.contains (.type Bn) = true) (F : ExcBaseFacts B nid initId bmB) (T : OwnTail h bmB bm) {mN : Str → Option Value} {rest : List Value} {fI : Addr} {oI : Obj} {Q : Value → Shared → Prop}
    (hC : h.get? C = some (excClassObj nm q C N bs bm hdct sn sub ab col dd k0 k1 k2 k3 k5 newId)) (hn : h.Ns N mN) (hi : mN "__init__" = some (.ref fI)) (hfI : h.get? fI = some oI) (hfc : oI.cls = .type "function")
    (hq : ∀ h' e tp, Made h h' C e tp → wpAny (model prog w) (A.under (.builtin "type.__call__" ⟨.ref C :: rest, []⟩)) (call (.ref fI) (.ref e :: rest)) (fun r s' => r = .none ∧ Q (.ref e) s') E ⟨h', g, d, t, os⟩) (hrest : rest.length ≤ sizeLine) :
    wpAny (model prog w) A (call (.ref C) rest) Q E ⟨h, g, d, t, os⟩ := by
  have f1 := tc_lookup; have f2 := tc_bind (.ref C); have hT : (⟨h, g, d, t, os⟩ : Shared).TypeIs (.ref C) "type" := ⟨_, hC, rfl⟩
  refine wpAny_call (codeAny_of_tree ?_); show wpAny _ _ (callAny (.ref C) _) _ _ _
  repeat (any_goals (first | assumption | with_reducible refine wpAny_loadPart_at hC ?_ | wp_step))
  exact ⟨rfl, codeAny_call_builtin_at (Code.quiet_builtin _ (by decide +kernel)) entry_typeCall (wpAny_check_type_call_sub hC (type_call_initU Fn hBn F T hC hn hi hfI hfc (fun h' e tp hm => hq h' e tp hm) hrest))⟩
end
section
variable {prog : Program} {w : World} {A : Around} {E : Value → Shared → Prop} {s : Shared} {env : Env}
variable {nm q : Str} {C N : Addr} {bs bm bmB : List Value} {hdct : Bool} {sn : List Str} {sub : List Value} {ab : Bool} {col : Option Bool} {dd : Option Addr} {k0 k1 k2 k3 k5 : Option Value} {B Bn newId nid initId inN : String} {bmN : List Value}
theorem raiseStmt_any {x : Sem Value} {Q : Flow → Shared → Prop} (hbase : bm.contains (.type "BaseException") = true) (hh : A.handled = none)
    (h : wpAny (model prog w) A x (fun v s₁ => ∃ e t dx, v = .ref e ∧ s₁.heap.get? C = some (excClassObj nm q C N bs bm hdct sn sub ab col dd k0 k1 k2 k3 k5 newId) ∧ s₁.heap.get? e = some (exO C t dx) ∧ E (.ref e) s₁) E s) : wpAny (model prog w) A (raiseStmt env (some x) none) Q E s := by
  have hcB : (Value.ref C :: bm).contains (.type "BaseException") = true := by simp only [List.contains_cons, hbase, Bool.or_true]
  unfold raiseStmt
  refine wpAny_bind (wpAny_mono h (fun v s₁ h₁ => ?_) fun _ _ x => x)
  obtain ⟨e, t, dx, rfl, hC, he, hE⟩ := h₁
  obtain ⟨hp, g, d, tk, os⟩ := s₁
  repeat (first | with_reducible refine wpAny_loadPart_at he ?_ | with_reducible refine wpAny_loadPart_at hC ?_ | (with_reducible refine wpAny_isSubtype_exc hC ?_; rw [hcB]) | wp_step)
  exact wpAny_raiseNew_none hh hE
end
end DX
set_option Elab.async false
set_option linter.all false
set_option maxRecDepth 100000
set_option maxHeartbeats 4000000
/-! An exception in flight: a frame is left, or noted; what it does to the heap, the exception's dict with it. -/
namespace DX
open PySem PySem.Spec
noncomputable abbrev frA (l : List Env) : List Addr := l.filterMap (·.frame)
/-- behind one entry: T its address, fl the flight's field -/
structure NewEnt (fs : List Addr) (e : Addr) (oe : Obj) (vs : Array Value) (fl : Value) (h h' : Heap) : Prop where
  keep : ∀ b o, h.get? b = some o → b ≠ e → b ∉ fs → h'.get? b = some o
  slot : ∀ b o, h.get? b = some o → b ≠ e → ∃ sl, h'.get? b = some { o with slots := sl }
  exc : ∃ T oT ts, h.objs.size ≤ T ∧ T ≠ e ∧ h'.get? e = some { oe with data := .fields (vs.setIfInBounds 1 (.ref T)) } ∧ h'.get? T = some oT ∧ oT.data = .fields ts ∧ ts[3]? = some fl
section
variable {M : Model} {A : Around} {E : Value → Shared → Prop} {s : Shared}
theorem map_fields {o : Obj} {vs : Array Value} (hd : o.data = .fields vs) (f : Array Value → Array Value) : Obj.mapFields f o = { o with data := .fields (f vs) } := by
  obtain ⟨c, d, dt, sl⟩ := o
  obtain rfl : dt = .fields vs := hd
  rfl
theorem ent_note {base : Heap} {env : Env} {outer : List Env} {L e : Addr} {oe : Obj} {vs : Array Value} {head : Value} {hadNext : Bool} {Q : Unit → Shared → Prop} (hfr : A.frames = some (env :: outer)) (hl : s.heap.FunFrames base (env :: outer)) (hf : env.frame = some L)
    (he : s.heap.get? e = some oe) (hd : oe.data = .fields vs) (hsz : 1 < vs.size) (h : ∀ h', NewEnt (frA (env :: outer)) e oe vs (rawInt L) s.heap h' → Q () { s with heap := h' }) :
    wpAny M A (do let a ← frameOf env; let pl ← entryPlaceOf L hadNext; let b ← EntryCells.newEntry head a .none (rawInt L) .none pl; setField (.ref e) 1 b) Q E s := by
  have hene : e ∉ frA (env :: outer) := fun hm => by
    obtain ⟨_, o, ho, hnf⟩ := hl.mem hm
    rw [he] at ho
    exact hnf vs ((Option.some.inj ho) ▸ hd)
  refine wpAny_bind (wpAny_frameOf_fun hfr hl hf fun h₁ hs₁ => wpAny_bind (wpAny_entryPlaceOf fun pl hpl => ?_))
  unfold EntryCells.newEntry newFields
  refine wpAny_bind (wpAny_newObj_type ?_ (hpl.sizeOk5 _ _ _ _ _))
  obtain ⟨oT, qT⟩ : ∃ oT : Obj, oT = { cls := .type "traceback", dict := none, data := .fields ([head, .ref L, .none, rawInt L, .none] ++ (if pl.isEmpty then List.replicate 6 Value.none else pl)).toArray } := ⟨_, rfl⟩
  rw [← qT]
  have nf : oT.isFreed = false := by rw [qT]; rfl
  have he₁ : h₁.get? e = some oe := (hs₁.2.1 e hene).trans he
  have he₂ := Heap.get?_push_of_some oT he₁
  refine wpAny_setField he₂ hd hsz (h _ ?_)
  have hTe : h₁.objs.size ≠ e := Nat.ne_of_gt (Heap.lt_size he₁)
  have he₃ := Heap.get?_update_self (Obj.mapFields (·.setIfInBounds 1 (Value.ref h₁.objs.size))) he₂ (Obj.isFreed_of_fields (Obj.data_mapFields hd _))
  have up : ∀ b o, b ≠ e → h₁.get? b = some o → ((h₁.push oT).update e (Obj.mapFields (·.setIfInBounds 1 (Value.ref h₁.objs.size)))).get? b = some o := fun b o hbe hb => by
    rw [Heap.get?_update_other _ _ (Ne.symm hbe)]
    exact Heap.get?_push_of_some _ hb
  refine ⟨fun b o hb hbe hbf => up b o hbe ((hs₁.2.1 b hbf).trans hb), fun b o hb hbe => ?_, ⟨h₁.objs.size, oT, ([head, .ref L, .none, rawInt L, .none] ++ (if pl.isEmpty then List.replicate 6 Value.none else pl)).toArray, ?_, hTe, by rw [he₃, map_fields hd], ?_, by rw [qT], ?_⟩⟩
  · obtain ⟨sl, hs⟩ := hs₁.2.2 b o hb
    exact ⟨sl, up b _ hbe hs⟩
  · exact Nat.le_of_eq hs₁.1.symm
  · rw [Heap.get?_update_other _ _ (Ne.symm hTe)]
    exact Heap.get?_push_size h₁ nf
  · first | (simp; done) | (rcases hpl with rfl | ⟨_, _, _, _, _, _, _, rfl⟩ <;> simp)
/-- in flight: the exception, its dict, its newest entry -/
noncomputable def Fly (e C : Addr) (dx : Option Addr) (T : Addr) (h : Heap) : Prop :=
  ∃ oe vs oT ts, h.get? e = some oe ∧ oe.cls = .ref C ∧ oe.dict = dx ∧ oe.data = .fields vs ∧ vs[1]? = some (.ref T) ∧ T ≠ e ∧ h.get? T = some oT ∧ oT.data = .fields ts ∧ ts[3]? = some .none
/-- a frame noted: all but the named stands as it stood, the frames up to their slots -/
structure Left (fs no : List Addr) (h h' : Heap) : Prop where
  keep : ∀ b o, h.get? b = some o → b ∉ no → b ∉ fs → h'.get? b = some o
  slot : ∀ b o, h.get? b = some o → b ∉ no → ∃ sl, h'.get? b = some { o with slots := sl }
theorem ent_fly {base : Heap} {env : Env} {outer : List Env} {L e C : Addr} {dx : Option Addr} {oe : Obj} {vs : Array Value} {head : Value} {hadNext : Bool} {Q : Unit → Shared → Prop} (hfr : A.frames = some (env :: outer)) (hl : s.heap.FunFrames base (env :: outer)) (hf : env.frame = some L)
    (he : s.heap.get? e = some oe) (hc : oe.cls = .ref C) (hx : oe.dict = dx) (hd : oe.data = .fields vs) (hsz : 1 < vs.size) (h : ∀ h' T, Left (frA (env :: outer)) [e] s.heap h' → s.heap.objs.size ≤ T → Fly e C dx T h' → Q () { s with heap := h' }) :
    wpAny M A (do let a ← frameOf env; let pl ← entryPlaceOf L hadNext; let b ← EntryCells.newEntry head a .none (rawInt L) .none pl; setField (.ref e) 1 b) (fun _ s' => wpAny M A (setFlight (.ref e) none) Q E s') E s := by
  refine ent_note hfr hl hf he hd hsz fun h₁ ne => ?_
  obtain ⟨T, oT, ts, t0, tn, e1, e2, dT, f3⟩ := ne.exc
  have d1 : ({ oe with data := .fields (vs.setIfInBounds 1 (.ref T)) } : Obj).data = .fields (vs.setIfInBounds 1 (.ref T)) := rfl
  have g1 : (vs.setIfInBounds 1 (Value.ref T))[1]? = some (.ref T) := by simp [hsz]
  unfold setFlight
  refine wpAny_bind (wpAny_field e1 d1 g1 ?_)
  rw [if_pos (show (Value.ref T != Value.none) = true from by simp)]
  have l3 := (Array.getElem?_eq_some_iff.mp f3).1
  refine wpAny_setField e2 dT l3 (h _ T ⟨fun b o hb hn hfs => ?_, fun b o hb hn => ?_⟩ t0 ⟨{ oe with data := .fields (vs.setIfInBounds 1 (.ref T)) }, _, _, _, ?_, hc, hx, d1, g1, tn, Heap.get?_update_self _ e2 (Obj.isFreed_of_fields (Obj.data_mapFields dT _)), Obj.data_mapFields dT _, ?_⟩)
  · have hbT : T ≠ b := Nat.ne_of_gt (Nat.lt_of_lt_of_le (Heap.lt_size hb) t0)
    rw [Heap.get?_update_other _ _ hbT]
    exact ne.keep b o hb (fun z => hn (by simp [z])) hfs
  · have hbT : T ≠ b := Nat.ne_of_gt (Nat.lt_of_lt_of_le (Heap.lt_size hb) t0)
    obtain ⟨sl, hs⟩ := ne.slot b o hb (fun z => hn (by simp [z]))
    exact ⟨sl, by rw [Heap.get?_update_other _ _ hbT]; exact hs⟩
  · show (Heap.update _ _ _).get? e = _
    rw [Heap.get?_update_other _ _ tn]
    exact e1
  · simp [l3]
/-- the first frame that is left -/
theorem note_first {base : Heap} {env : Env} {outer : List Env} {L e C t : Addr} {dx : Option Addr} {Q : Unit → Shared → Prop} (hfr : A.frames = some (env :: outer)) (hl : s.heap.FunFrames base (env :: outer)) (hf : env.frame = some L) (he : s.heap.get? e = some (exO C t dx))
    (h : ∀ h' T, Left (frA (env :: outer)) [e] s.heap h' → s.heap.objs.size ≤ T → Fly e C dx T h' → Q () { s with heap := h' }) : wpAny M A (noteFrame (.ref e) env) (fun _ s' => wpAny M A (setFlight (.ref e) none) Q E s') E s := by
  unfold noteFrame
  simp only [hf]
  refine wpAny_bind (wpAny_field he rfl (x := .none) rfl ?_)
  rw [if_neg (by decide)]
  exact ent_fly hfr hl hf he rfl rfl rfl (by show 1 < 6; decide) h
/-- the next one -/
theorem note_next {base : Heap} {env : Env} {outer : List Env} {L e C T : Addr} {dx : Option Addr} {Q : Unit → Shared → Prop} (hfr : A.frames = some (env :: outer)) (hl : s.heap.FunFrames base (env :: outer)) (hf : env.frame = some L) (hy : Fly e C dx T s.heap)
    (h : ∀ h' T', Left (frA (env :: outer)) [e, T] s.heap h' → s.heap.objs.size ≤ T' → Fly e C dx T' h' → Q () { s with heap := h' }) : wpAny M A (noteFrame (.ref e) env) (fun _ s' => wpAny M A (setFlight (.ref e) none) Q E s') E s := by
  obtain ⟨oe, vs, oT, ts, he, hc, hx, hd, h1, hTe, hT, hdT, h3⟩ := hy
  unfold noteFrame
  simp only [hf]
  refine wpAny_bind (wpAny_field he hd h1 ?_)
  rw [if_pos (show (Value.ref T != Value.none) = true from by simp)]
  refine wpAny_bind (wpAny_field hT hdT h3 ?_)
  rw [if_neg (show ¬ ((Value.none == rawInt L) = true) from by simp [rawInt])]
  refine wpAny_bind (wpAny_setField hT hdT (Array.getElem?_eq_some_iff.mp h3).1 ?_)
  have other : ∀ b, b ≠ T → (s.heap.update T (Obj.mapFields (·.setIfInBounds 3 Value.none))).get? b = s.heap.get? b := fun b hb => Heap.get?_update_other _ _ (Ne.symm hb)
  have noR : ∀ b o, s.heap.get? b = some o → (∀ vs, o.data ≠ .fields vs) → b ≠ T := fun b o hb hnf z => by
    rw [z, hT] at hb
    exact hnf ts ((Option.some.inj hb) ▸ hdT)
  refine ent_fly hfr (hl.of_keeps fun b o hb hnf => ⟨o, (other b (noR b o hb hnf)).trans hb, rfl⟩) hf ((other e (Ne.symm hTe)).trans he) hc hx hd (Array.getElem?_eq_some_iff.mp h1).1 fun h' T' lf t0 fy => h h' T' ⟨fun b o hb hn hfs => ?_, fun b o hb hn => ?_⟩ (by rw [← Heap.size_update]; exact t0) fy
  · have n1 : b ≠ e := fun z => hn (by simp [z])
    have n2 : b ≠ T := fun z => hn (by simp [z])
    exact lf.keep b o ((other b n2).trans hb) (by simp [n1]) hfs
  · have n1 : b ≠ e := fun z => hn (by simp [z])
    have n2 : b ≠ T := fun z => hn (by simp [z])
    exact lf.slot b o ((other b n2).trans hb) (by simp [n1])
end
end DX
set_option Elab.async false
set_option linter.all false
set_option maxRecDepth 100000
set_option maxHeartbeats 4000000
/-! How an exception lies behind a call: the hand layer's CX. -/
namespace DX
open PySem PySem.Spec PyProof.Rows L2
noncomputable def IsExc (a C : Addr) (dx : Option Addr) : Heap → Prop := fun h => ∃ oe vs, h.get? a = some oe ∧ oe.cls = .ref C ∧ oe.dict = dx ∧ oe.data = .fields vs
noncomputable abbrev XO (a C : Addr) (dx : Option Addr) : HO := .ext (IsExc a C dx)
/-- just made, or in flight -/
noncomputable def Fl (e C : Addr) (dx : Option Addr) : Option Addr → Heap → Prop
  | none, h => ∃ t, h.get? e = some (exO C t dx)
  | some T, h => Fly e C dx T h
theorem Fly.is {e C T : Addr} {dx : Option Addr} {h : Heap} (f : Fly e C dx T h) : IsExc e C dx h := by
  obtain ⟨oe, vs, _, _, h1, h2, h3, h4, _⟩ := f
  exact ⟨oe, vs, h1, h2, h3, h4⟩
theorem isx_ok {P : Program} {w : World} {H : Hp} {h : Heap} {a C : Addr} {dx : Option Addr} (x : IsExc a C dx h) : ObjOk P w H h a (XO a C dx) := by
  refine ⟨x, ?_, fun h1 h2 q k => ?_⟩
  · obtain ⟨oe, _, h1, _⟩ := x
    exact ⟨oe, h1⟩
  · obtain ⟨oe, vs, h1, h3⟩ := q
    exact ⟨oe, vs, k oe h1, h3⟩
section
variable {M : Model} {A : Around} {E : Value → Shared → Prop} {s : Shared}
theorem note_any {base : Heap} {env : Env} {outer : List Env} {L e C : Addr} {dx To : Option Addr} {Q : Unit → Shared → Prop} (hfr : A.frames = some (env :: outer)) (hl : s.heap.FunFrames base (env :: outer)) (hf : env.frame = some L) (hy : Fl e C dx To s.heap)
    (h : ∀ h' T', Left (frA (env :: outer)) (e :: To.toList) s.heap h' → s.heap.objs.size ≤ T' → Fly e C dx T' h' → Q () { s with heap := h' }) : wpAny M A (noteFrame (.ref e) env) (fun _ s' => wpAny M A (setFlight (.ref e) none) Q E s') E s := by
  cases To with
  | none =>
    obtain ⟨t, he⟩ := hy
    exact note_first hfr hl hf he h
  | some T => exact note_next hfr hl hf hy h
end
/-- an exception on its way, as seen from an earlier state -/
structure Fled (P : Program) (w : World) (fs ex : List Addr) (H : Hp) (s : Shared) (E : XK) (e C : Addr) (dx To : Option Addr) (H' : Hp) (s' : Shared) : Prop where
  os : s'.os = s.os
  bare : AllBare s'.gens
  un : Un fs ex H H' s.heap s'.heap
  hok : HOk P w H' s'.heap
  fl : Fl e C dx To s'.heap
  newE : s.heap.objs.size ≤ e
  newT : ∀ T ∈ To.toList, s.heap.objs.size ≤ T
  trk : H' e = some (XO e C dx)
  free : ∀ T ∈ To.toList, H' T = none
  wish : E (.ref e) dx H'
noncomputable def CXX (P : Program) (w : World) : CXT := fun outer H s E v s' => ∃ e C dx T H', v = .ref e ∧ Fled P w (frs outer) [] H s E e C dx (some T) H' s'
/-- the heap behind a noted frame -/
theorem Fled.left {P : Program} {w : World} {fs fr ex : List Addr} {H H' : Hp} {s s' : Shared} {E : XK} {e C T' : Addr} {dx To : Option Addr} {h2 : Heap} (f : Fled P w fs ex H s E e C dx To H' s') (lf : Left fr (e :: To.toList) s'.heap h2) (t0 : s'.heap.objs.size ≤ T') (fy : Fly e C dx T' h2)
    (hfr : ∀ b ∈ fr, H' b = none) (hold : ∀ b ∈ fr, b ∈ fs ∨ s.heap.objs.size ≤ b) (hsz : s.heap.objs.size ≤ s'.heap.objs.size) : Fled P w fs ex H s E e C dx (some T') H' { s' with heap := h2 } := by
  have old : ∀ b o, s.heap.get? b = some o → b ∉ e :: To.toList := fun b o hb hm => by
    have lt := Heap.lt_size hb
    rcases List.mem_cons.mp hm with z | z
    · exact absurd (Nat.lt_of_lt_of_le lt (z ▸ f.newE)) (Nat.lt_irrefl _)
    · exact absurd (Nat.lt_of_lt_of_le lt (f.newT b z)) (Nat.lt_irrefl _)
  refine ⟨f.os, f.bare, ⟨fun b o hb hn hf hx => ?_, fun b o hb hn hf hx => ?_, f.un.free, fun b o hb hx => ?_, f.un.tups, f.un.frzs, f.un.tbls⟩, fun a o ha => ?_, fy, f.newE, fun T hT => ?_, f.trk, fun T hT => ?_, f.wish⟩
  · refine lf.keep b o (f.un.keep b o hb hn hf hx) (old b o hb) fun hm => ?_
    rcases hold b hm with z | z
    · exact hf z
    · exact absurd (Nat.lt_of_lt_of_le (Heap.lt_size hb) z) (Nat.lt_irrefl _)
  · obtain ⟨sl, q⟩ := f.un.slot b o hb hn hf hx
    obtain ⟨sl2, q2⟩ := lf.slot b _ q (old b o hb)
    exact ⟨sl2, q2⟩
  · obtain ⟨o', q⟩ := f.un.there b o hb hx
    obtain ⟨sl2, q2⟩ := lf.slot b _ q (old b o hb)
    exact ⟨_, q2⟩
  · by_cases z : a = e
    · subst z
      rw [f.trk] at ha
      obtain rfl := Option.some.inj ha
      exact isx_ok fy.is
    · refine (f.hok a o ha).stay (fun b u hb q => ?_) (fun _ q => q) fun _ _ q => q
      have tr : H' b ≠ none := by
        rcases hb with rfl | hb
        · rw [ha]; intro z; cases z
        · rw [hb]; intro z; cases z
      refine lf.keep b u q (fun hm => ?_) fun hm => tr (hfr b hm)
      rcases List.mem_cons.mp hm with y | y
      · rcases hb with rfl | hb
        · exact z y
        · rw [y, f.trk] at hb; cases hb
      · exact tr (f.free b y)
  · obtain rfl : T = T' := by simpa using hT
    exact Nat.le_trans hsz t0
  · obtain rfl : T = T' := by simpa using hT
    exact f.hok.fresh t0
end DX
set_option Elab.async false
set_option linter.all false
set_option maxRecDepth 100000
set_option maxHeartbeats 4000000
/-! What is asked of a caught exception: its class, a field. -/
namespace DX
open PySem PySem.Spec PyProof.Rows
open Sem (wp)
section
variable {prog : Program} {w : World} {A : Around} {E : Value → Shared → Prop} {s : Shared} {K : PySem.W.Frag} {x C : Addr} {ox : Obj} {od : Option Obj} {name : Str}
/-- the check of the slot's first argument -/
theorem check_ga {M : Model} {nameV : Value} {Q : Unit → Shared → Prop} (X : K.In s.heap) (I : PySem.W.InstAt s.heap x ox C od) (hm : PySem.W.mroIn K C (.type "BaseException") = some true) (hq : Q () s) : wpAny M A (checkBuiltinCall "BaseException.__getattribute__" ⟨[.ref x, nameV], []⟩) Q E s := by
  have hk : builtinKind "BaseException.__getattribute__" = some .slot := by decide +kernel
  have hsp : splitId "BaseException.__getattribute__" = some ("BaseException", "__getattribute__") := by decide +kernel
  have ha := F.args_bexc_ga (.ref x) nameV
  have L1 := I.type (M := M)
  have L2 := PySem.W.looks_mroIn (M := M) X hm
  simp only [checkBuiltinCall, hk, hsp]
  have L : PySem.W.Looks M s.heap (isInstance (.ref x) (.type "BaseException")) true := L1.andThen L2
  refine wpAny_bind (L.here ?_)
  obtain ⟨h, g, d, t, os⟩ := s
  repeat (any_goals (first | assumption | wp_step))
theorem entry_value {v : Value} {tk : Tok} {Q : Fin → Shared → Prop} (X : K.In s.heap) (I : PySem.W.InstAt s.heap x ox C od) (hf : PySem.W.findObj K C od name = some (.value v)) (h : Q (.done (.ret v)) s) : wpAny (model prog w) A (Builtin.«object.__getattribute__» ⟨[.ref x, .str name tk], []⟩) Q E s := by
  obtain ⟨hh, g, d, t, os⟩ := s
  have L0 := I.type (M := model prog w)
  have L1 := PySem.W.looks_find (M := model prog w) X I hf
  refine wpAny_bind (wpAny_pure (wpAny_bind (wpAny_pure (wpAny_bind (L0.at (wpAny_bind (L1.at ?_)))))))
  exact wpAny_pure h
theorem entry_class {tk : Tok} {Q : Fin → Shared → Prop} (X : K.In s.heap) (I : PySem.W.InstAt s.heap x ox C od) (hf : PySem.W.findObj K C od "__class__" = some (.bind (.builtin "getset_descriptor.__get__") (.builtin "object.__class__"))) (hm : PySem.W.mroIn K C (.type "object") = some true) (h : Q (.done (.ret (.ref C))) s) :
    wpAny (model prog w) A (Builtin.«object.__getattribute__» ⟨[.ref x, .str "__class__" tk], []⟩) Q E s := by
  obtain ⟨hh, g, d, t, os⟩ := s
  have L0 := I.type (M := model prog w)
  have L1 := PySem.W.looks_find (M := model prog w) X I hf
  refine wpAny_bind (wpAny_pure (wpAny_bind (wpAny_pure (wpAny_bind (L0.at (wpAny_bind (L1.at ?_)))))))
  show wpAny _ _ (holding [_] (call _ [_, .ref x, .ref C]) >>= ret) _ _ _
  exact wpAny_bind (wpAny_holding (wpAny_call (PySem.W.class_get (ox := ox) (od := od) X I hm (wpAny_pure h))))
/-- x.name, of an exception -/
theorem get_by {tk : Tok} {fill expr : Bool} {Q : Value → Shared → Prop} (X : K.In s.heap) (I : PySem.W.InstAt s.heap x ox C od) (hga : PySem.W.findIn K (.ref C) "__getattribute__" = some (some (.builtin "BaseException.__getattribute__"))) (hgt : PySem.W.findIn K (.ref C) "__getattr__" = some none) 
    (h : codeAny (model prog w) A (.call (.builtin "BaseException.__getattribute__") ⟨[.ref x, .str name tk], []⟩) (fun r s' => match r with | .ok (.ret v) => wpAny (model prog w) A (handedOut v) Q E s' | _ => False) s) : wpAny (model prog w) A (getAttrBy (.ref x) (.str name tk) fill expr) Q E s := by
  obtain ⟨hh, g, d, t, os⟩ := s
  have L0 := I.type (M := model prog w)
  have L1 := PySem.W.looks_findIn (M := model prog w) X hga
  have L2 := PySem.W.looks_findIn (M := model prog w) X hgt
  have hx2 : (Value.builtin "BaseException.__getattribute__" == Value.builtin "object.__getattribute__") = false := by decide +kernel
  unfold getAttrBy
  refine wpAny_holding (wpAny_bind (L0.at (wpAny_bind (L1.at ?_))))
  dsimp only
  rw [hx2, Bool.and_false, if_neg (by decide)]
  unfold getAttrByItsOwn
  refine wpAny_bind (L2.at ?_)
  have h0 : (expr && onTheHeap (Value.builtin "BaseException.__getattribute__")) = false := by cases expr <;> rfl
  refine wpAny_bind (wpAny_attempt (wpAny_holding ?_))
  unfold callGetattribute
  rw [h0, if_neg (by decide)]
  unfold boundAndCalled
  rw [PySem.F.attrBase_ValueError.ga.bind (.ref x)]
  refine wpAny_bind (wpAny_pure (wpAny_call (codeAny_mono h fun r s' q => ?_)))
  match r, q with
  | .ok (.ret v), q => exact q
/-- a field -/
theorem get_field {v : Value} {expr : Bool} {Q : Value → Shared → Prop} (X : K.In s.heap) (I : PySem.W.InstAt s.heap x ox C od) (hga : PySem.W.findIn K (.ref C) "__getattribute__" = some (some (.builtin "BaseException.__getattribute__"))) (hgt : PySem.W.findIn K (.ref C) "__getattr__" = some none)
    (hm : PySem.W.mroIn K C (.type "BaseException") = some true) (hf : PySem.W.findObj K C od name = some (.value v)) (hh : PySem.W.handedIn v = true) (h : Q v { s with toks := s.toks + 1 }) : wpAny (model prog w) A (getAttr (.ref x) name expr) Q E s := by
  obtain ⟨hp, g, d, t, os⟩ := s
  unfold getAttr
  refine wpAny_bind (wpAny_mkText (get_by (s := ⟨hp, g, d, t + 1, os⟩) X I hga hgt ?_))
  refine codeAny_call_builtin PySem.F.attrBase_ValueError.ga.plain F.entry_bexc_ga (check_ga (s := ⟨hp, g, d, t + 1, os⟩) X I hm (entry_value (s := ⟨hp, g, d, t + 1, os⟩) X I hf ?_))
  show wpAny _ _ (handedOut v) _ _ _
  rw [PySem.W.handedOut_of hh]
  exact wpAny_pure h
/-- its class -/
theorem get_class {Q : Option Value → Shared → Prop} (X : K.In s.heap) (I : PySem.W.InstAt s.heap x ox C od) (hga : PySem.W.findIn K (.ref C) "__getattribute__" = some (some (.builtin "BaseException.__getattribute__"))) (hgt : PySem.W.findIn K (.ref C) "__getattr__" = some none)
    (hm : PySem.W.mroIn K C (.type "BaseException") = some true) (hf : PySem.W.findObj K C od "__class__" = some (.bind (.builtin "getset_descriptor.__get__") (.builtin "object.__class__"))) (ho : PySem.W.mroIn K C (.type "object") = some true) (h : Q (some (.ref C)) { s with toks := s.toks + 1 }) :
    wpAny (model prog w) A (getAttr? (.ref x) "__class__") Q E s := by
  obtain ⟨hp, g, d, t, os⟩ := s
  unfold getAttr? getAttrBy?
  refine wpAny_bind (wpAny_mkText (wpAny_bind (wpAny_attempt (get_by (s := ⟨hp, g, d, t + 1, os⟩) X I hga hgt ?_))))
  refine codeAny_call_builtin PySem.F.attrBase_ValueError.ga.plain F.entry_bexc_ga (check_ga (s := ⟨hp, g, d, t + 1, os⟩) X I hm (entry_class (s := ⟨hp, g, d, t + 1, os⟩) X I hf ho ?_))
  exact wpAny_pure (wpAny_pure h)
end
end DX
set_option Elab.async false
set_option linter.all false
set_option maxRecDepth 100000
set_option maxHeartbeats 4000000
/-! The classes of errors.py: what the text's part tells of them. -/
namespace DX
open PySem PySem.Spec PyProof.Rows L2
noncomputable abbrev vbm : List Value := [.type "ValueError", .type "Exception", .type "BaseException", .type "object"]
noncomputable def quiet : List Str := ["__init__", "__setattr__", "name", "letter", "many", "told", "point", "row"]
/-- the keys are texts -/
noncomputable def strK (es : Array DictEntry) : Bool := es.toList.all fun e => match e.key with | .str _ _ => true | _ => false
theorem ns_of {K : PySem.W.Frag} {N : Addr} {c : Value} {d : Option Addr} {es : Array DictEntry} {ep : Nat} {sl : Array (Option Value)} (l : K.lookup N = some ⟨c, d, .dict es ep, sl⟩) (hk : strK es = true) {h : Heap} (X : K.In h) : h.Ns N (nsFind es) := by
  refine ⟨_, es, ep, X _ _ l, rfl, fun e he => ?_, fun _ => rfl⟩
  have := List.all_eq_true.mp hk e (by simpa using he)
  cases q : e.key with
  | str n t => exact ⟨n, t, rfl⟩
  | _ => rw [q] at this; cases this
/-- PickError -/
structure GX (K : PySem.W.Frag) (P : Addr) : Prop where
  gt : PySem.W.specialIn K (.builtin "object.__class__") "__get__" = some (some (.builtin "getset_descriptor.__get__"))
  tk : PySem.W.takesIn K (.builtin "object.__class__") = some true
  lk : ∃ nm q N bs sn sub ab col dd k0 k1 k2 k3 k5, K.lookup P = some (excClassObj nm q P N bs vbm true sn sub ab col dd k0 k1 k2 k3 k5 "ValueError.__new__") ∧ ∀ h, K.In h → ∃ m, h.Ns N m ∧ ∀ n ∈ quiet, m n = none
/-- a class straight below it -/
structure XE (K : PySem.W.Frag) (P C : Addr) : Prop where
  lk : ∃ nm q N bs sn sub ab col dd k0 k1 k2 k3 k5, K.lookup C = some (excClassObj nm q C N bs (.ref P :: vbm) true sn sub ab col dd k0 k1 k2 k3 k5 "ValueError.__new__")
  ga : PySem.W.findIn K (.ref C) "__getattribute__" = some (some (.builtin "BaseException.__getattribute__"))
  gt : PySem.W.findIn K (.ref C) "__getattr__" = some none
  cl : PySem.W.findIn K (.ref C) "__class__" = some (some (.builtin "object.__class__"))
section
variable {K : PySem.W.Frag} {P C : Addr}
theorem cls_of (X : XE K P C) : ∃ cd, PySem.W.clsIn K C = some cd ∧ cd.mro = .ref C :: .ref P :: vbm ∧ cd.hasDict = true ∧ PySem.W.typeIn K (.ref C) = some (.type "type") := by
  obtain ⟨nm, q, N, bs, sn, sub, ab, col, dd, k0, k1, k2, k3, k5, l⟩ := X.lk
  have h1 : PySem.W.clsIn K C = some { name := nm, bases := bs, mro := .ref C :: .ref P :: vbm, ns := N, qualname := q, hasDict := true, slotNames := sn, subclasses := sub, abstract := ab, collection := col, hasDel := false } := by
    unfold PySem.W.clsIn
    rw [l]
  refine ⟨_, h1, rfl, rfl, ?_⟩
  show (K.lookup C).map (·.cls) = _
  rw [l]
  rfl
theorem mro_of (X : XE K P C) (b : Value) : PySem.W.mroIn K C b = some ((Value.ref C :: .ref P :: vbm).contains b) := by
  obtain ⟨cd, h1, h2, _⟩ := cls_of X
  unfold PySem.W.mroIn
  rw [h1, Option.bind_some, h2]
  rfl
/-- isinstance(x, D), by the classes -/
theorem kit_sub (X : XE K P C) {D : Addr} (h1 : (PySem.W.clsIn K D).isSome = true) (h2 : PySem.W.typeIn K (.ref D) = some (.type "type")) : PySem.W.kitOne K (.ref C) (.ref D) = some (C == D || P == D) := by
  unfold PySem.W.kitOne PySem.W.kitCls
  by_cases q : C = D
  · subst q
    simp
  · rw [if_neg (by simpa using q)]
    simp only [h1, h2, Bool.and_self, beq_self_eq_true, if_true]
    show PySem.W.mroIn K C (.ref D) = _
    rw [mro_of X]
    have e1 : (C == D) = false := by simpa using q
    simp [e1, List.contains_cons, q, vbm, eq_comm]
    by_cases z : P = D <;> simp [z]
theorem kit_val (X : XE K P C) : PySem.W.kitOne K (.ref C) (.type "ValueError") = some true := by
  unfold PySem.W.kitOne PySem.W.kitCls
  rw [if_neg (by simp)]
  have : PySem.W.kitMeta "ValueError" = true := by decide +kernel
  simp only [this, if_true]
  show PySem.W.mroIn K C _ = _
  rw [mro_of X]
  simp
theorem kit_not {D : Addr} (h1 : (PySem.W.clsIn K D).isSome = true) (h2 : PySem.W.typeIn K (.ref D) = some (.type "type")) (t : String) (h : t ∈ ["NoneType", "bool", "int", "str", "tuple", "list", "dict"]) : PySem.W.kitOne K (.type t) (.ref D) = some false := by
  unfold PySem.W.kitOne PySem.W.kitCls
  rw [if_neg (by simp)]
  simp only [h1, h2, Bool.and_self, beq_self_eq_true, if_true]
  simp only [List.mem_cons, List.not_mem_nil, or_false] at h
  rcases h with rfl | rfl | rfl | rfl | rfl | rfl | rfl <;> rfl
theorem kit_notV (t : String) (h : t ∈ ["NoneType", "bool", "int", "str", "tuple", "list", "dict"]) : PySem.W.kitOne K (.type t) (.type "ValueError") = some false := by
  simp only [List.mem_cons, List.not_mem_nil, or_false] at h
  rcases h with rfl | rfl | rfl | rfl | rfl | rfl | rfl <;> rfl
end
theorem kit_ex {K : PySem.W.Frag} {P C : Addr} (X : XE K P C) {T : String} (h1 : PySem.W.kitMeta T = true) (h2 : vbm.contains (.type T) = false) : PySem.W.kitOne K (.ref C) (.type T) = some false := by
  unfold PySem.W.kitOne PySem.W.kitCls
  rw [if_neg (by simp)]
  simp only [h1, if_true]
  show PySem.W.mroIn K C _ = _
  rw [mro_of X, List.contains_cons, List.contains_cons, h2]
  rfl
theorem fo_data {K : PySem.W.Frag} {C : Addr} {od : Option Obj} {name : Str} {a g : Value} (hc : (PySem.W.clsIn K C).isSome = true) (ha : PySem.W.findIn K (.ref C) name = some (some a)) (hg : PySem.W.specialIn K a "__get__" = some (some g)) (ht : PySem.W.takesIn K a = some true) : PySem.W.findObj K C od name = some (.bind g a) := by
  obtain ⟨cd, hc⟩ := Option.isSome_iff_exists.mp hc
  unfold PySem.W.findObj
  rw [hc, Option.bind_some, ha, Option.bind_some]
  simp [hg, ht]
theorem kitx_exn {K : PySem.W.Frag} {e P C : Addr} (G : GX K P) (E : XE K P C) : PySem.W.KitX K (.ref e) (.ref C) (fun h => ∃ ox od, PySem.W.InstAt h e ox C od) := by
  obtain ⟨cd, hc, hm, hd, ht⟩ := cls_of E
  refine ⟨fun M h _ ⟨ox, od, I⟩ => I.type, fun M h X _ => ?_, fun h tp dd its n sl X htp => ?_, fun X ⟨ox, od, I⟩ k => ?_⟩
  · unfold PySem.W.clsIn at hc
    split at hc
    · rename_i ho
      intro A' Q' E' s' k q
      unfold isType loadHead
      exact wpAny_bind (wpAny_loadPart (k _ _ (X _ _ ho)) (wpAny_pure q))
    · cases hc
  · refine Bool.eq_false_iff.mpr fun q => ?_
    obtain rfl : C = tp := Value.ref.inj (beq_iff_eq.mp q)
    unfold PySem.W.clsIn at hc
    split at hc
    · rename_i ho
      have z := (X _ _ ho).symm.trans htp
      cases z
    · cases hc
  · exact get_class X I E.ga E.gt (by rw [mro_of E]; simp) (fo_data (by rw [hc]; rfl) E.cl G.gt G.tk) (by rw [mro_of E]; simp) k
end DX
set_option Elab.async false
set_option linter.all false
set_option maxRecDepth 100000
set_option maxHeartbeats 4000000
/-! The data layer: values as data (tuples and lists written out), a def's body as a function upon them. -/
namespace DL
open PySem PySem.Spec PyProof.Rows L2
/-! ### data -/
inductive D where
  | non | bl (b : Bool) | int (i : Int) | str (x : Str) | tup (xs : List D) | lst (xs : List D) | emp
  | exn (cls : Str) (ns : List Str) (ds : List D)
/-- an exception's own dict -/
noncomputable def XF (J : Hp) (dx : Option Addr) (ns : List Str) (vs : List V) : Prop := (dx = none ∧ ns = [] ∧ vs = []) ∨ ∃ d, dx = some d ∧ ns.length = vs.length ∧ J d = some (.xd (ns.zip vs))
theorem XF.mono {J J' : Hp} (e : Same J J') {dx : Option Addr} {ns : List Str} {vs : List V} (h : XF J dx ns vs) : XF J' dx ns vs := by
  rcases h with h | ⟨d, h1, h2, h3⟩
  · exact .inl h
  · exact .inr ⟨d, h1, h2, e _ _ h3⟩
mutual
inductive Rep (K : PySem.W.Frag) (J : Hp) : D → V → Prop
  | non : Rep K J .non .non
  | bl (b : Bool) : Rep K J (.bl b) (.bl b)
  | int (i : Int) : Rep K J (.int i) (.int i)
  | str (x : Str) : Rep K J (.str x) (.str x)
  | emp {a : Addr} : J a = some (.dK []) → Rep K J .emp (.ref a)
  | tup {a : Addr} {vs : List V} {ds : List D} : SqT K J a vs → Reps K J ds vs → Rep K J (.tup ds) (.ref a)
  | lst {a : Addr} {vs : List V} {ds : List D} : SqL K J a vs → Reps K J ds vs → Rep K J (.lst ds) (.ref a)
  | exn {a C : Addr} {dx : Option Addr} {cls : Str} {ns : List Str} {vs : List V} {ds : List D} : J a = some (DX.XO a C dx) → PySem.W.nsIn K mainGlobals cls = some (some (.ref C)) → XF J dx ns vs → Reps K J ds vs → (∃ P, DX.GX K P ∧ DX.XE K P C) → Rep K J (.exn cls ns ds) (.ref a)
inductive Reps (K : PySem.W.Frag) (J : Hp) : List D → List V → Prop
  | nil : Reps K J [] []
  | cons {d : D} {v : V} {ds : List D} {vs : List V} : Rep K J d v → Reps K J ds vs → Reps K J (d :: ds) (v :: vs)
end
theorem sameT {K : PySem.W.Frag} {H H' : Hp} {a : Addr} {xs : List V} (e : Same H H') (h : SqT K H a xs) : SqT K H' a xs := by
  rcases h with (h | ⟨o, h⟩) | h
  · exact .inl (.inl (e _ _ h))
  · exact .inl (.inr ⟨o, e _ _ h⟩)
  · exact .inr h
mutual
theorem Rep.mono {K : PySem.W.Frag} {J J' : Hp} (e : Same J J') : ∀ {d : D} {v : V}, Rep K J d v → Rep K J' d v
  | _, _, .non => .non
  | _, _, .bl b => .bl b
  | _, _, .int i => .int i
  | _, _, .str x => .str x
  | _, _, .emp h => .emp (e _ _ h)
  | _, _, .tup h hs => .tup (sameT e h) (Reps.mono e hs)
  | _, _, .lst h hs => .lst (e.seq h) (Reps.mono e hs)
  | _, _, .exn h1 h2 h3 hs hx => .exn (e _ _ h1) h2 (h3.mono e) (Reps.mono e hs) hx
theorem Reps.mono {K : PySem.W.Frag} {J J' : Hp} (e : Same J J') : ∀ {ds : List D} {vs : List V}, Reps K J ds vs → Reps K J' ds vs
  | _, _, .nil => .nil
  | _, _, .cons h hs => .cons (Rep.mono e h) (Reps.mono e hs)
end
section
variable {K : PySem.W.Frag} {J : Hp}
theorem Reps.length : ∀ {ds : List D} {vs : List V}, Reps K J ds vs → ds.length = vs.length
  | _, _, .nil => rfl
  | _, _, .cons _ hs => congrArg (· + 1) (Reps.length hs)
theorem Reps.get : ∀ {ds : List D} {vs : List V} {i : Nat} {d : D}, Reps K J ds vs → ds[i]? = some d → ∃ v, vs[i]? = some v ∧ Rep K J d v
  | _, _, _, _, .nil, e => by simp at e
  | _, _, 0, _, .cons r _, e => by simp at e; subst e; exact ⟨_, rfl, r⟩
  | _, _, i + 1, d, .cons _ t, e => by
    obtain ⟨v, h1, h2⟩ := Reps.get (i := i) (d := d) t (by simpa using e)
    exact ⟨v, by simpa using h1, h2⟩
theorem Reps.append : ∀ {ds es : List D} {vs us : List V}, Reps K J ds vs → Reps K J es us → Reps K J (ds ++ es) (vs ++ us)
  | _, _, _, _, .nil, s => s
  | _, _, _, _, .cons r t, s => .cons r (Reps.append t s)
theorem Reps.take : ∀ {ds : List D} {vs : List V} (n : Nat), Reps K J ds vs → Reps K J (ds.take n) (vs.take n)
  | _, _, 0, _ => .nil
  | _, _, _ + 1, .nil => .nil
  | _, _, n + 1, .cons r t => .cons r (Reps.take n t)
theorem Reps.drop : ∀ {ds : List D} {vs : List V} (n : Nat), Reps K J ds vs → Reps K J (ds.drop n) (vs.drop n)
  | _, _, 0, r => r
  | _, _, _ + 1, .nil => .nil
  | _, _, n + 1, .cons _ t => Reps.drop n t
end
/-! ### outcomes -/
/-- an exception: its class's name, its fields -/
structure Exc where
  cls : Str
  ns : List Str
  ds : List D
inductive M (α : Type) where
  | bad | ok (a : α) | exc (x : Exc)
noncomputable def M.bind {α β : Type} : M α → (α → M β) → M β
  | .bad, _ => .bad
  | .ok a, f => f a
  | .exc x, _ => .exc x
noncomputable instance : Monad M where
  pure := M.ok
  bind := M.bind
@[simp] theorem bind_ok {α β : Type} (a : α) (f : α → M β) : (M.ok a >>= f) = f a := rfl
@[simp] theorem bind_bad {α β : Type} (f : α → M β) : (M.bad >>= f) = M.bad := rfl
@[simp] theorem bind_exc {α β : Type} (x : Exc) (f : α → M β) : (M.exc x >>= f) = M.exc x := rfl
@[simp] theorem pure_ok {α : Type} (a : α) : (pure a : M α) = M.ok a := rfl
noncomputable def wpM {α : Type} (m : M α) (Q : α → Prop) (T : Exc → Prop) : Prop := match m with
  | .bad => False
  | .ok a => Q a
  | .exc x => T x
theorem wpM_bind {α β : Type} {m : M α} {f : α → M β} {Q : β → Prop} {T : Exc → Prop} (h : wpM (m >>= f) Q T) : wpM m (fun a => wpM (f a) Q T) T := by
  cases m with
  | bad => exact h
  | ok a => exact h
  | exc x => exact h
theorem wpM_mono {α : Type} {m : M α} {Q Q' : α → Prop} {T : Exc → Prop} (h : wpM m Q T) (k : ∀ a, Q a → Q' a) : wpM m Q' T := by
  cases m with
  | bad => exact h
  | ok a => exact k a h
  | exc x => exact h
/-! ### results, slots -/
inductive Md where
  | fresh | own | bor
inductive R where
  | d (x : D) | l (m : Md) (xs : List D)
inductive S where
  | d (x : D) | own (xs : List D) | bor (xs : List D)
noncomputable abbrev Ev := List (Option S)
/-- what stands fixed through a def's body: the text's part, the heaps at the entry, what is wanted of exceptions -/
structure C where
  K : PySem.W.Frag
  H0 : Hp
  J0 : Hp
  T : Exc → Prop
/-- J: what never changes any more -/
structure HI (c : C) (J H : Hp) : Prop where
  sub : Same J H
  ent : Same c.H0 H
  entJ : Same c.J0 J
  frz : ∀ a, c.H0 a ≠ none → c.J0 a = none → J a = none
/-- an expression has been reckoned -/
structure Ext (J H J' H' : Hp) : Prop where
  h : Same H H'
  j : Same J J'
  sub : Same J' H'
  frz : ∀ a, H a ≠ none → J a = none → J' a = none
theorem Same.ne {H H' : Hp} (e : Same H H') {a : Addr} (h : H a ≠ none) : H' a ≠ none := by
  cases q : H a with
  | none => exact absurd q h
  | some o => rw [e a o q]; intro z; cases z
theorem Ext.refl {J H : Hp} (h : Same J H) : Ext J H J H := ⟨Same.refl H, Same.refl J, h, fun _ _ q => q⟩
theorem Ext.trans {J H J1 H1 J2 H2 : Hp} (a : Ext J H J1 H1) (b : Ext J1 H1 J2 H2) : Ext J H J2 H2 :=
  ⟨a.h.trans b.h, a.j.trans b.j, b.sub, fun p h q => b.frz p (Same.ne a.h h) (a.frz p h q)⟩
theorem HI.ext {c : C} {J H J' H' : Hp} (h : HI c J H) (e : Ext J H J' H') : HI c J' H' :=
  ⟨e.sub, h.ent.trans e.h, h.entJ.trans e.j, fun a h0 j0 => e.frz a (Same.ne h.ent h0) (h.frz a h0 j0)⟩
theorem same_new {H : Hp} {p : Addr} (h : H p = none) (o : HO) : Same H (upd H p o) := fun b u q => by rw [upd_ne (ne_of_none q h)]; exact q
/-- a new object -/
theorem Ext.new {J H : Hp} (h : Same J H) {p : Addr} (e : H p = none) (o : HO) : Ext J H J (upd H p o) :=
  ⟨same_new e o, Same.refl J, fun b u q => same_new e o b u (h b u q), fun _ _ q => q⟩
/-- a new object that never changes -/
theorem Ext.newJ {J H : Hp} (h : Same J H) {p : Addr} (e : H p = none) (o : HO) : Ext J H (upd J p o) (upd H p o) :=
  ⟨same_new e o, same_new (h.free e) o, fun b u q => by
    by_cases hb : b = p
    · subst hb; rw [upd_same] at q ⊢; exact q
    · rw [upd_ne hb] at q ⊢; exact h b u q, fun a ha q => by
    have : a ≠ p := fun z => ha (z ▸ e)
    rw [upd_ne this]; exact q⟩
noncomputable def SRep (c : C) (J H : Hp) : S → V → Prop
  | .d x, v => Rep c.K J x v
  | .own xs, v => ∃ a vs, v = .ref a ∧ H a = some (.lst vs) ∧ J a = none ∧ c.H0 a = none ∧ Reps c.K J xs vs
  | .bor xs, v => ∃ a vs, v = .ref a ∧ SqL c.K c.H0 a vs ∧ Reps c.K J xs vs
theorem SRep.ext {c : C} {J H J' H' : Hp} (e : Ext J H J' H') : ∀ {x : S} {v : V}, SRep c J H x v → SRep c J' H' x v
  | .d x, v, h => Rep.mono e.j h
  | .own xs, v, ⟨a, vs, h1, h2, h3, h4, h5⟩ => ⟨a, vs, h1, e.h _ _ h2, e.frz a (by rw [h2]; intro z; cases z) h3, h4, Reps.mono e.j h5⟩
  | .bor xs, v, ⟨a, vs, h1, h2, h3⟩ => ⟨a, vs, h1, h2, Reps.mono e.j h3⟩
structure SR (c : C) (J H : Hp) (σ : L2.St) (env : Ev) : Prop where
  hp : HI c J H
  len : env.length = σ.length
  at_ : ∀ (i : Nat) (x : S), env[i]? = some (some x) → ∃ v, σ[i]? = some (some v) ∧ SRep c J H x v
  sep : ∀ (i j : Nat) (xs ys : List D) (v : V), i ≠ j → env[i]? = some (some (.own xs)) → env[j]? = some (some (.own ys)) → σ[i]? = some (some v) → σ[j]? ≠ some (some v)
theorem SR.ext {c : C} {J H J' H' : Hp} {σ : L2.St} {env : Ev} (h : SR c J H σ env) (e : Ext J H J' H') : SR c J' H' σ env :=
  ⟨h.hp.ext e, h.len, fun i x q => let ⟨v, q1, q2⟩ := h.at_ i x q; ⟨v, q1, q2.ext e⟩, h.sep⟩
/-- He: the heap when the expression began -/
noncomputable def RR (c : C) (He J H : Hp) : R → V → Prop
  | .d x, v => Rep c.K J x v
  | .l .fresh xs, v => ∃ a vs, v = .ref a ∧ H a = some (.lst vs) ∧ J a = none ∧ He a = none ∧ Reps c.K J xs vs
  | .l .own xs, v => ∃ a vs, v = .ref a ∧ H a = some (.lst vs) ∧ J a = none ∧ c.H0 a = none ∧ Reps c.K J xs vs
  | .l .bor xs, v => ∃ a vs, v = .ref a ∧ SqL c.K c.H0 a vs ∧ Reps c.K J xs vs
theorem RR.ext {c : C} {He J H J' H' : Hp} (e : Ext J H J' H') : ∀ {x : R} {v : V}, RR c He J H x v → RR c He J' H' x v
  | .d x, v, h => Rep.mono e.j h
  | .l .fresh xs, v, ⟨a, vs, h1, h2, h3, h4, h5⟩ => ⟨a, vs, h1, e.h _ _ h2, e.frz a (by rw [h2]; intro z; cases z) h3, h4, Reps.mono e.j h5⟩
  | .l .own xs, v, ⟨a, vs, h1, h2, h3, h4, h5⟩ => ⟨a, vs, h1, e.h _ _ h2, e.frz a (by rw [h2]; intro z; cases z) h3, h4, Reps.mono e.j h5⟩
  | .l .bor xs, v, ⟨a, vs, h1, h2, h3⟩ => ⟨a, vs, h1, h2, Reps.mono e.j h3⟩
/-- an earlier beginning -/
theorem RR.from {c : C} {He He' J H : Hp} (e : Same He He') : ∀ {x : R} {v : V}, RR c He' J H x v → RR c He J H x v
  | .d x, v, h => h
  | .l .fresh xs, v, ⟨a, vs, h1, h2, h3, h4, h5⟩ => ⟨a, vs, h1, h2, h3, e.free h4, h5⟩
  | .l .own xs, v, h => h
  | .l .bor xs, v, h => h
noncomputable def asL : R → M (List D)
  | .d (.lst xs) => .ok xs
  | .l _ xs => .ok xs
  | _ => .bad
noncomputable def toD : R → M D
  | .d x => .ok x
  | .l .fresh xs => .ok (.lst xs)
  | _ => .bad
theorem RR.list {c : C} {He J H : Hp} (hp : HI c J H) : ∀ {r : R} {v : V} {xs : List D}, RR c He J H r v → asL r = .ok xs → ∃ a vs, v = .ref a ∧ SqL c.K H a vs ∧ Reps c.K J xs vs
  | .d (.lst ys), v, xs, h, e => by
    cases e
    cases h with
    | lst h hs => exact ⟨_, _, rfl, hp.sub.seq h, hs⟩
  | .l .fresh ys, v, xs, ⟨a, vs, h1, h2, h3, h4, h5⟩, e => by cases e; exact ⟨a, vs, h1, SqL.of h2, h5⟩
  | .l .own ys, v, xs, ⟨a, vs, h1, h2, h3, h4, h5⟩, e => by cases e; exact ⟨a, vs, h1, SqL.of h2, h5⟩
  | .l .bor ys, v, xs, ⟨a, vs, h1, h2, h3⟩, e => by cases e; exact ⟨a, vs, h1, hp.ent.seq h2, h3⟩
  | .d .non, _, _, _, e => nomatch e
  | .d (.bl _), _, _, _, e => nomatch e
  | .d (.int _), _, _, _, e => nomatch e
  | .d (.str _), _, _, _, e => nomatch e
  | .d (.tup _), _, _, _, e => nomatch e
  | .d .emp, _, _, _, e => nomatch e
/-- a value that is put away never changes any more -/
theorem freeze {c : C} {Je He J H : Hp} (x : Ext Je He J H) : ∀ {r : R} {v : V} {d : D}, RR c He J H r v → toD r = .ok d → ∃ J', Ext Je He J' H ∧ Same J J' ∧ Rep c.K J' d v
  | .d y, v, d, h, e => by cases e; exact ⟨J, x, Same.refl J, h⟩
  | .l .fresh ys, v, d, ⟨a, vs, h1, h2, h3, h4, h5⟩, e => by
    cases e
    subst h1
    have s1 : Same J (upd J a (.lst vs)) := same_new h3 _
    refine ⟨upd J a (.lst vs), ⟨x.h, x.j.trans s1, fun b u q => ?_, fun b hb q => ?_⟩, s1, .lst (.inl (.inl upd_same)) (Reps.mono s1 h5)⟩
    · by_cases hb : b = a
      · subst hb; rw [upd_same] at q; cases q; exact h2
      · rw [upd_ne hb] at q; exact x.sub b u q
    · have : b ≠ a := fun z => hb (z ▸ h4)
      rw [upd_ne this]; exact x.frz b hb q
  | .l .own _, _, _, _, e => nomatch e
  | .l .bor _, _, _, _, e => nomatch e
/-! ### the judgements -/
noncomputable abbrev G (α : Type) := Ev → M α
noncomputable def tD (c : C) (g : G R) : TE := fun σ H Q => ∃ J env, SR c J H σ env ∧ wpM (g env) (fun r => ∀ v J' H', Ext J H J' H' → RR c H J' H' r v → Q v H') c.T
noncomputable def PD (X : Cx) (c : C) (e : Expr) (g : G R) : Prop := PE X e (tD c g)
noncomputable def tB (c : C) (g : G Bool) : TT := fun σ H Q => ∃ J env, SR c J H σ env ∧ wpM (g env) (fun b => ∀ J' H', Ext J H J' H' → Q b H') c.T
noncomputable def PB (X : Cx) (c : C) (e : Expr) (g : G Bool) : Prop := PT X e (tB c g)
/-- an argument list; each is put away as it comes (Ds), or kept as it is -/
noncomputable def RRs (c : C) (He J H : Hp) : List R → List V → Prop
  | [], vs => vs = []
  | r :: rs, vs => ∃ v us, vs = v :: us ∧ RR c He J H r v ∧ RRs c He J H rs us
noncomputable def tA (c : C) (g : G (List R)) : TA := fun σ H Q => ∃ J env, SR c J H σ env ∧ wpM (g env) (fun rs => ∀ vs J' H', Ext J H J' H' → RRs c H J' H' rs vs → Q vs H') c.T
noncomputable def PAr (X : Cx) (c : C) (es : List Expr) (g : G (List R)) : Prop := PA X es (tA c g)
noncomputable def tAD (c : C) (g : G (List D)) : TA := fun σ H Q => ∃ J env, SR c J H σ env ∧ wpM (g env) (fun ds => ∀ vs J' H', Ext J H J' H' → Reps c.K J' ds vs → Q vs H') c.T
noncomputable def PAd (X : Cx) (c : C) (es : List Expr) (g : G (List D)) : Prop := PA X es (tAD c g)
/-- a statement's end -/
inductive O where
  | nx (e : Ev) | rt (r : R) | bk (e : Ev) | ct (e : Ev)
noncomputable def RF (c : C) (J H : Hp) : R → V → Prop
  | .d x, v => Rep c.K J x v
  | .l _ xs, v => ∃ a vs, v = .ref a ∧ H a = some (.lst vs) ∧ J a = none ∧ c.H0 a = none ∧ Reps c.K J xs vs
noncomputable def oP (c : C) (J : Hp) (E : Ends) : O → Prop
  | .nx e => ∀ σ' J' H', Same J J' → SR c J' H' σ' e → E.nx σ' H'
  | .rt r => ∀ v J' H', Same J J' → HI c J' H' → RF c J' H' r v → E.rt v H'
  | .bk e => ∀ σ' J' H', Same J J' → SR c J' H' σ' e → E.bk σ' H'
  | .ct e => ∀ σ' J' H', Same J J' → SR c J' H' σ' e → E.ct σ' H'
noncomputable def tS (c : C) (g : G O) : TS := fun E σ H => ∃ J env, SR c J H σ env ∧ wpM (g env) (oP c J E) c.T
noncomputable def PD1 (X : Cx) (c : C) (st : Stmt) (g : G O) : Prop := PS X st (tS c g)
noncomputable def PDs (X : Cx) (c : C) (st : List Stmt) (g : G O) : Prop := PSs X st (tS c g)
theorem oP.mono {c : C} {J J1 : Hp} {E : Ends} (e : Same J J1) : ∀ {o : O}, oP c J E o → oP c J1 E o
  | .nx _, h => fun σ' J' H' q r => h σ' J' H' (e.trans q) r
  | .rt _, h => fun σ' J' H' q r => h σ' J' H' (e.trans q) r
  | .bk _, h => fun σ' J' H' q r => h σ' J' H' (e.trans q) r
  | .ct _, h => fun σ' J' H' q r => h σ' J' H' (e.trans q) r
theorem peImp {X : Cx} {e : Expr} {t t' : TE} (h : PE X e t) (k : ∀ σ H Q, t' σ H Q → t σ H Q) : PE X e t' := fun pins s σ H Q I q => h pins s σ H Q I (k σ H Q q)
theorem ptImp {X : Cx} {e : Expr} {t t' : TT} (h : PT X e t) (k : ∀ σ H Q, t' σ H Q → t σ H Q) : PT X e t' := fun pins s σ H Q I q => h pins s σ H Q I (k σ H Q q)
theorem paImp {X : Cx} {es : List Expr} {t t' : TA} (h : PA X es t) (k : ∀ σ H Q, t' σ H Q → t σ H Q) : PA X es t' := fun pos pins s σ H Q I q => h pos pins s σ H Q I (k σ H Q q)
theorem psImp {X : Cx} {st : Stmt} {t t' : TS} (h : PS X st t) (k : ∀ D σ H, t' D σ H → t D σ H) : PS X st t' := fun pins s σ H D I q => h pins s σ H D I (k D σ H q)
theorem pssImp {X : Cx} {st : List Stmt} {t t' : TS} (h : PSs X st t) (k : ∀ D σ H, t' D σ H → t D σ H) : PSs X st t' := fun pins s σ H D I q => h pins s σ H D I (k D σ H q)
end DL
set_option Elab.async false
set_option linter.all false
set_option maxRecDepth 100000
set_option maxHeartbeats 4000000
namespace DL
open PySem PySem.Spec PyProof.Rows L2
section
variable {X : Cx} {c : C} {e a b : Expr} {ga gb : G R} {pos : Pos}
/-! ### names, constants -/
noncomputable def S.rd : S → R
  | .d x => .d x
  | .own xs => .l .own xs
  | .bor xs => .l .bor xs
noncomputable def gVar (i : Nat) : G R := fun env => match env[i]? with
  | some (some x) => .ok x.rd
  | _ => .bad
theorem SRep.rd {He J H : Hp} : ∀ {x : S} {v : V}, SRep c J H x v → RR c He J H x.rd v
  | .d _, _, h => h
  | .own _, _, h => h
  | .bor _, _, h => h
theorem pd_name {x : Str} {i : Nat} (h : PE X (.Name x pos) (tVar i)) : PD X c (.Name x pos) (gVar i) := peImp h fun σ H Q ⟨J, env, sr, w⟩ => by
  unfold gVar at w
  cases q : env[i]? with
  | none => rw [q] at w; exact w.elim
  | some o =>
    cases o with
    | none => rw [q] at w; exact w.elim
    | some x =>
      rw [q] at w
      obtain ⟨v, h1, h2⟩ := sr.at_ i x q
      exact ⟨v, h1, w v J H (Ext.refl sr.hp.sub) h2.rd⟩
theorem pd_var (i : Nat) {x : Str} (hN : X.N[i]? = some x := by rfl) (hv : Vis X.env.scope x := by first | exact Or.inl rfl | exact Or.inr (Or.inl rfl) | exact Or.inr (Or.inr rfl)) (hd : (x == ("__debug__" : Str)) = false := by decide)
    (hcd : (x == ("__classdict__" : Str)) = false := by decide) : PD X c (.Name x pos) (gVar i) := pd_name (pe_var hN hv hd hcd)
noncomputable def gC (d : D) : G R := fun _ => .ok (.d d)
theorem pd_tC {d : D} {v : V} (hr : ∀ J, Rep c.K J d v) (h : PE X e (tC v)) : PD X c e (gC d) := peImp h fun σ H Q ⟨J, env, sr, w⟩ => w v J H (Ext.refl sr.hp.sub) (hr J)
theorem pd_int {i : Int} {j : Nat} : PD X c (.Constant (.int i) j pos) (gC (.int i)) := pd_tC (fun _ => .int i) pe_int
theorem pd_bl {i : Bool} {j : Nat} : PD X c (.Constant (.bool i) j pos) (gC (.bl i)) := pd_tC (fun _ => .bl i) pe_bl
theorem pd_non {j : Nat} : PD X c (.Constant .none j pos) (gC .non) := pd_tC (fun _ => .non) pe_non
theorem pd_str {x : Str} {j : Nat} : PD X c (.Constant (.str x) j pos) (gC (.str x)) := pd_tC (fun _ => .str x) pe_str
/-! ### an operation upon two values -/
noncomputable def BD (c : C) (r : R2) (f : R → R → M R) : Prop := ∀ (He He' J H : Hp) (x y : R) (u v : V) (Q : VK), HI c J H → RR c He J H x u → RR c He' J H y v →
  wpM (f x y) (fun z => ∀ w J' H', Ext J H J' H' → RR c H J' H' z w → Q w H') c.T → r u v H Q
noncomputable def g2 (f : R → R → M R) (ga gb : G R) : G R := fun env => ga env >>= fun x => gb env >>= fun y => f x y
/-- both sides, then what follows -/
theorem two {P : R → R → M R} {σ : L2.St} {H : Hp} {k : V → V → Hp → Prop} {Q : VK} {J : Hp} {env : Ev} (sr : SR c J H σ env)
    (w : wpM (g2 P ga gb env) (fun r => ∀ v J' H', Ext J H J' H' → RR c H J' H' r v → Q v H') c.T)
    (hk : ∀ x y u v J2 H2, SR c J2 H2 σ env → Ext J H J2 H2 → RR c H J2 H2 x u → RR c H J2 H2 y v → wpM (P x y) (fun z => ∀ w J' H', Ext J2 H2 J' H' → RR c H2 J' H' z w → Q w H') c.T → k u v H2) :
    tD c ga σ H fun u H1 => tD c gb σ H1 fun v H2 => k u v H2 := by
  refine ⟨J, env, sr, wpM_mono (wpM_bind w) fun x wx u J1 H1 e1 r1 => ?_⟩
  have sr1 := sr.ext e1
  refine ⟨J1, env, sr1, wpM_mono (wpM_bind wx) fun y wy v J2 H2 e2 r2 => ?_⟩
  exact hk x y u v J2 H2 (sr1.ext e2) (e1.trans e2) (r1.ext e2) (RR.from e1.h r2) (wpM_mono wy fun z q w J' H' e3 r3 => q w J' H' ((e1.trans e2).trans e3) (RR.from (e1.h.trans e2.h) r3))
theorem pd_2 {t : TE} {r : R2} {f : R → R → M R} (ht : PE X e t) (heq : t = tOp r (tD c ga) (tD c gb)) (hf : BD c r f) : PD X c e (g2 f ga gb) := by
  subst heq
  exact peImp ht fun σ H Q ⟨J, env, sr, w⟩ => two (k := fun u v H2 => r u v H2 Q) sr w fun x y u v J2 H2 sr2 e2 r1 r2 q => hf H H J2 H2 x y u v Q sr2.hp r1 r2 q
theorem pd_op {op : Operator} {r : R2} {f : R → R → M R} (ho : OpR X (binaryOp op) r) (hf : BD c r f) (ha : PD X c a ga) (hb : PD X c b gb) : PD X c (.BinOp a op b pos) (g2 f ga gb) := pd_2 (pe_op ho ha hb) rfl hf
theorem pd_cmp {op : CmpOp} {r : R2} {f : R → R → M R} (ho : OpR X (compareOp op) r) (hf : BD c r f) (ha : PD X c a ga) (hb : PD X c b gb) (hm : behindInMarks op b = false := by first | exact nomark _ | rfl) : PD X c (.Compare a [op] [b] pos) (g2 f ga gb) := pd_2 (pe_cmpR ho ha hb hm) rfl hf
theorem pd_ix {r : R2} {f : R → R → M R} (ho : IxR X r) (hf : BD c r f) (ha : PD X c a ga) (hb : PD X c b gb) (hs : PlainIx b := by exact fun _ _ => rfl) : PD X c (.Subscript a b pos) (g2 f ga gb) := pd_2 (pe_ix ho ha hb hs) rfl hf
theorem BD.or {r r' : R2} {f f' : R → R → M R} (p : R → R → Bool) (h : BD c r f) (h' : BD c r' f') : BD c (fun x y H Q => r x y H Q ∨ r' x y H Q) (fun x y => if p x y then f x y else f' x y) := by
  intro He He' J H x y u v Q hp rx ry w
  simp only at w
  cases q : p x y with
  | true => rw [q] at w; exact .inl (h He He' J H x y u v Q hp rx ry w)
  | false => rw [q] at w; exact .inr (h' He He' J H x y u v Q hp rx ry w)
/-! ints -/
noncomputable def fI (C : Int → Int → Bool) (f : Int → Int → D) : R → R → M R
  | .d (.int i), .d (.int j) => if C i j then .ok (.d (f i j)) else .bad
  | _, _ => .bad
noncomputable def fI0 (f : Int → Int → D) : R → R → M R
  | .d (.int i), .d (.int j) => .ok (.d (f i j))
  | _, _ => .bad
theorem bd_I {P : Int → Int → Prop} {Cb : Int → Int → Bool} {g : Int → Int → V} {f : Int → Int → D} (hC : ∀ i j, Cb i j = true → P i j) (hr : ∀ i j J, Rep c.K J (f i j) (g i j)) : BD c (rI P g) (fI Cb f) := by
  intro He He' J H x y u v Q hp rx ry w
  unfold fI at w
  split at w
  · cases rx; cases ry
    rename_i i j
    cases q : Cb i j with
    | true => rw [q] at w; exact ⟨i, j, rfl, rfl, hC i j q, w _ J H (Ext.refl hp.sub) (hr i j J)⟩
    | false => rw [q] at w; exact w.elim
  · exact w.elim
theorem bd_I0 {g : Int → Int → V} {f : Int → Int → D} (hr : ∀ i j J, Rep c.K J (f i j) (g i j)) : BD c (rI0 g) (fI0 f) := by
  intro He He' J H x y u v Q hp rx ry w
  unfold fI0 at w
  split at w
  · cases rx; cases ry
    rename_i i j
    exact ⟨i, j, rfl, rfl, w _ J H (Ext.refl hp.sub) (hr i j J)⟩
  · exact w.elim
/-! the bounds are told by natural numbers: a kernel that looks at them with a letter within stops at once -/
noncomputable def below (n : Nat) (j : Int) : Bool := Nat.blt j.natAbs n
theorem below_iff {n : Nat} {j : Int} : below n j = true ↔ -(n : Int) < j ∧ j < n := by
  unfold below
  rw [Nat.blt_eq]
  omega
noncomputable def kDiv (_ j : Int) : Bool := decide (0 < j) && below 1073741824 j
noncomputable def kPos (_ j : Int) : Bool := decide (0 < j)
noncomputable def kMul (i j : Int) : Bool := below 18446744073709551616 i || below 18446744073709551616 j
theorem kMul_ok {i j : Int} (h : kMul i j = true) : (-(2 ^ 64) < i ∧ i < 2 ^ 64) ∨ (-(2 ^ 64) < j ∧ j < 2 ^ 64) := by
  unfold kMul at h
  rw [Bool.or_eq_true] at h
  exact h.imp below_iff.mp below_iff.mp
theorem kDiv_ok {i j : Int} (h : kDiv i j = true) : 0 < j ∧ j < 1073741824 := by
  unfold kDiv at h
  rw [Bool.and_eq_true] at h
  exact ⟨of_decide_eq_true h.1, (below_iff.mp h.2).2⟩
noncomputable def kPow (i j : Int) : Bool := decide (0 ≤ j) && below 1000001 j && below 18446744073709551616 i
theorem kPow_ok {i j : Int} (h : kPow i j = true) : 0 ≤ j ∧ j ≤ 1000000 ∧ i.natAbs < 2 ^ 64 := by
  unfold kPow at h
  rw [Bool.and_eq_true, Bool.and_eq_true] at h
  have h2 := below_iff.mp h.1.2
  have h3 := below_iff.mp h.2
  exact ⟨of_decide_eq_true h.1.1, by omega, by omega⟩
noncomputable abbrev fAdd : R → R → M R := fI0 fun i j => .int (i + j)
noncomputable abbrev fSub : R → R → M R := fI0 fun i j => .int (i - j)
noncomputable abbrev fMul : R → R → M R := fI kMul fun i j => .int (i * j)
noncomputable abbrev fDiv : R → R → M R := fI kDiv fun i j => .int (i / j)
noncomputable abbrev fMod : R → R → M R := fI kPos fun i j => .int (i % j)
noncomputable abbrev fPow : R → R → M R := fI kPow fun i j => .int (i ^ j.toNat)
theorem pd_sub (ha : PD X c a ga) (hb : PD X c b gb) : PD X c (.BinOp a .Sub b pos) (g2 fSub ga gb) := pd_op op_sub (bd_I0 fun _ _ _ => .int _) ha hb
theorem pd_div (ha : PD X c a ga) (hb : PD X c b gb) : PD X c (.BinOp a .FloorDiv b pos) (g2 fDiv ga gb) := pd_op op_fdiv (bd_I (fun i j h => kDiv_ok h) fun _ _ _ => .int _) ha hb
theorem pd_mod (ha : PD X c a ga) (hb : PD X c b gb) : PD X c (.BinOp a .Mod b pos) (g2 fMod ga gb) := pd_op op_mod (bd_I (fun i j h => by unfold kPos at h; exact of_decide_eq_true h) fun _ _ _ => .int _) ha hb
theorem pd_pow (ha : PD X c a ga) (hb : PD X c b gb) : PD X c (.BinOp a .Pow b pos) (g2 fPow ga gb) := pd_op op_pow (bd_I (fun i j h => kPow_ok h) fun _ _ _ => .int _) ha hb
/-! texts -/
noncomputable def fAddS : R → R → M R
  | .d (.str i), .d (.str j) => if i.length + j.length ≤ sizeLine then .ok (.d (.str (i ++ j))) else .bad
  | _, _ => .bad
/-! items of lists, tuples -/
theorem reps_at {K : PySem.W.Frag} {J : Hp} {ds : List D} {vs : List V} {i : Int} {d : D} (h : Reps K J ds vs) (e : atI ds i = some d) : ∃ v, atI vs i = some v ∧ Rep K J d v := by
  unfold atI at e ⊢
  rw [h.length] at e
  cases q : ixN vs.length i with
  | none => rw [q] at e; cases e
  | some j => rw [q] at e; exact h.get e
theorem wpM_asL {x : R} {f : List D → M R} {Q : R → Prop} {T : Exc → Prop} (w : wpM (asL x >>= f) Q T) : ∃ xs, asL x = .ok xs ∧ wpM (f xs) Q T := by
  cases q : asL x with
  | bad => rw [q] at w; exact w.elim
  | ok xs => rw [q] at w; exact ⟨xs, rfl, w⟩
  | exc z => unfold asL at q; split at q <;> cases q
/-- lists joined: both made here -/
noncomputable def isMade : R → Bool
  | .l .fresh _ => true
  | .l .own _ => true
  | _ => false
noncomputable def fCatL (x y : R) : M R := if isMade x && isMade y then asL x >>= fun xs => asL y >>= fun ys => if xs.length + ys.length ≤ sizeLine then .ok (.l .fresh (xs ++ ys)) else .bad else .bad
theorem RR.made {He J H : Hp} : ∀ {r : R} {v : V}, isMade r = true → RR c He J H r v → ∃ a vs xs, asL r = .ok xs ∧ v = .ref a ∧ H a = some (.lst vs) ∧ Reps c.K J xs vs
  | .l .fresh xs, v, _, ⟨a, vs, h1, h2, h3, h4, h5⟩ => ⟨a, vs, xs, rfl, h1, h2, h5⟩
  | .l .own xs, v, _, ⟨a, vs, h1, h2, h3, h4, h5⟩ => ⟨a, vs, xs, rfl, h1, h2, h5⟩
  | .l .bor _, _, e, _ => nomatch e
  | .d _, _, e, _ => nomatch e
/-- a new list, of data -/
theorem rr_new {J H : Hp} {xs : List D} {vs : List V} {p : Addr} (hp : HI c J H) (e : H p = none) (h : Reps c.K J xs vs) : RR c H J (upd H p (.lst vs)) (.l .fresh xs) (.ref p) :=
  ⟨p, vs, rfl, upd_same, hp.sub.free e, e, h⟩
/-! ### a call of a built-in with values -/
noncomputable def CD (c : C) (r : List V → Hp → VK → Prop) (f : List R → M R) : Prop := ∀ (He J H : Hp) (xs : List R) (vs : List V) (Q : VK), HI c J H → RRs c He J H xs vs →
  wpM (f xs) (fun z => ∀ w J' H', Ext J H J' H' → RR c H J' H' z w → Q w H') c.T → r vs H Q
noncomputable def gN (f : List R → M R) (gs : G (List R)) : G R := fun env => gs env >>= f
theorem pd_N {t : TE} {ta : TA} {r : List V → Hp → VK → Prop} {f : List R → M R} {gs : G (List R)} (ht : PE X e t) (heq : t = fun σ H Q => tA c gs σ H fun vs H1 => r vs H1 Q) (hf : CD c r f) : PD X c e (gN f gs) := by
  subst heq
  refine peImp ht fun σ H Q ⟨J, env, sr, w⟩ => ⟨J, env, sr, wpM_mono (wpM_bind w) fun rs w vs J1 H1 e1 r1 => ?_⟩
  exact hf H J1 H1 rs vs Q (sr.hp.ext e1) r1 (wpM_mono w fun z q v J' H' e2 r2 => q v J' H' (e1.trans e2) (RR.from e1.h r2))
noncomputable def gNil : G (List R) := fun _ => .ok []
noncomputable def gCons (g : G R) (gs : G (List R)) : G (List R) := fun env => g env >>= fun x => gs env >>= fun xs => .ok (x :: xs)
theorem pa_nil' : PAr X c [] gNil := paImp pa_nil fun σ H Q ⟨J, env, sr, w⟩ => w [] J H (Ext.refl sr.hp.sub) rfl
theorem RRs.from {He He' J H : Hp} (e : Same He He') : ∀ {xs : List R} {vs : List V}, RRs c He' J H xs vs → RRs c He J H xs vs
  | [], _, h => h
  | _ :: _, _, ⟨v, us, h1, h2, h3⟩ => ⟨v, us, h1, RR.from e h2, RRs.from e h3⟩
theorem pa_cons' {es : List Expr} {g : G R} {gs : G (List R)} (h : PD X c e g) (hs : PAr X c es gs) (hst : starEach (e :: es) X.env = (false, eval e X.env) :: starEach es X.env := by rfl) : PAr X c (e :: es) (gCons g gs) :=
  paImp (pa_cons h hs hst) fun σ H Q ⟨J, env, sr, w⟩ => by
    refine ⟨J, env, sr, wpM_mono (wpM_bind w) fun x wx u J1 H1 e1 r1 => ?_⟩
    refine ⟨J1, env, sr.ext e1, wpM_mono (wpM_bind wx) fun xs wy us J2 H2 e2 r2 => ?_⟩
    exact wy (u :: us) J2 H2 (e1.trans e2) ⟨u, us, rfl, r1.ext e2, RRs.from e1.h r2⟩
theorem pd_callB {id : String} {x : Str} {p : Pos} {es : List Expr} {r : List V → Hp → VK → Prop} {f : List R → M R} {gs : G (List R)} (hc : CallR X (.builtin id) r) (hf : CD c r f) (hv : bootBuiltins x = some (.builtin id)) (hm : X.mg x = none) (ha : PAr X c (e :: es) gs)
    (hg : Gl X x := by rfl) (hn : x ≠ "__name__" := by decide) (hdb : (x == ("__debug__" : Str)) = false := by decide)
    (he : starEach (e :: es) X.env = (false, eval e X.env) :: starEach es X.env := by rfl) (hpl : (backTo pos (starEach es X.env)).any (·.1) = false := by rfl) : PD X c (.Call (.Name x p) (e :: es) [] pos) (gN f gs) :=
  pd_N (ta := tNil) (pe_callB hc hg hm hv ha hn hdb he hpl) rfl hf
theorem pd_callTy {T : String} {x : Str} {p : Pos} {es : List Expr} {r : List V → Hp → VK → Prop} {f : List R → M R} {gs : G (List R)} (hc : CallR X (.type T) r) (hf : CD c r f) (hv : bootBuiltins x = some (.type T)) (hm : X.mg x = none) (ha : PAr X c (e :: es) gs)
    (hg : Gl X x := by rfl) (hn : x ≠ "__name__" := by decide) (hdb : (x == ("__debug__" : Str)) = false := by decide)
    (he : starEach (e :: es) X.env = (false, eval e X.env) :: starEach es X.env := by rfl) (hpl : (backTo pos (starEach es X.env)).any (·.1) = false := by rfl) : PD X c (.Call (.Name x p) (e :: es) [] pos) (gN f gs) :=
  pd_N (ta := tNil) (pe_callTy hc hg hm hv ha hn hdb he hpl) rfl hf
end
end DL
set_option Elab.async false
set_option linter.all false
set_option maxRecDepth 100000
set_option maxHeartbeats 4000000
namespace DL
open PySem PySem.Spec PyProof.Rows L2
section
variable {X : Cx} {c : C} {e a b : Expr} {es : List Expr} {ga gb g : G R} {pos : Pos}
/-! ### displays -/
noncomputable def gDNil : G (List D) := fun _ => .ok []
noncomputable def gDCons (g : G R) (gs : G (List D)) : G (List D) := fun env => g env >>= fun x => toD x >>= fun d => gs env >>= fun ds => .ok (d :: ds)
theorem pad_nil : PAd X c [] gDNil := paImp pa_nil fun σ H Q ⟨J, env, sr, w⟩ => w [] J H (Ext.refl sr.hp.sub) .nil
theorem wpM_toD {α : Type} {x : R} {f : D → M α} {Q : α → Prop} {T : Exc → Prop} (w : wpM (toD x >>= f) Q T) : ∃ d, toD x = .ok d ∧ wpM (f d) Q T := by
  cases q : toD x with
  | bad => rw [q] at w; exact w.elim
  | ok xs => rw [q] at w; exact ⟨xs, rfl, w⟩
  | exc z => unfold toD at q; split at q <;> cases q
theorem pad_cons {gs : G (List D)} (h : PD X c e g) (hs : PAd X c es gs) (hst : starEach (e :: es) X.env = (false, eval e X.env) :: starEach es X.env := by rfl) : PAd X c (e :: es) (gDCons g gs) :=
  paImp (pa_cons h hs hst) fun σ H Q ⟨J, env, sr, w⟩ => by
    refine ⟨J, env, sr, wpM_mono (wpM_bind w) fun x wx u J1 H1 e1 r1 => ?_⟩
    obtain ⟨d, q, wx⟩ := wpM_toD wx
    obtain ⟨J1', e1', s1, rd⟩ := freeze e1 r1 q
    refine ⟨J1', env, sr.ext e1', wpM_mono (wpM_bind wx) fun xs wy us J2 H2 e2 r2 => ?_⟩
    exact wy (u :: us) J2 H2 (e1'.trans e2) (.cons (rd.mono e2.j) r2)
noncomputable def gTup (gs : G (List D)) : G R := fun env => gs env >>= fun ds => if ds.length ≤ sizeLine then .ok (.d (.tup ds)) else .bad
noncomputable def gLst (gs : G (List D)) : G R := fun env => gs env >>= fun ds => if ds.length ≤ sizeLine then .ok (.l .fresh ds) else .bad
/-- a new tuple, of data -/
theorem rr_tup {J H : Hp} {xs : List D} {vs : List V} {p : Addr} (hp : HI c J H) (e : H p = none) (h : Reps c.K J xs vs) : Rep c.K (upd J p (.tup vs)) (.tup xs) (.ref p) :=
  .tup (.inl (.inl upd_same)) (h.mono (same_new (hp.sub.free e) _))
theorem pd_tup {k} {gs : G (List D)} (h : PAd X c es gs) : PD X c (.Tuple es k pos) (gTup gs) := peImp (pe_tup h) fun σ H Q ⟨J, env, sr, w⟩ => by
  refine ⟨J, env, sr, wpM_mono (wpM_bind w) fun ds wd vs J1 H1 e1 r1 => ?_⟩
  split at wd
  · rename_i hz
    rw [r1.length] at hz
    exact ⟨hz, fun p hp => wd _ _ _ (e1.trans (Ext.newJ e1.sub hp _)) (rr_tup (sr.hp.ext e1) hp r1)⟩
  · exact wd.elim
theorem pd_lst {gs : G (List D)} (h : PAd X c es gs) : PD X c (.List es pos) (gLst gs) := peImp (pe_lst h) fun σ H Q ⟨J, env, sr, w⟩ => by
  refine ⟨J, env, sr, wpM_mono (wpM_bind w) fun ds wd vs J1 H1 e1 r1 => ?_⟩
  split at wd
  · rename_i hz
    rw [r1.length] at hz
    exact ⟨hz, fun p hp => wd _ _ _ (e1.trans (Ext.new e1.sub hp _)) (RR.from e1.h (rr_new (sr.hp.ext e1) hp r1))⟩
  · exact wd.elim
/-! ### len, tuple, list -/
noncomputable def asQ : R → M (List D)
  | .d (.tup xs) => .ok xs
  | .d (.lst xs) => .ok xs
  | .l _ xs => .ok xs
  | _ => .bad
theorem asQ_seq {He J H : Hp} (hp : HI c J H) : ∀ {r : R} {v : V} {xs : List D}, RR c He J H r v → asQ r = .ok xs → ∃ a vs, v = .ref a ∧ (SqL c.K H a vs ∨ SqT c.K H a vs) ∧ Reps c.K J xs vs
  | .d (.tup ys), v, xs, h, e => by
    cases e
    cases h with
    | tup h hs => exact ⟨_, _, rfl, .inr (sameT hp.sub h), hs⟩
  | .d (.lst ys), v, xs, h, e => let ⟨a, vs, h1, h2, h3⟩ := RR.list hp h e; ⟨a, vs, h1, .inl h2, h3⟩
  | .l m ys, v, xs, h, e => let ⟨a, vs, h1, h2, h3⟩ := RR.list hp h e; ⟨a, vs, h1, .inl h2, h3⟩
  | .d .non, _, _, _, e => nomatch e
  | .d (.bl _), _, _, _, e => nomatch e
  | .d (.int _), _, _, _, e => nomatch e
  | .d (.str _), _, _, _, e => nomatch e
  | .d .emp, _, _, _, e => nomatch e
theorem wpM_asQ {α : Type} {x : R} {f : List D → M α} {Q : α → Prop} {T : Exc → Prop} (w : wpM (asQ x >>= f) Q T) : ∃ xs, asQ x = .ok xs ∧ wpM (f xs) Q T := by
  cases q : asQ x with
  | bad => rw [q] at w; exact w.elim
  | ok xs => rw [q] at w; exact ⟨xs, rfl, w⟩
  | exc z => unfold asQ at q; split at q <;> cases q
noncomputable def fLen : List R → M R
  | [.d (.str z)] => if z.length ≤ sizeLine then .ok (.d (.int z.length)) else .bad
  | [r] => asQ r >>= fun xs => .ok (.d (.int xs.length))
  | _ => .bad
theorem RRs.one {He J H : Hp} {r : R} {vs : List V} (h : RRs c He J H [r] vs) : ∃ v, vs = [v] ∧ RR c He J H r v := by
  obtain ⟨v, us, rfl, h1, h2⟩ := h
  cases h2
  exact ⟨v, rfl, h1⟩
theorem RRs.two {He J H : Hp} {r r' : R} {vs : List V} (h : RRs c He J H [r, r'] vs) : ∃ v v', vs = [v, v'] ∧ RR c He J H r v ∧ RR c He J H r' v' := by
  obtain ⟨v, us, rfl, h1, v2, us2, rfl, h2, h3⟩ := h
  cases h3
  exact ⟨v, v2, rfl, h1, h2⟩
theorem pd_len {p : Pos} {gs : G (List R)} (ha : PAr X c (e :: es) gs) (hm : X.mg "len" = none) (hK : X.K = c.K := by rfl) (hg : Gl X "len" := by rfl)
    (he : starEach (e :: es) X.env = (false, eval e X.env) :: starEach es X.env := by rfl) (hpl : (backTo pos (starEach es X.env)).any (·.1) = false := by rfl) : PD X c (.Call (.Name "len" p) (e :: es) [] pos) (gN fLen gs) :=
  pd_callB (call_len_str.or call_len_seq) (by
    intro He J H xs vs Q hp rs w
    unfold fLen at w
    split at w
    · obtain ⟨v, rfl, r⟩ := rs.one
      cases r
      split at w
      · rename_i hz; exact .inl ⟨_, rfl, hz, w _ J H (Ext.refl hp.sub) (.int _)⟩
      · exact w.elim
    · obtain ⟨v, rfl, r⟩ := rs.one
      obtain ⟨xs, q, w⟩ := wpM_asQ w
      obtain ⟨p, vs, rfl, hq, hs⟩ := asQ_seq hp r q
      have w' := w (.int vs.length) J H (Ext.refl hp.sub) (by rw [hs.length]; exact .int _)
      exact .inr ⟨p, vs, rfl, by rw [hK]; exact hq, w'⟩
    · exact w.elim) PySem.boot_len hm ha hg (by decide) (by decide) he hpl
noncomputable def fTuple : List R → M R
  | [r] => asQ r >>= fun xs => .ok (.d (.tup xs))
  | _ => .bad
theorem boot_tuple' : bootBuiltins "tuple" = some (.type "tuple") := by decide +kernel
theorem pd_tuple {p : Pos} {gs : G (List R)} (ha : PAr X c (e :: es) gs) (hm : X.mg "tuple" = none) (hK : X.K = c.K := by rfl) (hg : Gl X "tuple" := by rfl)
    (he : starEach (e :: es) X.env = (false, eval e X.env) :: starEach es X.env := by rfl) (hpl : (backTo pos (starEach es X.env)).any (·.1) = false := by rfl) : PD X c (.Call (.Name "tuple" p) (e :: es) [] pos) (gN fTuple gs) :=
  pd_callTy call_tuple_of (by
    intro He J H xs vs Q hp rs w
    unfold fTuple at w
    split at w
    · obtain ⟨v, rfl, r⟩ := rs.one
      rename_i r0
      obtain ⟨xs, q, w⟩ := wpM_asQ w
      cases r0 with
      | d y =>
        cases y with
        | tup ys =>
          cases q
          cases r with
          | tup h hs => exact ⟨_, _, rfl, .inr ⟨by rw [hK]; exact sameT hp.sub h, w _ J H (Ext.refl hp.sub) (.tup h hs)⟩⟩
        | lst ys =>
          cases q
          obtain ⟨p, vs, rfl, hq, hs⟩ := RR.list hp r rfl
          exact ⟨p, vs, rfl, .inl ⟨by rw [hK]; exact hq, fun l hl => w _ _ _ (Ext.newJ hp.sub hl _) (rr_tup hp hl hs)⟩⟩
        | _ => cases q
      | l m ys =>
        cases q
        obtain ⟨p, vs, rfl, hq, hs⟩ := RR.list hp r rfl
        exact ⟨p, vs, rfl, .inl ⟨by rw [hK]; exact hq, fun l hl => w _ _ _ (Ext.newJ hp.sub hl _) (rr_tup hp hl hs)⟩⟩
    · exact w.elim) boot_tuple' hm ha hg (by decide) (by decide) he hpl
/-! ### truths -/
noncomputable def gTr (g : G R) : G Bool := fun env => g env >>= fun r => match r with
  | .d (.bl k) => .ok k
  | _ => .bad
theorem pb_val (h : PD X c e g) (he : ∀ whole, isTrue e X.env whole = (do let v ← whole; standAt e.pos; holding [v] (truthy v)) := by intro _; rfl) : PB X c e (gTr g) := ptImp (pt_val h he) fun σ H Q ⟨J, env, sr, w⟩ => by
  refine ⟨J, env, sr, wpM_mono (wpM_bind w) fun r wr v J1 H1 e1 r1 => ?_⟩
  split at wr
  · cases r1; exact ⟨_, rfl, wr J1 H1 e1⟩
  · exact wr.elim
/-- a test by an operation (a comparison) -/
theorem pb_cmp {op : CmpOp} {r : R2} {f : R → R → M R} (ho : OpR X (compareOp op) r) (hf : BD c r f) (ha : PD X c a ga) (hb : PD X c b gb) (hm : behindInMarks op b = false := by first | exact nomark _ | rfl) : PB X c (.Compare a [op] [b] pos) (gTr (g2 f ga gb)) :=
  ptImp (pt_cmpR ho ha hb hm) fun σ H Q ⟨J, env, sr, w⟩ => by
    have w2 := wpM_bind w
    refine two (k := fun u v H2 => r u v H2 fun z H3 => ∃ k, z = .bl k ∧ Q k H3) (Q := fun z H3 => ∃ k, z = .bl k ∧ Q k H3) sr (wpM_mono w2 fun r0 wr v J1 H1 e1 r1 => ?_)
      fun x y u v J2 H2 sr2 e2 r1 r2 q => hf H H J2 H2 x y u v _ sr2.hp r1 r2 q
    split at wr
    · cases r1; exact ⟨_, rfl, wr J1 H1 e1⟩
    · exact wr.elim
noncomputable def gAnd (g h : G Bool) : G Bool := fun env => g env >>= fun k => if k = true then h env else .ok false
noncomputable def gOr (g h : G Bool) : G Bool := fun env => g env >>= fun k => if k = true then .ok true else h env
noncomputable def gNot (g : G Bool) : G Bool := fun env => g env >>= fun k => .ok (!k)
noncomputable def PBw (X : Cx) (c : C) (e : Expr) (g : G Bool) : Prop := PW X e (tB c g)
variable {t u : G Bool} {rest : List Expr}
theorem PBw.pb (h : PBw X c e t) : PB X c e t := PW.pt h
theorem pb_or1 (h : PB X c a t) : PBw X c (.BoolOp .Or [a] pos) t := pw_or1 h
theorem pwImp {X : Cx} {e : Expr} {t t' : TT} (h : PW X e t) (k : ∀ σ H Q, t' σ H Q → t σ H Q) : PW X e t' := fun wh pins s σ H Q I q => h wh pins s σ H Q I (k σ H Q q)
theorem pb_or (h : PB X c a t) (h' : PBw X c (.BoolOp .Or (b :: rest) pos) u) : PBw X c (.BoolOp .Or (a :: b :: rest) pos) (gOr t u) := pwImp (pw_or h h') fun σ H Q ⟨J, env, sr, w⟩ => by
  refine ⟨J, env, sr, wpM_mono (wpM_bind w) fun k wk J1 H1 e1 => ?_⟩
  cases k with
  | true =>
    rw [if_pos rfl] at wk ⊢
    exact wk J1 H1 e1
  | false =>
    rw [if_neg (by decide)] at wk ⊢
    exact ⟨J1, env, sr.ext e1, wpM_mono wk fun k q J2 H2 e2 => q J2 H2 (e1.trans e2)⟩
theorem pb_not (h : PB X c a t) : PB X c (.UnaryOp .Not a pos) (gNot t) := ptImp (pt_not h) fun σ H Q ⟨J, env, sr, w⟩ => ⟨J, env, sr, wpM_mono (wpM_bind w) fun k wk J1 H1 e1 => wk J1 H1 e1⟩
/-- and, or, not as values -/
noncomputable def gAndV (g h : G R) : G R := fun env => g env >>= fun r => match r with
  | .d (.bl true) => h env
  | .d (.bl false) => .ok (.d (.bl false))
  | _ => .bad
noncomputable def gOrV (g h : G R) : G R := fun env => g env >>= fun r => match r with
  | .d (.bl false) => h env
  | .d (.bl true) => .ok (.d (.bl true))
  | _ => .bad
noncomputable def gNotV (g : G R) : G R := fun env => g env >>= fun r => match r with
  | .d (.bl k) => .ok (.d (.bl (!k)))
  | _ => .bad
theorem pd_and1 {op} (h : PD X c a ga) : PD X c (.BoolOp op [a] pos) ga := pe_one h
theorem pd_and (h : PD X c a ga) (h' : PD X c (.BoolOp .And (b :: rest) pos) gb) : PD X c (.BoolOp .And (a :: b :: rest) pos) (gAndV ga gb) := peImp (pe_and h h') fun σ H Q ⟨J, env, sr, w⟩ => by
  refine ⟨J, env, sr, wpM_mono (wpM_bind w) fun r wr v J1 H1 e1 r1 => ?_⟩
  split at wr
  · cases r1
    exact ⟨true, rfl, iteT ⟨J1, env, sr.ext e1, wpM_mono wr fun z q v J2 H2 e2 r2 => q v J2 H2 (e1.trans e2) (RR.from e1.h r2)⟩⟩
  · cases r1
    exact ⟨false, rfl, iteF (wr _ J1 H1 e1 (.bl _))⟩
  · exact wr.elim
theorem pd_or (h : PD X c a ga) (h' : PD X c (.BoolOp .Or (b :: rest) pos) gb) : PD X c (.BoolOp .Or (a :: b :: rest) pos) (gOrV ga gb) := peImp (pe_or h h') fun σ H Q ⟨J, env, sr, w⟩ => by
  refine ⟨J, env, sr, wpM_mono (wpM_bind w) fun r wr v J1 H1 e1 r1 => ?_⟩
  split at wr
  · cases r1
    exact ⟨false, rfl, iteF ⟨J1, env, sr.ext e1, wpM_mono wr fun z q v J2 H2 e2 r2 => q v J2 H2 (e1.trans e2) (RR.from e1.h r2)⟩⟩
  · cases r1
    exact ⟨true, rfl, iteT (wr _ J1 H1 e1 (.bl _))⟩
  · exact wr.elim
theorem pd_not (h : PD X c a ga) : PD X c (.UnaryOp .Not a pos) (gNotV ga) := peImp (pe_not h) fun σ H Q ⟨J, env, sr, w⟩ => by
  refine ⟨J, env, sr, wpM_mono (wpM_bind w) fun r wr v J1 H1 e1 r1 => ?_⟩
  split at wr
  · cases r1
    exact ⟨_, rfl, wr _ J1 H1 e1 (.bl _)⟩
  · exact wr.elim
noncomputable def gIf (t : G Bool) (g h : G R) : G R := fun env => t env >>= fun k => if k = true then g env else h env
theorem pd_ife {x : Expr} (hx : PB X c x t) (h : PD X c a ga) (h' : PD X c b gb) : PD X c (.IfExp x a b pos) (gIf t ga gb) := peImp (pe_ifExp hx h h') fun σ H Q ⟨J, env, sr, w⟩ => by
  refine ⟨J, env, sr, wpM_mono (wpM_bind w) fun k wk J1 H1 e1 => ?_⟩
  cases k with
  | true =>
    rw [if_pos rfl] at wk ⊢
    exact ⟨J1, env, sr.ext e1, wpM_mono wk fun z q v J2 H2 e2 r2 => q v J2 H2 (e1.trans e2) (RR.from e1.h r2)⟩
  | false =>
    rw [if_neg (by decide)] at wk ⊢
    exact ⟨J1, env, sr.ext e1, wpM_mono wk fun z q v J2 H2 e2 r2 => q v J2 H2 (e1.trans e2) (RR.from e1.h r2)⟩
end
end DL
set_option Elab.async false
set_option linter.all false
set_option maxRecDepth 100000
set_option maxHeartbeats 4000000
namespace DL
open PySem PySem.Spec PyProof.Rows L2
section
variable {X : Cx} {c : C} {e a b tg : Expr} {es : List Expr} {ga gb g : G R} {pos : Pos} {st : Stmt} {rest : List Stmt} {t u : G O} {tb : G Bool}
/-! ### statements -/
noncomputable def gNx : G O := fun env => .ok (.nx env)
noncomputable def gSeq (t u : G O) : G O := fun env => t env >>= fun o => match o with
  | .nx e => u e
  | o => .ok o
theorem pds_nil : PDs X c [] gNx := pssImp pss_nil fun E σ H ⟨J, env, sr, w⟩ => w σ J H (Same.refl J) sr
theorem pds_cons (h : PD1 X c st t) (h' : PDs X c rest u) : PDs X c (st :: rest) (gSeq t u) := pssImp (pss_cons h h') fun E σ H ⟨J, env, sr, w⟩ => by
  refine ⟨J, env, sr, wpM_mono (wpM_bind w) fun o wo => ?_⟩
  cases o with
  | nx e => exact fun σ' J' H' s' sr' => ⟨J', e, sr', wpM_mono wo fun o q => q.mono s'⟩
  | rt r => exact wo
  | bk e => exact wo
  | ct e => exact wo
theorem pds_one (h : PD1 X c st t) : PDs X c [st] t := pss_one h
noncomputable def gDrop (g : G R) : G O := fun env => g env >>= fun _ => .ok (.nx env)
theorem pd1_expr (h : PD X c e g) (hs : swapsWith e none pos.line X.env = pure false := by rfl) : PD1 X c (.Expr e pos) (gDrop g) := psImp (ps_expr h hs) fun E σ H ⟨J, env, sr, w⟩ =>
  ⟨J, env, sr, wpM_mono (wpM_bind w) fun r wr v J1 H1 e1 r1 => wr σ J1 H1 e1.j (sr.ext e1)⟩
noncomputable def rF : R → M R
  | .d x => .ok (.d x)
  | .l .fresh xs => .ok (.l .fresh xs)
  | .l .own xs => .ok (.l .fresh xs)
  | .l .bor _ => .bad
noncomputable def gRet (g : G R) : G O := fun env => g env >>= fun r => rF r >>= fun r => .ok (.rt r)
theorem RR.rf {J H J1 H1 : Hp} (hp : HI c J H) : ∀ {r r' : R} {v : V}, RR c H J1 H1 r v → rF r = .ok r' → RF c J1 H1 r' v
  | .d x, r', v, h, e => by cases e; exact h
  | .l .fresh xs, r', v, ⟨a, vs, h1, h2, h3, h4, h5⟩, e => by cases e; exact ⟨a, vs, h1, h2, h3, hp.ent.free h4, h5⟩
  | .l .own xs, r', v, ⟨a, vs, h1, h2, h3, h4, h5⟩, e => by cases e; exact ⟨a, vs, h1, h2, h3, h4, h5⟩
  | .l .bor _, _, _, _, e => nomatch e
theorem pd1_ret (h : PD X c e g) : PD1 X c (.Return (some e) pos) (gRet g) := psImp (ps_ret h) fun E σ H ⟨J, env, sr, w⟩ => by
  refine ⟨J, env, sr, wpM_mono (wpM_bind w) fun r wr v J1 H1 e1 r1 => ?_⟩
  cases q : rF r with
  | bad => rw [q] at wr; exact wr.elim
  | exc x => cases r with
    | d _ => cases q
    | l m _ => cases m <;> cases q
  | ok r' => rw [q] at wr; exact wr v J1 H1 e1.j (sr.hp.ext e1) (RR.rf sr.hp r1 q)
noncomputable def gIfS (b : G Bool) (t u : G O) : G O := fun env => b env >>= fun k => if k = true then t env else u env
theorem pd1_if {x : Expr} {as bs : List Stmt} (hx : PB X c x tb) (h : PDs X c as t) (h' : PDs X c bs u) : PD1 X c (.If x as bs pos) (gIfS tb t u) := psImp (ps_if hx h h') fun E σ H ⟨J, env, sr, w⟩ => by
  refine ⟨J, env, sr, wpM_mono (wpM_bind w) fun k wk J1 H1 e1 => ?_⟩
  cases k with
  | true =>
    rw [if_pos rfl] at wk ⊢
    exact ⟨J1, env, sr.ext e1, wpM_mono wk fun o q => q.mono e1.j⟩
  | false =>
    rw [if_neg (by decide)] at wk ⊢
    exact ⟨J1, env, sr.ext e1, wpM_mono wk fun o q => q.mono e1.j⟩
/-! ### assignments -/
noncomputable def toS : R → M S
  | .d x => .ok (.d x)
  | .l .fresh xs => .ok (.own xs)
  | .l .bor xs => .ok (.bor xs)
  | .l .own _ => .bad
theorem set_at {α : Type} {l : List (Option α)} {i j : Nat} {x y : α} (h : (l.set i (some x))[j]? = some (some y)) : (j = i ∧ i < l.length ∧ y = x) ∨ (j ≠ i ∧ l[j]? = some (some y)) := by
  by_cases e : j = i
  · subst e
    have hj : j < l.length := by
      have := (List.getElem?_eq_some_iff.mp h).1
      simpa using this
    rw [List.getElem?_set_self hj] at h
    cases h
    exact .inl ⟨rfl, hj, rfl⟩
  · rw [List.getElem?_set_ne (Ne.symm e)] at h
    exact .inr ⟨e, h⟩
/-- a slot given a value that is no list of its own -/
theorem SR.setD {J H : Hp} {σ : L2.St} {env : Ev} (sr : SR c J H σ env) {i : Nat} {x : S} {v : V} (h : SRep c J H x v) (hx : ∀ xs, x ≠ .own xs) : SR c J H (σ.set i (some v)) (env.set i (some x)) := by
  refine ⟨sr.hp, by simpa using sr.len, fun j y q => ?_, fun j k xs ys w hjk q1 q2 q3 q4 => ?_⟩
  · rcases set_at q with ⟨rfl, hl, rfl⟩ | ⟨hj, q⟩
    · exact ⟨v, by rw [List.getElem?_set_self (by rw [← sr.len]; exact hl)], h⟩
    · obtain ⟨w, h1, h2⟩ := sr.at_ j y q
      exact ⟨w, by rw [List.getElem?_set_ne (Ne.symm hj)]; exact h1, h2⟩
  · rcases set_at q1 with ⟨rfl, hl, e⟩ | ⟨hj, q1⟩
    · exact hx xs e.symm
    · rcases set_at q2 with ⟨rfl, hl, e⟩ | ⟨hk, q2⟩
      · exact hx ys e.symm
      · rw [List.getElem?_set_ne (Ne.symm hj)] at q3
        rw [List.getElem?_set_ne (Ne.symm hk)] at q4
        exact sr.sep j k xs ys w hjk q1 q2 q3 q4
/-- a slot given a value; He the heap ahead of it, where the state stood -/
theorem SR.set {J He : Hp} {σ : L2.St} {env : Ev} (sr : SR c J He σ env) {J1 H1 : Hp} (e1 : Ext J He J1 H1) {i : Nat} {r : R} {x : S} {v : V} (h : RR c He J1 H1 r v) (q : toS r = .ok x) : SR c J1 H1 (σ.set i (some v)) (env.set i (some x)) := by
  have sr1 := sr.ext e1
  cases r with
  | d y => cases q; exact sr1.setD h (fun _ z => nomatch z)
  | l m xs =>
    cases m with
    | own => cases q
    | bor => cases q; exact sr1.setD h (fun _ z => nomatch z)
    | fresh =>
      cases q
      obtain ⟨p, vs, rfl, h1, h2, h3, h4⟩ := h
      have old : ∀ (j : Nat) (ys : List D), env[j]? = some (some (.own ys)) → σ[j]? ≠ some (some (.ref p)) := fun j ys qj z => by
        obtain ⟨w, k1, a, us, k2, k3, _⟩ := sr.at_ j _ qj
        rw [z] at k1
        cases k1
        cases k2
        rw [h3] at k3
        cases k3
      refine ⟨sr1.hp, by simpa using sr.len, fun j y q => ?_, fun j k ys zs w hjk q1 q2 q3 q4 => ?_⟩
      · rcases set_at q with ⟨rfl, hl, rfl⟩ | ⟨hj, q⟩
        · exact ⟨.ref p, by rw [List.getElem?_set_self (by rw [← sr.len]; exact hl)], p, vs, rfl, h1, h2, sr.hp.ent.free h3, h4⟩
        · obtain ⟨w, k1, k2⟩ := sr1.at_ j y q
          exact ⟨w, by rw [List.getElem?_set_ne (Ne.symm hj)]; exact k1, k2⟩
      · rcases set_at q1 with ⟨rfl, hl, e⟩ | ⟨hj, q1'⟩
        · rcases set_at q2 with ⟨rfl, _, _⟩ | ⟨hk, q2⟩
          · exact hjk rfl
          · rw [List.getElem?_set_self (by rw [← sr.len]; exact hl)] at q3
            cases q3
            rw [List.getElem?_set_ne (Ne.symm hk)] at q4
            exact old k zs q2 q4
        · rw [List.getElem?_set_ne (Ne.symm hj)] at q3
          rcases set_at q2 with ⟨rfl, hl, e⟩ | ⟨hk, q2⟩
          · rw [List.getElem?_set_self (by rw [← sr.len]; exact hl)] at q4
            cases q4
            exact old j ys q1' q3
          · rw [List.getElem?_set_ne (Ne.symm hk)] at q4
            exact sr.sep j k ys zs w hjk q1' q2 q3 q4
theorem wpM_toS {α : Type} {x : R} {f : S → M α} {Q : α → Prop} {T : Exc → Prop} (w : wpM (toS x >>= f) Q T) : ∃ d, toS x = .ok d ∧ wpM (f d) Q T := by
  cases q : toS x with
  | bad => rw [q] at w; exact w.elim
  | ok xs => rw [q] at w; exact ⟨xs, rfl, w⟩
  | exc z => unfold toS at q; split at q <;> cases q
noncomputable def gSet (i : Nat) (g : G R) : G O := fun env => g env >>= fun r => toS r >>= fun x => .ok (.nx (env.set i (some x)))
theorem pd1_set (i : Nat) {x : Str} {pos' : Pos} (hN : X.N.Nodup) (h : PD X c e g) (hi : X.N[i]? = some x := by rfl) (hx : Loc X.env.scope x := by first | exact Or.inl rfl | exact Or.inr rfl) (hs : swapsWith e (some (.Name x pos')) pos.line X.env = pure false := by rfl)
    (hf : X.fn x = true ∨ X.env.scope.names.lookup x = some .local := by first | exact .inl rfl | exact .inr rfl) : PD1 X c (.Assign [.Name x pos'] e pos) (gSet i g) := psImp (ps_set hN hi hx h hs hf) fun E σ H ⟨J, env, sr, w⟩ => by
  refine ⟨J, env, sr, wpM_mono (wpM_bind w) fun r wr v J1 H1 e1 r1 => ?_⟩
  obtain ⟨x, q, wr⟩ := wpM_toS wr
  exact wr (σ.set i (some v)) J1 H1 e1.j (sr.set e1 r1 q)
/-! ### targets -/
noncomputable abbrev GT := D → Ev → M Ev
/-- lists of one's own stay where they are -/
noncomputable def KO (env : Ev) (σ : L2.St) (e : Ev) (σ' : L2.St) : Prop := ∀ (j : Nat) (xs : List D), e[j]? = some (some (.own xs)) → env[j]? = some (some (.own xs)) ∧ σ'[j]? = σ[j]?
theorem KO.refl {env : Ev} {σ : L2.St} : KO env σ env σ := fun _ _ h => ⟨h, rfl⟩
theorem KO.trans {env e1 e2 : Ev} {σ s1 s2 : L2.St} (a : KO env σ e1 s1) (b : KO e1 s1 e2 s2) : KO env σ e2 s2 := fun j xs h => by
  obtain ⟨h1, h2⟩ := b j xs h
  obtain ⟨h3, h4⟩ := a j xs h1
  exact ⟨h3, h2.trans h4⟩
noncomputable def tT (c : C) (g : GT) : TG := fun v σ H Q => ∃ J env d, SR c J H σ env ∧ Rep c.K J d v ∧ wpM (g d env) (fun e => ∀ σ', SR c J H σ' e → KO env σ e σ' → Q σ' H) c.T
noncomputable def PTg (X : Cx) (c : C) (tg : Expr) (g : GT) : Prop := PG X tg (tT c g)
noncomputable abbrev GTs := List D → Ev → M Ev
noncomputable def tTs (c : C) (g : GTs) : TGs := fun vs σ H Q => ∃ J env ds, SR c J H σ env ∧ Reps c.K J ds vs ∧ wpM (g ds env) (fun e => ∀ σ', SR c J H σ' e → KO env σ e σ' → Q σ' H) c.T
noncomputable def PTgs (X : Cx) (c : C) (tgs : List Expr) (g : GTs) : Prop := PGs X tgs (tTs c g)
theorem pgImp {X : Cx} {e : Expr} {t t' : TG} (h : PG X e t) (k : ∀ v σ H Q, t' v σ H Q → t v σ H Q) : PG X e t' := fun pins s σ H v u Q I r q => h pins s σ H v u Q I r (k v σ H Q q)
theorem pgsImp {X : Cx} {e : List Expr} {t t' : TGs} (h : PGs X e t) (k : ∀ v σ H Q, t' v σ H Q → t v σ H Q) : PGs X e t' := fun pins s σ H vs us Q I r q => h pins s σ H vs us Q I r (k vs σ H Q q)
noncomputable def tgName (i : Nat) : GT := fun d env => .ok (env.set i (some (.d d)))
theorem ptg_name (i : Nat) {x : Str} (hN : X.N.Nodup) (hi : X.N[i]? = some x := by rfl) (hx : Loc X.env.scope x := by first | exact Or.inl rfl | exact Or.inr rfl) (hf : X.fn x = true ∨ X.env.scope.names.lookup x = some .local := by first | exact .inl rfl | exact .inr rfl) : PTg X c (.Name x pos) (tgName i) :=
  pgImp (pg_name hN hi hx hf) fun v σ H Q ⟨J, env, d, sr, rd, w⟩ => w _ (sr.setD (x := .d d) rd fun _ z => nomatch z) fun j xs q => by
    rcases set_at q with ⟨_, _, e⟩ | ⟨hj, q⟩
    · cases e
    · exact ⟨q, List.getElem?_set_ne (Ne.symm hj)⟩
noncomputable def tgNil : GTs := fun ds env => match ds with
  | [] => .ok env
  | _ => .bad
noncomputable def tgCons (t : GT) (u : GTs) : GTs := fun ds env => match ds with
  | d :: r => t d env >>= fun e => u r e
  | [] => .bad
theorem ptgs_nil : PTgs X c [] tgNil := pgsImp pgs_nil fun vs σ H Q ⟨J, env, ds, sr, rd, w⟩ => by
  cases rd with
  | nil => exact ⟨rfl, w σ sr KO.refl⟩
  | cons _ _ => exact w.elim
theorem ptgs_cons {t : GT} {u : GTs} (h : PTg X c e t) (h' : PTgs X c es u) (hs : (assignEach (e :: es) X.env).map (·.2) = assign e X.env :: (assignEach es X.env).map (·.2) := by rfl) : PTgs X c (e :: es) (tgCons t u) :=
  pgsImp (pgs_cons h h' hs) fun vs σ H Q ⟨J, env, ds, sr, rd, w⟩ => by
    cases rd with
    | nil => exact w.elim
    | cons r rs =>
      refine ⟨_, _, rfl, J, env, _, sr, r, wpM_mono (wpM_bind w) fun e1 w1 σ' sr' ko => ?_⟩
      exact ⟨J, e1, _, sr', rs, wpM_mono w1 fun e2 q σ2 sr2 ko2 => q σ2 sr2 (ko.trans ko2)⟩
noncomputable def tgTup (n : Nat) (u : GTs) : GT := fun d env => match d with
  | .tup ds => if ds.length = n then u ds env else .bad
  | _ => .bad
theorem ptg_tup {k : Nat} {u : GTs} {n : Nat} (h : PTgs X c es u) (hc : X.calm = true := by rfl) (hK : X.K = c.K := by rfl) (hn : (assignEach es X.env).length = n := by rfl) (hst : (assignEach es X.env).findIdx? (·.1) = none := by rfl) : PTg X c (.Tuple es k pos) (tgTup n u) :=
  pgImp (pg_tup hc h hn hst) fun v σ H Q ⟨J, env, d, sr, rd, w⟩ => by
    cases rd with
    | tup h1 h2 =>
      unfold tgTup at w
      simp only at w
      split at w
      · rename_i hl
        exact ⟨_, _, rfl, by rw [hK]; exact sameT sr.hp.sub h1, by rw [← h2.length]; exact hl, J, env, _, sr, h2, w⟩
      · exact w.elim
    | _ => exact w.elim
/-- (a, b) = e -/
noncomputable def gAsg (t : GT) (g : G R) : G O := fun env => g env >>= fun r => toD r >>= fun d => t d env >>= fun e => .ok (.nx e)
theorem pd1_asg {t : GT} (h : PD X c e g) (ht : PTg X c tg t)
    (hq : PS X (.Assign [tg] e pos) (tAsg (tD c g) (tT c t))) : PD1 X c (.Assign [tg] e pos) (gAsg t g) := psImp hq fun E σ H ⟨J, env, sr, w⟩ => by
  refine ⟨J, env, sr, wpM_mono (wpM_bind w) fun r wr v J1 H1 e1 r1 => ?_⟩
  obtain ⟨d, q, wr⟩ := wpM_toD wr
  obtain ⟨J1', e1', s1, rd⟩ := freeze e1 r1 q
  refine ⟨J1', env, d, sr.ext e1', rd, wpM_mono (wpM_bind wr) fun e2 w2 σ' sr' _ => ?_⟩
  exact w2 σ' J1' H1 e1'.j sr'
/-! ### loops -/
/-- it walks ds, whatever is done meanwhile -/
noncomputable def Walk (c : C) (It : It) (ds : List D) (J1 : Hp) (U : Hp → Hp → Prop) : Prop := ∀ (i : Nat) (J H : Hp), HI c J H → U J H →
  (ds.length ≤ i → It.stop i H) ∧ ∀ d, ds[i]? = some d → It.go i H ∧ ∀ x H2, It.yld i H x H2 → ∃ J2, Ext J H J2 H2 ∧ Rep c.K J2 d x
noncomputable def tI (c : C) (g : G (List D)) : TI := fun σ H Q => ∃ J env, SR c J H σ env ∧ wpM (g env) (fun ds => ∀ It J1 H1, Ext J H J1 H1 → Walk c It ds J1 (fun J' _ => Same J1 J') → Q It H1) c.T
noncomputable def PIt (X : Cx) (c : C) (tg iter : Expr) (g : G (List D)) : Prop := PI X tg iter (tI c g)
theorem piImp {X : Cx} {tg it : Expr} {t t' : TI} (h : PI X tg it t) (k : ∀ σ H Q, t' σ H Q → t σ H Q) : PI X tg it t' := fun pins s σ H Q I q => h pins s σ H Q I (k σ H Q q)
/-- the turns -/
noncomputable def loopG (t : GT) (u : G O) : List D → Ev → M O
  | [], env => .ok (.nx env)
  | d :: ds, env => t d env >>= fun e => u e >>= fun o => match o with
    | .nx e => loopG t u ds e
    | .ct e => loopG t u ds e
    | .bk e => .ok (.nx e)
    | .rt r => .ok (.rt r)
noncomputable def gFor (g : G (List D)) (t : GT) (u : G O) : G O := fun env => g env >>= fun ds => loopG t u ds env
theorem pd1_for {iter : Expr} {body : List Stmt} {gi : G (List D)} {t : GT} (hi : PIt X c tg iter gi) (ht : PTg X c tg t) (hb : PDs X c body u) (hp : PassesOwn (model X.prog X.w) X.A X.env X.xe := by first | exact PassesOwn.never | exact PassesOwn.leaving) (hc : X.calm = true := by rfl)
    (hs : ∀ x, foldedSetIterable iter X.env x = pure x := by intro _; rfl) : PD1 X c (.For tg iter body [] pos) (gFor gi t u) := psImp (ps_for hp hc hi ht hb hs) fun E σ H ⟨J, env, sr, w⟩ => by
  refine ⟨J, env, sr, wpM_mono (wpM_bind w) fun ds wd It J1 H1 e1 wk => ?_⟩
  refine ⟨fun i m σ H => m = ds.length - i ∧ ∃ J' env, Same J1 J' ∧ SR c J' H σ env ∧ wpM (loopG t u (ds.drop i) env) (oP c J' E) c.T,
    ⟨ds.length, by simp, J1, env, Same.refl J1, sr.ext e1, by rw [List.drop_zero]; exact wpM_mono wd fun o q => q.mono e1.j⟩, ?_⟩
  rintro i m σ H ⟨rfl, J', env, s', sr', w'⟩
  obtain ⟨w1, w2⟩ := wk i J' H sr'.hp s'
  by_cases hlt : i < ds.length
  · obtain ⟨g1, y1⟩ := w2 ds[i] (by simp [hlt])
    rw [List.drop_eq_getElem_cons hlt] at w'
    refine .inr ⟨g1, fun σ2 H2 => ∃ J2 env2, Same J' J2 ∧ SR c J2 H2 σ2 env2 ∧ wpM (loopG t u (ds.drop (i + 1)) env2) (oP c J2 E) c.T, ?_, ?_⟩
    · rintro σ2 H2 ⟨J2, env2, s2, sr2, w2⟩
      exact ⟨ds.length - (i + 1), by omega, rfl, J2, env2, s'.trans s2, sr2, w2⟩
    · intro x H2 hy
      obtain ⟨J2, e2, rx⟩ := y1 x H2 hy
      refine ⟨J2, env, ds[i], sr'.ext e2, rx, wpM_mono (wpM_bind w') fun env3 w3 σ3 sr3 _ => ?_⟩
      refine ⟨J2, env3, sr3, wpM_mono (wpM_bind w3) fun o wo => ?_⟩
      cases o with
      | nx env4 => exact fun σ4 J4 H4 s4 sr4 => ⟨J4, env4, e2.j.trans s4, sr4, wpM_mono wo fun o q => q.mono (e2.j.trans s4)⟩
      | ct env4 => exact fun σ4 J4 H4 s4 sr4 => ⟨J4, env4, e2.j.trans s4, sr4, wpM_mono wo fun o q => q.mono (e2.j.trans s4)⟩
      | bk env4 => exact fun σ4 J4 H4 s4 sr4 => wo σ4 J4 H4 (e2.j.trans s4) sr4
      | rt r => exact fun v J4 H4 s4 h4 r4 => wo v J4 H4 (e2.j.trans s4) h4 r4
  · rw [List.drop_eq_nil_of_le (by omega)] at w'
    exact .inl ⟨w1 (by omega), w' σ J' H (Same.refl J') sr'⟩
/-! what is walked -/
theorem walk_list {J1 : Hp} {a : Addr} {vs : List V} {ds : List D} (h : SqL c.K J1 a vs ∨ SqL c.K c.H0 a vs) (hs : Reps c.K J1 ds vs) : Walk c (Itl c.K a) ds J1 (fun J' _ => Same J1 J') := by
  intro i J H hp u
  have h' : SqL c.K H a vs := h.elim (fun h => hp.sub.seq (u.seq h)) fun h => hp.ent.seq h
  refine ⟨fun hl => ⟨vs, h', by rw [← hs.length]; exact hl⟩, fun d hd => ?_⟩
  obtain ⟨v, h1, h2⟩ := hs.get hd
  refine ⟨⟨vs, v, h', h1⟩, fun x H2 ⟨e, hy⟩ => ?_⟩
  subst e
  have := hy vs h'
  rw [h1] at this
  cases this
  exact ⟨J, Ext.refl hp.sub, h2.mono u⟩
/-- lo, lo + 1, .. -/
noncomputable def rngD (lo : Int) (n : Nat) : List D := (List.range n).map fun (k : Nat) => .int (lo + (k : Int))
theorem walk_range {J1 : Hp} {lo : Int} {n : Nat} {Ut : Hp → Hp → Prop} : Walk c (Itr lo n) (rngD lo n) J1 Ut := by
  intro i J H hp u
  refine ⟨fun hl => (show n ≤ i by simpa [rngD] using hl), fun d hd => ?_⟩
  have hi : i < n := by
    have := (List.getElem?_eq_some_iff.mp hd).1
    simpa [rngD] using this
  have hd' : d = .int (lo + i) := by
    unfold rngD at hd
    rw [List.getElem?_map, List.getElem?_range hi] at hd
    exact (Option.some.inj hd).symm
  subst hd'
  exact ⟨hi, fun x H2 ⟨e, hx⟩ => by subst e hx; exact ⟨J, Ext.refl hp.sub, .int _⟩⟩
noncomputable def gRng1 (gs : G (List R)) : G (List D) := fun env => gs env >>= fun rs => match rs with
  | [.d (.int j)] => if below 4611686018427387904 j then .ok (rngD 0 j.toNat) else .bad
  | _ => .bad
theorem pit_range1 {p : Pos} {gs : G (List R)} (ha : PAr X c [a] gs) (hm : X.mg "range" = none) (hg : Gl X "range" := by rfl) (hs : starEach [a] X.env = [(false, eval a X.env)] := by rfl) : PIt X c tg (.Call (.Name "range" p) [a] [] pos) (gRng1 gs) :=
  piImp (pi_range1 hg hm ha hs) fun σ H Q ⟨J, env, sr, w⟩ => by
    refine ⟨J, env, sr, wpM_mono (wpM_bind w) fun rs wr vs J1 H1 e1 r1 => ?_⟩
    split at wr
    · split at wr
      · rename_i h
        obtain ⟨v, rfl, r⟩ := r1.one
        cases r
        have h := below_iff.mp h
        exact ⟨_, rfl, Int.le_of_lt h.1, h.2, wr _ J1 H1 e1 walk_range⟩
      · exact wr.elim
    · exact wr.elim
/-! what a comprehension walks: nothing is changed meanwhile -/
noncomputable def tIc (c : C) (g : G (List D)) : TI := fun σ H Q => ∃ J env, SR c J H σ env ∧ wpM (g env) (fun ds => ∀ It J1 H1, Ext J H J1 H1 → Walk c It ds J1 (fun J' H' => Same J1 J' ∧ Same H1 H') → Q It H1) c.T
noncomputable def PIc (X : Cx) (c : C) (tg iter : Expr) (g : G (List D)) : Prop := PI X tg iter (tIc c g)
theorem PIt.pic {gi : G (List D)} (h : PIt X c tg e gi) : PIc X c tg e gi := piImp h fun σ H Q ⟨J, env, sr, w⟩ =>
  ⟨J, env, sr, wpM_mono w fun ds q It J1 H1 e1 wk => q It J1 H1 e1 fun i J' H' hp u => wk i J' H' hp u.1⟩
end
end DL
set_option Elab.async false
set_option linter.all false
set_option maxRecDepth 100000
set_option maxHeartbeats 4000000
namespace DL
open PySem PySem.Spec PyProof.Rows L2
section
variable {X : Cx} {c : C} {e a b tg : Expr} {es : List Expr} {ga gb g : G R} {pos : Pos}
/-! ### x.append(e) -/
theorem SR.upd {J H : Hp} {σ : L2.St} {env : Ev} (sr : SR c J H σ env) {i : Nat} {xs xs' : List D} {p : Addr} {vs vs' : List V} (hi : env[i]? = some (some (.own xs))) (hs : σ[i]? = some (some (.ref p))) (hH : H p = some (.lst vs)) (hJ : J p = none) (h0 : c.H0 p = none)
    (h : Reps c.K J xs' vs') : SR c J (L2.upd H p (.lst vs')) σ (env.set i (some (.own xs'))) := by
  have hil : i < env.length := (List.getElem?_eq_some_iff.mp hi).1
  refine ⟨⟨fun b o q => ?_, fun b o q => ?_, sr.hp.entJ, sr.hp.frz⟩, by simpa using sr.len, fun j y q => ?_, fun j k ys zs w hjk q1 q2 q3 q4 => ?_⟩
  · have : b ≠ p := fun z => by rw [z, hJ] at q; cases q
    rw [upd_ne this]; exact sr.hp.sub b o q
  · have : b ≠ p := fun z => by rw [z, h0] at q; cases q
    rw [upd_ne this]; exact sr.hp.ent b o q
  · rcases set_at q with ⟨rfl, hl, rfl⟩ | ⟨hj, q⟩
    · exact ⟨.ref p, hs, p, vs', rfl, upd_same, hJ, h0, h⟩
    · obtain ⟨w, k1, k2⟩ := sr.at_ j y q
      refine ⟨w, k1, ?_⟩
      cases y with
      | d x => exact k2
      | bor zs => exact k2
      | own zs =>
        obtain ⟨p', us, rfl, m1, m2, m3, m4⟩ := k2
        have hne : p' ≠ p := fun z => sr.sep i j xs zs (.ref p) (Ne.symm hj) hi q hs (z ▸ k1)
        exact ⟨p', us, rfl, by rw [upd_ne hne]; exact m1, m2, m3, m4⟩
  · have f : ∀ (k : Nat) (ys : List D), (env.set i (some (.own xs')))[k]? = some (some (.own ys)) → ∃ ys', env[k]? = some (some (.own ys')) := fun k ys q => by
      rcases set_at q with ⟨rfl, _, _⟩ | ⟨_, q⟩
      · exact ⟨xs, hi⟩
      · exact ⟨ys, q⟩
    obtain ⟨ys', r1⟩ := f j ys q1
    obtain ⟨zs', r2⟩ := f k zs q2
    exact sr.sep j k ys' zs' w hjk r1 r2 q3 q4
noncomputable def gApp (i : Nat) (g : G R) : G O := fun env => match env[i]? with
  | some (some (.own xs)) => g env >>= fun r => toD r >>= fun d => if xs.length < sizeLine then .ok (.nx (env.set i (some (.own (xs ++ [d]))))) else .bad
  | _ => .bad
theorem pd1_append (i : Nat) {x : Str} {p1 p2 pos' : Pos} (h : PD X c e g) (hN : X.N[i]? = some x := by rfl) (hv : Vis X.env.scope x := by first | exact Or.inl rfl | exact Or.inr (Or.inl rfl) | exact Or.inr (Or.inr rfl)) (hd : (x == ("__debug__" : Str)) = false := by decide)
    (hcd : (x == ("__classdict__" : Str)) = false := by decide)
    (hbase : attributeBase (.Name x p1) "append" X.env (eval (.Name x p1) X.env) = eval (.Name x p1) X.env := by rfl)
    (hfew : ((backTo pos' (starEach [e] X.env)).all (fun x => !x.1) && (backToKw pos' (keywordEach [] X.env)).all (fun x => x.1.isSome)
      && decide (([e] : List Expr).length + ([] : List Keyword).length + (if ([] : List Keyword).isEmpty then 0 else 1) < 30)) = true := by rfl)
    (hline : (p2.endLine == pos'.line) = true := by rfl) (hst : starEach [e] X.env = (false, eval e X.env) :: starEach [] X.env := by rfl) (hplain : (backTo pos' (starEach [] X.env)).any (·.1) = false := by rfl)
    (hs : swapsWith (.Call (.Attribute (.Name x p1) "append" p2) [e] [] pos') none pos.line X.env = pure false := by rfl) :
    PD1 X c (.Expr (.Call (.Attribute (.Name x p1) "append" p2) [e] [] pos') pos) (gApp i g) :=
  psImp (ps_expr (pe_bm PySem.F.plainAttrs_list PySem.F.slot_list_append PySem.F.type_list_append mt_append (pe_var hN hv hd hcd) (pa_cons h pa_nil hst) hbase hfew hline hst hplain) hs) fun E σ H ⟨J, env, sr, w⟩ => by
    unfold gApp at w
    split at w
    · rename_i xs hi
      obtain ⟨v, h1, a, vs, rfl, h2, h3, h4, h5⟩ := sr.at_ i _ hi
      refine ⟨.ref a, h1, .inl ⟨rfl, vs, SqL.of h2⟩, ?_⟩
      refine ⟨J, env, sr, wpM_mono (wpM_bind w) fun r wr y J1 H1 e1 r1 => ?_⟩
      obtain ⟨d, q, wr⟩ := wpM_toD wr
      obtain ⟨J2, e2, s2, rd⟩ := freeze e1 r1 q
      split at wr
      · rename_i hz
        refine ⟨a, vs, y, rfl, rfl, e2.h _ _ h2, by rw [← h5.length]; exact hz, ?_⟩
        refine wr σ J2 _ e2.j ?_
        exact (sr.ext e2).upd hi h1 (e2.h _ _ h2) (e2.frz a (by rw [h2]; intro z; cases z) h3) h4 ((h5.mono e2.j).append (.cons rd .nil))
      · exact wr.elim
    · exact w.elim
/-! ### defs -/
noncomputable def toA : R → S
  | .d x => .d x
  | .l _ xs => .bor xs
noncomputable def ARep (K : PySem.W.Frag) (J H : Hp) : List S → List V → Prop
  | [], vs => vs = []
  | s :: ss, vs => ∃ v us, vs = v :: us ∧ (match s with
    | .d x => Rep K J x v
    | .bor xs => ∃ a ws, v = .ref a ∧ SqL K H a ws ∧ Reps K J xs ws
    | .own _ => False) ∧ ARep K J H ss us
theorem ARep.length {K : PySem.W.Frag} {J H : Hp} : ∀ {ss : List S} {vs : List V}, ARep K J H ss vs → vs.length = ss.length
  | [], _, h => by cases h; rfl
  | _ :: _, _, ⟨_, _, h, _, h2⟩ => by subst h; exact congrArg (· + 1) h2.length
theorem ARep.get {K : PySem.W.Frag} {J H : Hp} : ∀ {ss : List S} {vs : List V} {i : Nat} {s : S}, ARep K J H ss vs → ss[i]? = some s → ∃ v, vs[i]? = some v ∧ (match s with
    | .d x => Rep K J x v
    | .bor xs => ∃ a ws, v = .ref a ∧ SqL K H a ws ∧ Reps K J xs ws
    | .own _ => False)
  | [], _, _, _, _, e => by simp at e
  | _ :: _, _, 0, _, ⟨v, us, h, h1, h2⟩, e => by simp at e; subst e; subst h; exact ⟨v, rfl, h1⟩
  | _ :: _, _, i + 1, s, ⟨v, us, h, h1, h2⟩, e => by
    subst h
    obtain ⟨v, k1, k2⟩ := ARep.get (i := i) (s := s) h2 (by simpa using e)
    exact ⟨v, by simpa using k1, k2⟩
noncomputable def FR (K : PySem.W.Frag) (H J' H' : Hp) : R → V → Prop
  | .d x, v => Rep K J' x v
  | .l _ xs, v => ∃ a vs, v = .ref a ∧ H' a = some (.lst vs) ∧ J' a = none ∧ H a = none ∧ Reps K J' xs vs
/-- what a def promises: F upon the arguments -/
noncomputable def spD (K : PySem.W.Frag) (n : Nat) (F : List S → M R) : Sp := fun vs H Q _ => ∃ J as, Same J H ∧ as.length = n ∧ ARep K J H as vs ∧ wpM (F as) (fun r => ∀ v J' H', Ext J H J' H' → FR K H J' H' r v → Q v H') (fun _ => False)
noncomputable def fin : M O → M R
  | .ok (.rt r) => .ok r
  | .ok (.nx _) => .ok (.d .non)
  | .exc x => .exc x
  | _ => .bad
noncomputable def startE (N : List Str) (as : List S) : Ev := as.map some ++ List.replicate (N.length - as.length) none
theorem startE_at {N : List Str} {as : List S} {i : Nat} {x : S} (h : (startE N as)[i]? = some (some x)) : as[i]? = some x := by
  unfold startE at h
  by_cases hi : i < as.length
  · rw [List.getElem?_append_left (by simpa using hi), List.getElem?_map] at h
    cases q : as[i]? with
    | none => rw [q] at h; cases h
    | some y => rw [q] at h; cases h; rfl
  · rw [List.getElem?_append_right (by simpa using hi), List.getElem?_replicate] at h
    split at h <;> cases h
theorem start_at {N : List Str} {vs : List V} {i : Nat} {v : V} (h : vs[i]? = some v) : (L2.start N vs)[i]? = some (some v) := by
  unfold L2.start
  have hi : i < vs.length := (List.getElem?_eq_some_iff.mp h).1
  rw [List.getElem?_append_left (by simpa using hi), List.getElem?_map, h]
  rfl
theorem sr_start {K : PySem.W.Frag} {J H : Hp} {T : Exc → Prop} {N : List Str} {as : List S} {vs : List V} (hs : Same J H) (h : ARep K J H as vs) : SR ⟨K, H, J, T⟩ J H (L2.start N vs) (startE N as) := by
  have own : ∀ (i : Nat) (xs : List D), (startE N as)[i]? ≠ some (some (.own xs)) := fun i xs q => by
    obtain ⟨v, _, k⟩ := h.get (startE_at q)
    exact k
  refine ⟨⟨hs, Same.refl H, Same.refl J, fun _ _ q => q⟩, ?_, fun i x q => ?_, fun i j xs ys v _ q => absurd q (own i xs)⟩
  · unfold startE L2.start
    rw [List.length_append, List.length_append, List.length_map, List.length_map, List.length_replicate, List.length_replicate, h.length]
  · obtain ⟨v, k1, k2⟩ := h.get (startE_at q)
    refine ⟨v, start_at k1, ?_⟩
    cases x with
    | d y => exact k2
    | own y => exact k2.elim
    | bor y => exact k2
noncomputable abbrev cxD (P : Program) (w : World) (K : PySem.W.Frag) (mg : Str → Option Value) (base : Heap) (N : List Str) (qual : Str) (sc : Scope) (f : Addr) (cd : Value) (A : Around) (outer : List Env) (s : Shared) (H : Hp) (E : XK) : Cx := (cxOf CX0 P w K mg base N qual sc f cd A outer s H E).nox
theorem fn_okD {P : Program} {w : World} {K : PySem.W.Frag} {mg : Str → Option Value} {base : Heap} {x qual : Str} {st : Stmt} {f : Addr} {fd : FuncData} {N ps : List Str} {k : Nat} {Fm : List S → M R} (F : Fun K x qual st f fd) (Sc : FnScope N ps (defScope st)) {gB : G O}
    (hb : ∀ (cdv : Value) (A : Around) (outer : List Env) (s : Shared) (H : Hp) (E : XK) (J : Hp) (T : Exc → Prop), Room k (A.deeper (envOfC qual (defScope st) s.heap.objs.size f cdv)) →
      PDs (cxD P w K mg base N qual (defScope st) f cdv A outer s H E) ⟨K, H, J, T⟩ (defBody st) gB)
    (hF : ∀ as r, as.length = ps.length → Fm as = .ok r → fin (gB (startE N as)) = .ok r) : FnOk P w K mg base CX0 (k + 1) f fd ps (spD K ps.length Fm) := by
  refine F.ok Sc (fun vs H Q E h => ?_) (fun cdv A outer s H vs Q E hr h => ?_)
  · obtain ⟨J, as, h1, h2, h3, h4⟩ := h
    rw [h3.length, h2]
  · obtain ⟨J, as, h1, h2, h3, h4⟩ := h
    refine ⟨_, hb cdv A outer s H E J (fun _ => False) hr, J, startE N as, sr_start h1 h3, ?_⟩
    cases q : Fm as with
    | bad => rw [q] at h4; exact h4.elim
    | exc x => rw [q] at h4; exact h4.elim
    | ok r =>
      rw [q] at h4
      have z := hF as r h2 q
      have ext : ∀ {J' H' : Hp}, HI ⟨K, H, J, fun _ => False⟩ J' H' → Ext J H J' H' := fun hp => ⟨hp.ent, hp.entJ, hp.sub, hp.frz⟩
      cases qg : gB (startE N as) with
      | bad => rw [qg] at z; cases z
      | exc x => rw [qg] at z; cases z
      | ok o =>
        rw [qg] at z
        cases o with
        | bk _ => cases z
        | ct _ => cases z
        | nx env => cases z; exact fun σ' J' H' _ sr => h4 .non J' H' (ext sr.hp) .non
        | rt r' =>
          cases z
          exact fun v J' H' _ hp rf => h4 v J' H' (ext hp) (by
            cases r with
            | d x => exact rf
            | l m xs => exact rf)
noncomputable def frR : R → R
  | .d x => .d x
  | .l _ xs => .l .fresh xs
noncomputable def gCall (n : Nat) (F : List S → M R) : List R → M R := fun rs => if rs.length = n then (match F (rs.map toA) with
  | .ok r => .ok (frR r)
  | _ => .bad) else .bad
theorem RRs.args {He J H : Hp} (hp : HI c J H) : ∀ {rs : List R} {vs : List V}, RRs c He J H rs vs → ARep c.K J H (rs.map toA) vs
  | [], _, h => h
  | r :: rs, _, ⟨v, us, h, h1, h2⟩ => by
    refine ⟨v, us, h, ?_, RRs.args hp h2⟩
    cases r with
    | d x => exact h1
    | l m xs => exact RR.list hp h1 rfl
theorem pd_call {k n : Nat} {f : Addr} {fd : FuncData} {ps : List Str} {F : List S → M R} {x : Str} {p : Pos} {gs : G (List R)} (G : FnOk X.prog X.w X.K X.mg X.base CX0 k f fd ps (spD X.K n F)) (hr : Room k X.A) (hm : X.mg x = some (.ref f)) (hk : PySem.W.keepIn X.K (.ref f) = true)
    (hb : Binds X.K fd ps []) (ha : PAr X c (e :: es) gs) (hT : c.K = X.K := by rfl) (hg : Gl X x := by rfl) (hdb : (x == ("__debug__" : Str)) = false := by decide) (he : starEach (e :: es) X.env = (false, eval e X.env) :: starEach es X.env := by rfl)
    (hpl : (backTo pos (starEach es X.env)).any (·.1) = false := by rfl) : PD X c (.Call (.Name x p) (e :: es) [] pos) (gN (gCall n F) gs) :=
  peImp (pe_call (E := E0) G hr hg hm hk hb .nil pass0 ha hdb he hpl) fun σ H Q ⟨J, env, sr, w⟩ => by
    refine ⟨J, env, sr, wpM_mono (wpM_bind w) fun rs wr vs J1 H1 e1 r1 => ?_⟩
    unfold gCall at wr
    split at wr
    · rename_i hl
      have ar := r1.args (sr.hp.ext e1)
      rw [hT] at ar
      refine ⟨J1, rs.map toA, e1.sub, by simpa using hl, by rw [List.append_nil]; exact ar, ?_⟩
      cases q : F (rs.map toA) with
      | bad => rw [q] at wr; exact wr
      | exc x => rw [q] at wr; exact wr
      | ok r =>
        rw [q] at wr
        intro v J' H' e2 fr
        refine wr v J' H' (e1.trans e2) ?_
        cases r with
        | d y => exact (show Rep c.K J' y v from hT ▸ fr)
        | l m ys =>
          obtain ⟨a, us, h1, h2, h3, h4, h5⟩ := fr
          exact ⟨a, us, h1, h2, h3, e1.h.free h4, hT ▸ h5⟩
    · exact wr.elim
end
end DL
set_option Elab.async false
set_option linter.all false
set_option maxRecDepth 100000
set_option maxHeartbeats 4000000
namespace DL
open PySem PySem.Spec PyProof.Rows L2
/-! ### the cells that a comprehension takes along -/
noncomputable def clsOf (cells : List (Str × Addr)) : List (Str × NameKind) → List (Str × Addr) → Option (List (Str × Addr))
  | [], cs => some cs
  | (n, k) :: r, cs => if k == .free then (match cells.lookup n with
    | some a => clsOf cells r ((n, a) :: cs)
    | none => none) else clsOf cells r cs
theorem closure_run {env : Env} : ∀ (names : List (Str × NameKind)) (cs cl : List (Str × Addr)), clsOf env.cells names cs = some cl →
    (forIn names cs fun (x : Str × NameKind) (r : List (Str × Addr)) => (if (x.2 == .free) = true then do let a ← cellOf env x.1; pure (ForInStep.yield ((x.1, a) :: r)) else pure (ForInStep.yield r) : Sem (ForInStep (List (Str × Addr))))) = (pure cl : Sem (List (Str × Addr)))
  | [], cs, cl, h => by cases h; rfl
  | (n, k) :: r, cs, cl, h => by
    unfold clsOf at h
    rw [List.forIn_cons]
    cases hk : (k == NameKind.free) with
    | true =>
      rw [hk, if_pos rfl] at h
      cases hc : env.cells.lookup n with
      | none => rw [hc] at h; cases h
      | some a =>
        rw [hc] at h
        have e : cellOf env n = pure a := by unfold cellOf; rw [hc]
        simp only [hk, if_true, e]
        exact closure_run r ((n, a) :: cs) cl h
    | false =>
      rw [hk, if_neg (by decide)] at h
      simp only [hk]
      exact closure_run r cs cl h
theorem closureFor_of {scope : Scope} {env : Env} {cl : List (Str × Addr)} (h : clsOf env.cells scope.names [] = some cl) : closureFor scope env = pure cl := by
  have q := closure_run (env := env) scope.names [] cl h
  unfold closureFor
  show ((forIn scope.names [] fun (x : Str × NameKind) (r : List (Str × Addr)) => (if (x.2 == .free) = true then do let a ← cellOf env x.1; pure (ForInStep.yield ((x.1, a) :: r)) else pure (ForInStep.yield r) : Sem (ForInStep (List (Str × Addr))))) >>= fun z => pure z) = pure cl
  rw [q]
  rfl
theorem clsOf_mem {cells : List (Str × Addr)} : ∀ (names : List (Str × NameKind)) (cs cl : List (Str × Addr)), clsOf cells names cs = some cl → (∀ x c, cs.lookup x = some c → cells.lookup x = some c) →
    (∀ x c, cl.lookup x = some c → cells.lookup x = some c) ∧ (∀ x, ((cs.lookup x).isSome = true ∨ (x, NameKind.free) ∈ names) → (cl.lookup x).isSome = true)
  | [], cs, cl, h, k => by
    cases h
    exact ⟨k, fun x hx => hx.elim id fun z => by cases z⟩
  | (n, kd) :: r, cs, cl, h, k => by
    unfold clsOf at h
    cases hk : (kd == NameKind.free) with
    | true =>
      rw [hk, if_pos rfl] at h
      cases hc : cells.lookup n with
      | none => rw [hc] at h; cases h
      | some a =>
        rw [hc] at h
        obtain ⟨h1, h2⟩ := clsOf_mem r ((n, a) :: cs) cl h (fun x c q => by
          rw [List.lookup_cons] at q
          cases e : x == n with
          | true =>
            rw [e] at q
            cases q
            have : x = n := by simpa using e
            rw [this]; exact hc
          | false => rw [e] at q; exact k x c q)
        refine ⟨h1, fun x hx => h2 x ?_⟩
        by_cases e : x = n
        · left; subst e; rw [List.lookup_cons]; simp
        · have e' : (x == n) = false := by simpa using e
          rcases hx with hx | hx
          · left; rw [List.lookup_cons, e']; exact hx
          · right
            rcases List.mem_cons.mp hx with z | z
            · cases z; exact absurd rfl e
            · exact z
    | false =>
      rw [hk, if_neg (by decide)] at h
      obtain ⟨h1, h2⟩ := clsOf_mem r cs cl h k
      refine ⟨h1, fun x hx => h2 x ?_⟩
      rcases hx with hx | hx
      · exact .inl hx
      · rcases List.mem_cons.mp hx with z | z
        · cases z; simp at hk
        · exact .inr z
section
variable {X : Cx}
noncomputable def cN (X : Cx) (own : List Str) (cap : List Nat) : List Str := own ++ cap.map fun (j : Nat) => (X.N[j]?).getD ("" : Str)
/-- a comprehension's block -/
noncomputable def cxC (X : Cx) (own : List Str) (cap : List Nat) (scope : Scope) (cl : List (Str × Addr)) (C : Addr) (s : Shared) (H : Hp) (fp : List Addr) : Cx where
  prog := X.prog
  w := X.w
  K := X.K
  mg := X.mg
  base := X.base
  A := X.A
  N := cN X own cap
  s₀ := s
  H₀ := H
  env := compEnvC scope cl C X.env
  outer := X.stack
  stack := X.stack
  ex := fp
  fn := fun _ => false
  calm := X.calm
  pn := []
  xe := fun _ _ => False
noncomputable def capOk (X : Cx) (cap : List Nat) : Bool := cap.all fun j => match X.N[j]? with
  | some x => (match X.env.scope.names.lookup x with
    | some .cell => true
    | some .free => true
    | _ => false)
  | none => false
theorem relabel_free {scope : Scope} {env : Env} (hc : ∀ y ∈ scope.names, y.2 ≠ .cell) : ∀ {x : Str}, ((relabel scope env).names.lookup x = some .cell ∨ (relabel scope env).names.lookup x = some .free) → (x, NameKind.free) ∈ scope.names := by
  unfold relabel
  have main : ∀ (names : List (Str × NameKind)), (∀ y ∈ names, y.2 ≠ .cell) → ∀ x, ((names.map fun (n, k) => if (k == NameKind.free && env.scope.kind == .function && env.kindOf n == some .cell) then (n, NameKind.cell) else (n, k)).lookup x = some .cell ∨
      (names.map fun (n, k) => if (k == NameKind.free && env.scope.kind == .function && env.kindOf n == some .cell) then (n, NameKind.cell) else (n, k)).lookup x = some .free) → (x, NameKind.free) ∈ names := by
    intro names
    induction names with
    | nil => intro _ x h; simp at h
    | cons p r ih =>
      obtain ⟨n, k⟩ := p
      intro hc x h
      rw [List.map_cons] at h
      simp only at h
      by_cases hx : x = n
      · subst hx
        have hk : k ≠ .cell := hc (x, k) List.mem_cons_self
        have : k = .free := by
          by_cases q : (k == NameKind.free && env.scope.kind == .function && env.kindOf x == some .cell) = true
          · rw [Bool.and_eq_true, Bool.and_eq_true] at q
            simpa using q.1.1
          · rw [if_neg q, List.lookup_cons] at h
            simp at h
            rcases h with h | h
            · exact absurd h hk
            · exact h
        subst this
        exact List.mem_cons_self
      · have hx' : (x == n) = false := by simpa using hx
        refine List.mem_cons_of_mem _ (ih (fun y hy => hc y (List.mem_cons_of_mem _ hy)) x ?_)
        have red : ∀ (q : Str × NameKind) (l : List (Str × NameKind)), q.1 = n → List.lookup x (q :: l) = List.lookup x l := fun q l hq => by
          obtain ⟨q1, q2⟩ := q
          simp only at hq
          subst hq
          rw [List.lookup_cons, hx']
        have hq : (if (k == NameKind.free && env.scope.kind == .function && env.kindOf n == some .cell) then (n, NameKind.cell) else (n, k)).1 = n := by split <;> rfl
        rw [red _ _ hq] at h
        exact h
  intro x h
  exact main scope.names hc x h
end
/-! ### the loop -/
section
variable {prog : Program} {w : World} {A : Around} {R : Result → Shared → Prop} {s : Shared}
theorem compLoop_any {elt target iter : Expr} {ifs : List Expr} {scope : Scope} {pos : Pos} {it acc : Value} {env : Env} (I : Nat → Shared → Prop)
    (turn : ∀ n s, I n s → wpAny (model prog w) A (pyNext it) (fun r s₁ => match r with
      | none => R (.ok .next) s₁
      | some v => wpAny (model prog w) A (letOwnedTupleGo target it v) (fun _ s₁ => wpAny (model prog w) A (assign target env v) (fun _ s₂ =>
          wpAny (model prog w) A (forIn ifs true fun c r => if r = true then do let ok ← isTrue c env (eval c env); pure (ForInStep.yield ok) else pure (ForInStep.yield r)) (fun ok s₃ =>
            if ok = true then wpAny (model prog w) A (eval elt env) (fun x s₄ =>
              wpAny (model prog w) A (call (.builtin "list.append") [acc, x]) (fun _ s₅ => ∃ m, m < n ∧ I m s₅) (notedBy (model prog w) A env fun e s' => R (.error e) s') s₄) (notedBy (model prog w) A env fun e s' => R (.error e) s') s₃
            else ∃ m, m < n ∧ I m s₃) (notedBy (model prog w) A env fun e s' => R (.error e) s') s₂) (notedBy (model prog w) A env fun e s' => R (.error e) s') s₁) (notedBy (model prog w) A env fun e s' => R (.error e) s') s₁) (notedBy (model prog w) A env fun e s' => R (.error e) s') s)
    (n : Nat) (h : I n s) :
    codeAny (model prog w) A (.compLoop (.ListComp elt [⟨target, iter, ifs, 0⟩] scope pos) 0 it acc env) R s := by
  refine codeAny_loop rfl I (fun n s hI => ?_) n h
  show wpAny _ A ((compTurn (.ListComp elt [⟨target, iter, ifs, 0⟩] scope pos) 0 it acc env).onRaise (fun x => do noteFrame x env; theTreesLotGoes x)) _ _ s
  refine wpAny_noted ?_
  rw [compTurn_list]
  refine wpAny_bind (wpAny_standAt (wpAny_bind (wpAny_mono (turn n s hI) (fun r s₁ h₁ => ?_) fun _ _ h' => h')))
  cases r with
  | none => exact wpAny_pure h₁
  | some v =>
    refine wpAny_bind (wpAny_mono h₁ (fun _ s₁' h₁' => ?_) fun _ _ h' => h')
    refine wpAny_bind (wpAny_mono h₁' (fun _ s₂ h₂ => wpAny_bind (wpAny_mono h₂ (fun ok s₃ h₃ => ?_) fun _ _ h' => h')) fun _ _ h' => h')
    cases ok with
    | false => exact wpAny_pure ⟨rfl, h₃⟩
    | true =>
      exact wpAny_bind (wpAny_bind (wpAny_mono h₃ (fun x s₄ h₄ => wpAny_bind (wpAny_mono h₄ (fun _ s₅ h₅ => wpAny_pure (wpAny_pure ⟨rfl, h₅⟩)) fun _ _ h' => h')) fun _ _ h' => h'))
end
end DL
set_option Elab.async false
set_option linter.all false
set_option maxRecDepth 100000
set_option maxHeartbeats 4000000
namespace DL
open PySem PySem.Spec PyProof.Rows L2
section
variable {X : Cx} {c : C}
/-- a comprehension's tests -/
noncomputable def PIfs (X : Cx) (c : C) (ifs : List Expr) (g : G Bool) : Prop :=
  ∀ (pins : List (Addr × Obj)) (s : Shared) (σ : L2.St) (H : Hp) (Q : Bool → Hp → Prop), Inv X pins σ H s → tB c g σ H Q →
    wpAny (model X.prog X.w) X.A (forIn ifs true fun c r => if r = true then do let ok ← isTrue c X.env (eval c X.env); pure (ForInStep.yield ok) else pure (ForInStep.yield r)) (TP X pins σ Q) X.xe s
noncomputable def gTt : G Bool := fun _ => .ok true
theorem pifs_nil : PIfs X c [] gTt := fun pins s σ H Q I ⟨J, env, sr, w⟩ => wpAny_tests_nil ⟨H, I, w J H (Ext.refl sr.hp.sub)⟩
theorem pifs_one {x : Expr} {g : G Bool} (h : PB X c x g) : PIfs X c [x] g := fun pins s σ H Q I q => wpAny_tests_one (h pins s σ H Q I q)
noncomputable def compG (gt : GT) (gts : G Bool) (ge : G R) : List D → Ev → M (List D)
  | [], _ => .ok []
  | d :: ds, env => gt d env >>= fun e => gts e >>= fun k => if k = true then ge e >>= fun r => toD r >>= fun y => compG gt gts ge ds e >>= fun ys => .ok (y :: ys) else compG gt gts ge ds e
noncomputable def cE (n : Nat) (cap : List Nat) (env : Ev) : Ev := List.replicate n none ++ cap.map fun (j : Nat) => (env[j]?).getD none
noncomputable def gComp (n : Nat) (cap : List Nat) (gi : G (List D)) (gt : GT) (gts : G Bool) (ge : G R) : G R := fun env => gi env >>= fun ds => if ds.length ≤ sizeLine then compG gt gts ge ds (cE n cap env) >>= fun ys => .ok (.l .fresh ys) else .bad
theorem cE_at {α : Type} {n : Nat} {cap : List Nat} {env : List (Option α)} {i : Nat} {x : α} (h : (List.replicate n none ++ cap.map fun (j : Nat) => (env[j]?).getD none)[i]? = some (some x)) : ∃ j, n ≤ i ∧ cap[i - n]? = some j ∧ env[j]? = some (some x) := by
  by_cases hi : i < n
  · rw [List.getElem?_append_left (by simpa using hi), List.getElem?_replicate] at h
    split at h <;> cases h
  · rw [List.getElem?_append_right (by simpa using hi), List.length_replicate, List.getElem?_map] at h
    cases q : cap[i - n]? with
    | none => rw [q] at h; cases h
    | some j =>
      rw [q] at h
      refine ⟨j, by omega, rfl, ?_⟩
      have h' : (env[j]?).getD none = some x := Option.some.inj h
      cases z : env[j]? with
      | none => rw [z] at h'; cases h'
      | some o => rw [z] at h'; exact congrArg some h'
theorem cE_of {α : Type} {n : Nat} {cap : List Nat} {env : List (Option α)} {i j : Nat} {x : α} (h1 : n ≤ i) (h2 : cap[i - n]? = some j) (h3 : env[j]? = some (some x)) : (List.replicate n none ++ cap.map fun (j : Nat) => (env[j]?).getD none)[i]? = some (some x) := by
  rw [List.getElem?_append_right (by simpa using h1), List.length_replicate, List.getElem?_map, h2]
  simp [h3]
theorem SR.cap {J H : Hp} {σ : L2.St} {env : Ev} (sr : SR c J H σ env) (n : Nat) (cap : List Nat) (hnd : cap.Nodup) : SR c J H (List.replicate n none ++ cap.map fun (j : Nat) => (σ[j]?).getD none) (cE n cap env) := by
  refine ⟨sr.hp, by simp [cE], fun i x q => ?_, fun i j xs ys v hij q1 q2 q3 q4 => ?_⟩
  · obtain ⟨j, h1, h2, h3⟩ := cE_at q
    obtain ⟨v, k1, k2⟩ := sr.at_ j x h3
    exact ⟨v, cE_of h1 h2 k1, k2⟩
  · obtain ⟨a, h1, h2, h3⟩ := cE_at q1
    obtain ⟨b, h4, h5, h6⟩ := cE_at q2
    obtain ⟨a', h7, h8, h9⟩ := cE_at q3
    obtain ⟨b', h10, h11, h12⟩ := cE_at q4
    rw [h2] at h8; cases h8
    rw [h5] at h11; cases h11
    have hab : a ≠ b := fun z => by
      subst z
      have e1 := (List.getElem?_eq_some_iff.mp h2)
      have e2 := (List.getElem?_eq_some_iff.mp h5)
      have := (List.getElem_inj hnd).mp (e1.2.trans e2.2.symm)
      omega
    exact sr.sep a b xs ys v hab h3 h6 h9 h12
/-- an object that no slot knows is changed -/
theorem SR.other {J H : Hp} {σ : L2.St} {env : Ev} (sr : SR c J H σ env) {p : Addr} {o : HO} (hJ : J p = none) (h0 : c.H0 p = none) (hn : ∀ (j : Nat) (xs : List D), env[j]? = some (some (.own xs)) → σ[j]? ≠ some (some (.ref p))) : SR c J (L2.upd H p o) σ env := by
  refine ⟨⟨fun b u q => ?_, fun b u q => ?_, sr.hp.entJ, sr.hp.frz⟩, sr.len, fun j y q => ?_, sr.sep⟩
  · have : b ≠ p := fun z => by rw [z, hJ] at q; cases q
    rw [upd_ne this]; exact sr.hp.sub b u q
  · have : b ≠ p := fun z => by rw [z, h0] at q; cases q
    rw [upd_ne this]; exact sr.hp.ent b u q
  · obtain ⟨w, k1, k2⟩ := sr.at_ j y q
    refine ⟨w, k1, ?_⟩
    cases y with
    | d x => exact k2
    | bor zs => exact k2
    | own zs =>
      obtain ⟨p', us, rfl, m1, m2, m3, m4⟩ := k2
      have hne : p' ≠ p := fun z => hn j zs q (z ▸ k1)
      exact ⟨p', us, rfl, by rw [upd_ne hne]; exact m1, m2, m3, m4⟩
theorem Ext.other {J H J' H' : Hp} (e : Ext J H J' H') {p : Addr} {o : HO} (h : H p = none) (hJ : J' p = none) : Ext J H J' (L2.upd H' p o) :=
  ⟨fun b u q => by rw [upd_ne (ne_of_none q h)]; exact e.h b u q, e.j, fun b u q => by
    have : b ≠ p := fun z => by rw [z, hJ] at q; cases q
    rw [upd_ne this]; exact e.sub b u q, e.frz⟩
theorem sameBut_hok {P : Program} {w : World} {H : Hp} {h h' : Heap} {a : Addr} (x : HOk P w H h) (hn : H a = none) (sb : Heap.SameBut a h h') : HOk P w H h' := fun b u e => by
  refine (x b u e).stay (fun d v hd q => (sb.2 d ?_).trans q) (fun _ q => q) fun _ _ q => q
  rintro rfl
  rcases hd with rfl | hd
  · rw [hn] at e; cases e
  · rw [hn] at hd; cases hd
/-- the block's context stands -/
theorem cxC_ok {pins : List (Addr × Obj)} {σ : L2.St} {H : Hp} {s : Shared} {own : List Str} {cap : List Nat} {scope : Scope} {cl : List (Str × Addr)} {fp : List Addr} (I : Inv X pins σ H s) (hk : scope.kind = .function) (hcell : ∀ y ∈ scope.names, y.2 ≠ .cell)
    (hcl : clsOf X.env.cells scope.names [] = some cl) (hfp : ∀ b ∈ fp, FpOk X pins H b) (hin : ∀ b ∈ fp, b < s.heap.objs.size) : (cxC X own cap scope cl s.heap.objs.size s H fp).Ok := by
  obtain ⟨m1, m2⟩ := clsOf_mem scope.names [] cl hcl (fun x c h => by simp at h)
  refine ⟨I.ok.mod, hk, I.ok.glob, I.ok.blt, Nat.le_refl _, fun x y d h1 h2 => I.ok.inj x y d (m1 x d h1) (m1 y d h2), fun x hx => ?_, fun x d h => absurd (show false = true from h) (by decide), fun hc => I.ok.hd hc, I.ok.frames, .inl rfl, fun b hb => ⟨Nat.ne_of_lt (hin b hb), fun x d h => (hfp b hb).2.2.2.2.1 x d (m1 x d h)⟩,
    I.bs, Nat.le_trans I.ok.bsz I.sz, fun b o h hb => ?_, fun b hb hf => ?_, I.stack, I.stkFree⟩
  · exact Option.isSome_iff_exists.mp (m2 x (.inr (relabel_free hcell hx)))
  · rcases (hfp b hb).2.2.2.1 with z | z
    · exact I.ok.noex b o h z
    · exact absurd (Nat.lt_of_lt_of_le (Heap.lt_size (I.ok.bs b o h).1) z) (Nat.lt_irrefl _)
  · rcases List.mem_cons.mp (I.stkSub b hf) with e | e
    · exact (hfp b hb).2.1 e
    · exact (hfp b hb).2.2.1 e
/-- its first state -/
theorem cxC_inv {pins : List (Addr × Obj)} {σ : L2.St} {H : Hp} {s : Shared} {own : List Str} {cap : List Nat} {scope : Scope} {cl : List (Str × Addr)} {fp : List Addr} {h1 : Heap} {m : Str → Option Value} {tk : Nat} (I : Inv X pins σ H s) (ok : (cxC X own cap scope cl s.heap.objs.size s H fp).Ok)
    (hcl : clsOf X.env.cells scope.names [] = some cl) (hcell : ∀ y ∈ scope.names, y.2 ≠ .cell) (hcap : capOk X cap = true) (hlocal : ∀ j ∈ cap, ∀ x, X.N[j]? = some x → (relabel scope X.env).names.lookup x ≠ some .local)
    (hns : h1.Ns s.heap.objs.size m) (old : ∀ b o, s.heap.get? b = some o → h1.get? b = some o) :
    Inv (cxC X own cap scope cl s.heap.objs.size s H fp) [] (List.replicate own.length none ++ cap.map fun (j : Nat) => (σ[j]?).getD none) H { s with heap := h1, toks := tk } := by
  obtain ⟨m1, m2⟩ := clsOf_mem scope.names [] cl hcl (fun x c h => by simp at h)
  refine ⟨ok, rfl, I.bare, Un.kept old, ⟨m, hns, fun i x v q1 q2 q3 => ?_⟩, fun x d h => ?_, I.hok.fresh (Nat.le_refl _), fun x d h => I.freeC x d (m1 x d h), fun p hp => absurd (show p ∈ ([] : List (Addr × Obj)) from hp) (by simp), I.hok.kept old, ?_⟩
  · obtain ⟨j, h2, h3, h4⟩ := cE_at q2
    have q1' : (own ++ cap.map fun (j : Nat) => (X.N[j]?).getD ("" : Str))[i]? = some x := q1
    rw [List.getElem?_append_right (by exact h2), List.getElem?_map, h3] at q1'
    have hj : j ∈ cap := List.mem_of_getElem? h3
    have hc : (match X.N[j]? with
      | some x => (match X.env.scope.names.lookup x with
        | some .cell => true
        | some .free => true
        | _ => false)
      | none => false) = true := by
      unfold capOk at hcap
      exact List.all_eq_true.mp hcap j hj
    cases hx : X.N[j]? with
    | none => rw [hx] at hc; cases hc
    | some y =>
      rw [Option.map_some, hx] at q1'
      rw [hx] at hc
      have e : y = x := by simpa using q1'
      subst e
      have kd : X.env.kindOf y = some .cell ∨ X.env.kindOf y = some .free := by
        unfold Env.kindOf
        simp only at hc
        split at hc
        · rename_i z; exact .inl z
        · rename_i z; exact .inr z
        · cases hc
      obtain ⟨mX, nX, lX⟩ := I.loc
      obtain ⟨u, ru, lu⟩ := lX j y v hx h4 (kd.elim (fun z => .inr (.inl z)) fun z => .inr (.inr z))
      refine ⟨u, ru, .inr ?_⟩
      have kd' : (relabel scope X.env).names.lookup y = some .cell ∨ (relabel scope X.env).names.lookup y = some .free := by
        rcases q3 with z | z | z
        · exact absurd z (hlocal j hj y hx)
        · exact .inl z
        · exact .inr z
      refine ⟨kd', ?_⟩
      obtain ⟨d, hd⟩ := Option.isSome_iff_exists.mp (m2 y (.inr (relabel_free hcell kd')))
      refine ⟨d, hd, ?_⟩
      rcases lu with ⟨z, _⟩ | ⟨_, d', hd', z⟩
      · rcases kd with k | k <;> (rw [k] at z; cases z)
      · have := m1 y d hd
        rw [hd'] at this
        cases this
        obtain ⟨o, ho, hod⟩ := z
        exact ⟨o, old _ _ ho, hod⟩
  · obtain ⟨v, o, ho, hod⟩ := I.cell x d (m1 x d h)
    exact ⟨v, o, old _ _ ho, hod⟩
  · show _ = (own ++ cap.map fun (j : Nat) => (X.N[j]?).getD ("" : Str)).length
    simp
noncomputable def capLoc (X : Cx) (cap : List Nat) (scope : Scope) : Bool := cap.all fun j => match X.N[j]? with
  | some x => !((relabel scope X.env).names.lookup x == some .local)
  | none => true
noncomputable def nodN : List Nat → Bool
  | [] => true
  | x :: r => !(r.contains x) && nodN r
theorem nodN_ok : ∀ {l : List Nat}, nodN l = true → l.Nodup
  | [], _ => List.nodup_nil
  | x :: r, h => by
    unfold nodN at h
    rw [Bool.and_eq_true] at h
    refine List.nodup_cons.mpr ⟨fun z => ?_, nodN_ok h.2⟩
    have := h.1
    simp [z] at this
theorem apartC {X : Cx} {pins : List (Addr × Obj)} {σ : L2.St} {H : Hp} {s : Shared} (I : L2.Inv X pins σ H s) {T : Addr} (h : s.heap.objs.size ≤ T) : (T ∈ X.ex ∨ X.s₀.heap.objs.size ≤ T) ∧ T ≠ X.env.locals ∧ (∀ x c, X.env.cells.lookup x = some c → c ≠ T) ∧ ∀ p ∈ X.pn ++ pins, p.1 ≠ T := by
  have ne : ∀ b, b < s.heap.objs.size → b ≠ T := fun b hb z => absurd (Nat.lt_of_lt_of_le (z ▸ hb) h) (Nat.lt_irrefl _)
  refine ⟨.inr (Nat.le_trans I.sz h), (ne _ I.lt).symm, fun x c hc => ?_, fun p hp => ne _ (Heap.lt_size (I.pin p hp).1)⟩
  obtain ⟨v, o, hv, _⟩ := I.cell x c hc
  exact ne _ (Heap.lt_size hv)
theorem comp_core (own : List Str) (cap : List Nat) {elt target iter : Expr} {ifs : List Expr} {scope : Scope} {pos : Pos} {gi : G (List D)} {gt : GT} {gts : G Bool} {ge : G R} (hi : PIc X c target iter gi)
    (hbody : ∀ (cl : List (Str × Addr)) (C : Addr) (s : Shared) (H : Hp) (fp : List Addr), clsOf X.env.cells scope.names [] = some cl → PTg (cxC X own cap scope cl C s H fp) c target gt ∧ PIfs (cxC X own cap scope cl C s H fp) c ifs gts ∧ PD (cxC X own cap scope cl C s H fp) c elt ge)
    (hk : scope.kind = .function := by rfl) (hcell : (scope.names.all fun y => !(y.2 == .cell)) = true := by rfl) (hnames : (scope.names.all fun x => !(x.2 == .local) || (scope.names.lookup x.1 == some .local)) = true := by rfl)
    (hcl : (clsOf X.env.cells scope.names []).isSome = true := by rfl) (hcap : capOk X cap = true := by rfl) (hloc : capLoc X cap scope = true := by rfl) (hnd : nodN cap = true := by rfl) (hcalm : X.calm = true := by rfl)
    (hs : ∀ x, foldedSetIterable iter X.env x = pure x := by intro _; rfl)
    {pins : List (Addr × Obj)} {s : Shared} {σ : L2.St} {H : Hp} {Q : VK} {use : Option (Value → Sem Unit)} {Q0 : Value → Shared → Prop} {pos' : Pos} (I : Inv X pins σ H s) (h : tD c (gComp own.length cap gi gt gts ge) σ H Q)
    (hfin : ∀ (acc C : Addr) (m : Str → Option Value) (s' : Shared) (H' : Hp) (fl : Flow), s'.heap.Ns C m → ((C ∈ X.ex ∨ X.s₀.heap.objs.size ≤ C) ∧ C ≠ X.env.locals ∧ (∀ x c, X.env.cells.lookup x = some c → c ≠ C) ∧ ∀ p ∈ X.pn ++ pins, p.1 ≠ C) → H' C = none → (∀ h'', Heap.SameBut C s'.heap h'' → Inv X pins σ H' { s' with heap := h'' }) → Q (.ref acc) H' → compPost (model X.prog X.w) X.A X.xe use Q0 (.ref acc) C (.ok fl) s') :
    wpAny (model X.prog X.w) X.A (comprehension (.ListComp elt [⟨target, iter, ifs, 0⟩] scope pos) scope X.env pos' (newList []) false (eval iter X.env) use) Q0 X.xe s := by
  obtain ⟨J, env, sr, w⟩ := h
  obtain ⟨cl, hcl⟩ := Option.isSome_iff_exists.mp hcl
  have hcell' : ∀ y ∈ scope.names, y.2 ≠ .cell := fun y hy z => by
    have := List.all_eq_true.mp hcell y hy
    rw [z] at this
    cases this
  have hnames' : ∀ x ∈ scope.names, x.2 = .local → scope.names.lookup x.1 = some .local := fun y hy z => by
    have := List.all_eq_true.mp hnames y hy
    rw [z] at this
    simpa using this
  have hloc' : ∀ j ∈ cap, ∀ x, X.N[j]? = some x → (relabel scope X.env).names.lookup x ≠ some .local := fun j hj x hx z => by
    have := List.all_eq_true.mp hloc j hj
    rw [hx] at this
    simp only at this
    rw [z] at this
    cases this
  refine wpAny_comprehension_free (use := use) rfl hs (closureFor_of hcl) hk hnames' ?_
  refine thn (hi pins s σ H (fun It H1 => ∃ ds J1, Ext J H J1 H1 ∧ Walk c It ds J1 (fun J' H' => Same J1 J' ∧ Same H1 H') ∧
    wpM (if ds.length ≤ sizeLine then compG gt gts ge ds (cE own.length cap env) >>= fun ys => .ok (R.l .fresh ys) else .bad) (fun r => ∀ v J' H', Ext J H J' H' → RR c H J' H' r v → Q v H') c.T) I ⟨J, env, sr, wpM_mono (wpM_bind w) fun ds wd It J1 H1 e1 wk => ⟨ds, J1, e1, wk, wd⟩⟩) fun xv s1 h1 => thn h1 fun itv s2 h2 => ?_
  obtain ⟨it, fp, tn, It, H2, rfl, I2, T, st2, f2, ds, J2, e2, wk, w2⟩ := h2
  have hsz : ds.length ≤ sizeLine := by
    by_cases z : ds.length ≤ sizeLine
    · exact z
    · rw [if_neg z] at w2; exact w2.elim
  rw [if_pos hsz] at w2
  have w3 := wpM_bind w2
  refine wpAny_newObj_type (wpAny_newFunctionEnv hcell' (by intro y hy; simp at hy) (fun h₁ hns₁ hsb₁ => ?_) hk)
  dsimp only at hns₁ hsb₁ ⊢
  generalize hHs : s2.heap.push { cls := .type "list", dict := none, data := .seq ([] : List Value).toArray } = Hs at hns₁ hsb₁ ⊢
  have hC : Hs.objs.size = s2.heap.objs.size + 1 := by rw [← hHs, Heap.size_push]
  have hp2 : H2 s2.heap.objs.size = none := I2.hok.fresh (Nat.le_refl _)
  have kHs : ∀ b o, s2.heap.get? b = some o → Hs.get? b = some o := fun b o e => by rw [← hHs]; exact Heap.get?_push_of_some _ e
  have I3 : Inv X pins σ (L2.upd H2 s2.heap.objs.size (.lst [])) { s2 with heap := Hs, toks := s2.toks } := I2.laid (t' := s2.toks) kHs (Nat.le_refl _) ⟨Nat.zero_le _, [], 0, .nil, by rw [← hHs]; exact Heap.get?_push_size _ rfl⟩
  have f3 : ∀ b ∈ fp, FpOk X pins (L2.upd H2 s2.heap.objs.size (.lst [])) b := fun b hb => by
    obtain ⟨o, ho, _⟩ := T.obj _ _ st2 b hb
    exact ⟨by rw [upd_ne (Nat.ne_of_lt (Heap.lt_size ho))]; exact (f2 b hb).1, (f2 b hb).2⟩
  have hin : ∀ b ∈ fp, b < Hs.objs.size := fun b hb => by
    obtain ⟨o, ho, _⟩ := T.obj _ _ st2 b hb
    exact Nat.lt_trans (Heap.lt_size ho) (by rw [hC]; exact Nat.lt_succ_self _)
  have okC := cxC_ok (own := own) (cap := cap) I3 hk hcell' hcl f3 hin
  have old1 : ∀ b o, Hs.get? b = some o → h₁.get? b = some o := fun b o e => hsb₁.extBut b o (Nat.ne_of_lt (Heap.lt_size e)) (Heap.get?_push_of_some _ e)
  have I4 := cxC_inv (tk := s2.toks + ([] : List (Str × Value)).length) I3 okC hcl hcell' hcap hloc' hns₁ old1
  have sr2 := sr.ext e2
  have srA : SR c J2 (L2.upd H2 s2.heap.objs.size (.lst [])) σ env := sr2.ext (Ext.new e2.sub hp2 _)
  have J2p : J2 s2.heap.objs.size = none := e2.sub.free hp2
  have H0p : c.H0 s2.heap.objs.size = none := sr2.hp.ent.free hp2
  have nown : ∀ (j : Nat) (xs : List D), (cE own.length cap env)[j]? = some (some (.own xs)) → (List.replicate own.length none ++ cap.map fun (j : Nat) => (σ[j]?).getD none)[j]? ≠ some (some (.ref s2.heap.objs.size)) := fun j xs q z => by
    obtain ⟨a, h1, h2, h3⟩ := cE_at q
    obtain ⟨a', h4, h5, h6⟩ := cE_at z
    rw [h2] at h5; cases h5
    obtain ⟨v, k1, p, vs, rfl, k2, _⟩ := sr2.at_ a _ h3
    rw [h6] at k1
    cases k1
    rw [hp2] at k2
    cases k2
  obtain ⟨hT, hIf, hE⟩ := hbody cl Hs.objs.size { s2 with heap := Hs, toks := s2.toks } (L2.upd H2 s2.heap.objs.size (.lst [])) fp hcl
  have fpC : ∀ {H' : Hp}, (∀ b ∈ fp, H' b = none) → ∀ b ∈ fp, FpOk (cxC X own cap scope cl Hs.objs.size { s2 with heap := Hs, toks := s2.toks } (L2.upd H2 s2.heap.objs.size (.lst [])) fp) [] H' b := fun {H'} hn b hb => by
    obtain ⟨m1, _⟩ := clsOf_mem scope.names [] cl hcl (fun x c h => by simp at h)
    refine ⟨hn b hb, Nat.ne_of_lt (hin b hb), fun z => ?_, .inl hb, fun x d h => (f2 b hb).2.2.2.2.1 x d (m1 x d h), fun p hp => absurd (show p ∈ ([] : List (Addr × Obj)) from hp) (by simp)⟩
    rcases List.mem_cons.mp (I2.stkSub b z) with e | e
    · exact (f2 b hb).2.1 e
    · exact (f2 b hb).2.2.1 e
  -- behind the block
  have back : ∀ {pi : List (Addr × Obj)} {σ' : L2.St} {H' : Hp} {s' : Shared} {h'' : Heap}, Inv (cxC X own cap scope cl Hs.objs.size { s2 with heap := Hs, toks := s2.toks } (L2.upd H2 s2.heap.objs.size (.lst [])) fp) pi σ' H' s' → Heap.SameBut Hs.objs.size s'.heap h'' → Inv X pins σ H' { s' with heap := h'' } := fun {pi σ' H' s' h''} I' sb => by
    have B : Un (frs X.stack) fp (L2.upd H2 s2.heap.objs.size (.lst [])) H' Hs s'.heap := I'.base
    have ne2 : ∀ {b : Addr} {o : Obj}, s2.heap.get? b = some o → b ≠ s2.heap.objs.size ∧ b ≠ Hs.objs.size := fun {b o} e =>
      ⟨Nat.ne_of_lt (Heap.lt_size e), Nat.ne_of_lt (Nat.lt_trans (Heap.lt_size e) (by rw [hC]; exact Nat.lt_succ_self _))⟩
    have nH : ∀ {b : Addr} {o : HO}, H2 b = some o → L2.upd H2 s2.heap.objs.size (.lst []) b = some o := fun {b o} e => by rw [upd_ne (ne_of_none e hp2)]; exact e
    refine Inv.call' (ch := fp) (s' := { s' with heap := h'' }) I2 I'.os ⟨fun b o e n hf hx => ?_, fun b o e n hf hx => ?_, fun b o e n hx => ?_, fun b o e hx => ?_, fun b xs e => B.tups b xs (nH e), fun b o u e => B.frzs b o u (nH e), fun b ps e => B.tbls b ps (nH e)⟩ (sameBut_hok I'.hok I'.free sb) I'.bare fun b hb => ⟨(f2 b hb).2.2.2.1, (f2 b hb).2.1, (f2 b hb).2.2.2.2.1, (f2 b hb).2.2.2.2.2⟩
    · exact (sb.2 b (ne2 e).2).trans (B.keep b o (kHs b o e) (by rw [upd_ne (ne2 e).1]; exact n) hf hx)
    · obtain ⟨sl, z⟩ := B.slot b o (kHs b o e) (by rw [upd_ne (ne2 e).1]; exact n) hf hx
      exact ⟨sl, (sb.2 b (ne2 e).2).trans z⟩
    · exact B.free b o (kHs b o e) (by rw [upd_ne (ne2 e).1]; exact n) hx
    · obtain ⟨o', z⟩ := B.there b o (kHs b o e) hx
      exact ⟨o', (sb.2 b (ne2 e).2).trans z⟩
  have loop : ∀ s4 : Shared, s4 = { s2 with heap := h₁, toks := s2.toks + ([] : List (Str × Value)).length } →
      codeAny (model X.prog X.w) X.A (.compLoop (.ListComp elt [⟨target, iter, ifs, 0⟩] scope pos) 0 (.ref it) (.ref s2.heap.objs.size) (compEnvC scope cl Hs.objs.size X.env))
        (compPost (model X.prog X.w) X.A X.xe use Q0 (.ref s2.heap.objs.size) Hs.objs.size) s4 := by
    rintro s4 rfl
    refine compLoop_any (fun n s' => ∃ (i : Nat) (σ' : L2.St) (H' J' : Hp) (env' : Ev) (us : List V) (ys0 : List D), n = ds.length - i ∧ i ≤ ds.length ∧ Inv (cxC X own cap scope cl Hs.objs.size { s2 with heap := Hs, toks := s2.toks } (L2.upd H2 s2.heap.objs.size (.lst [])) fp) [] σ' H' s' ∧ tn i s'.heap ∧ (∀ b ∈ fp, H' b = none) ∧
      Ext J2 H2 J' H' ∧ SR c J' H' σ' env' ∧ (∀ (j : Nat) (xs : List D), env'[j]? = some (some (.own xs)) → σ'[j]? ≠ some (some (.ref s2.heap.objs.size))) ∧ H' s2.heap.objs.size = some (.lst us) ∧ J' s2.heap.objs.size = none ∧ Reps c.K J' ys0 us ∧ us.length ≤ i ∧
      wpM (compG gt gts ge (ds.drop i) env') (fun ys => ∀ v J' H', Ext J H J' H' → RR c H J' H' (.l .fresh (ys0 ++ ys)) v → Q v H') c.T) ?_ ds.length
      ⟨0, _, _, J2, _, [], [], rfl, Nat.zero_le _, I4, T.keep _ _ _ st2 (fun b hb o e => old1 b o (kHs b o e)), fun b hb => (f3 b hb).1, Ext.new e2.sub hp2 _, srA.cap own.length cap (nodN_ok hnd), nown, upd_same, J2p, .nil, Nat.le_refl _, by rw [List.drop_zero]; exact w3⟩
    rintro n s' ⟨i, σ', H', J', env', us, ys0, rfl, hi', I', st', fr', e', sr', no', hp', Jp', rs', hl', w'⟩
    obtain ⟨wk1, wk2⟩ := wk i J' H' sr'.hp ⟨e'.j, e'.h⟩
    by_cases hlt : i < ds.length
    · obtain ⟨g1, y1⟩ := wk2 ds[i] (by simp [hlt])
      rw [List.drop_eq_getElem_cons hlt] at w'
      refine wpAny_mono (T.item (cxC X own cap scope cl Hs.objs.size { s2 with heap := Hs, toks := s2.toks } (L2.upd H2 s2.heap.objs.size (.lst [])) fp) rfl rfl rfl hcalm i [] s' σ' H' (fun _ _ => False) I' (fpC fr') st' g1) (fun r s4 ⟨u, hr, h4⟩ => ?_) fun _ _ f => f.elim
      subst hr
      refine wpAny_mono h4 (fun _ s5 ⟨x, H5, I5, r5, y5, st5, fr5⟩ => ?_) fun _ _ f => f.elim
      obtain ⟨J5, e5, rx⟩ := y1 x H5 y5
      have I5' := I5.pinned (fpC fr5) (T.obj _ _ st5)
      have again : ∀ {σ7 : L2.St} {H7 : Hp} {s7 : Shared}, Inv (cxC X own cap scope cl Hs.objs.size { s2 with heap := Hs, toks := s2.toks } (L2.upd H2 s2.heap.objs.size (.lst [])) fp) ([] ++ pinsAt fp s5.heap) σ7 H7 s7 →
          Inv (cxC X own cap scope cl Hs.objs.size { s2 with heap := Hs, toks := s2.toks } (L2.upd H2 s2.heap.objs.size (.lst [])) fp) [] σ7 H7 s7 ∧ tn (i + 1) s7.heap ∧ (∀ b ∈ fp, H7 b = none) := fun {σ7 H7 s7} I7 => by
        refine ⟨I7.unpinned, T.keep _ _ _ st5 fun b hb o e => (I7.pin (b, o) (List.mem_append_right _ (List.mem_append_right _ (mem_pinsAt hb e)))).1, fun b hb => ?_⟩
        obtain ⟨o, e, d⟩ := T.obj _ _ st5 b hb
        exact (I7.pin (b, o) (List.mem_append_right _ (List.mem_append_right _ (mem_pinsAt hb e)))).2.1
      have p5 : H5 s2.heap.objs.size = some (.lst us) := e5.h _ _ hp'
      have pn : ∀ {J H : Hp}, H s2.heap.objs.size = some (.lst us) → H s2.heap.objs.size ≠ none := fun h z => by rw [h] at z; cases z
      refine wpAny_mono (hT _ s5 σ' H5 x u (fun σ6 H6 => ∃ e6, H6 = H5 ∧ SR c J5 H5 σ6 e6 ∧ KO env' σ' e6 σ6 ∧ wpM (gts e6 >>= fun k => if k = true then ge e6 >>= fun r => toD r >>= fun y => compG gt gts ge (ds.drop (i + 1)) e6 >>= fun ys => .ok (y :: ys) else compG gt gts ge (ds.drop (i + 1)) e6)
        (fun ys => ∀ v J' H', Ext J H J' H' → RR c H J' H' (.l .fresh (ys0 ++ ys)) v → Q v H') c.T) I5' r5 ⟨J5, env', ds[i], sr'.ext e5, rx, wpM_mono (wpM_bind w') fun e6 w6 σ6 sr6 ko => ⟨e6, rfl, sr6, ko, w6⟩⟩) (fun _ s6 ⟨σ6, H6, I6, e6, hH6, sr6, ko, w6⟩ => ?_) fun _ _ f => f.elim
      subst hH6
      have no6 : ∀ (j : Nat) (xs : List D), e6[j]? = some (some (.own xs)) → σ6[j]? ≠ some (some (.ref s2.heap.objs.size)) := fun j xs q z => by
        obtain ⟨k1, k2⟩ := ko j xs q
        exact no' j xs k1 (k2 ▸ z)
      have J5p : J5 s2.heap.objs.size = none := e5.frz _ (by rw [hp']; intro z; cases z) Jp'
      refine wpAny_mono (hIf _ s6 σ6 H6 (fun k H7 => ∃ J7, Ext J5 H6 J7 H7 ∧ wpM (if k = true then ge e6 >>= fun r => toD r >>= fun y => compG gt gts ge (ds.drop (i + 1)) e6 >>= fun ys => .ok (y :: ys) else compG gt gts ge (ds.drop (i + 1)) e6)
        (fun ys => ∀ v J' H', Ext J H J' H' → RR c H J' H' (.l .fresh (ys0 ++ ys)) v → Q v H') c.T) I6 ⟨J5, e6, sr6, wpM_mono (wpM_bind w6) fun k wk J7 H7 e7 => ⟨J7, e7, wk⟩⟩) (fun k s7 ⟨H7, I7, J7, e7, w7⟩ => ?_) fun _ _ f => f.elim
      have p7 : H7 s2.heap.objs.size = some (.lst us) := e7.h _ _ p5
      have J7p : J7 s2.heap.objs.size = none := e7.frz _ (by rw [p5]; intro z; cases z) J5p
      have sr7 := sr6.ext e7
      cases k with
      | false =>
        rw [if_neg (by decide)] at w7 ⊢
        obtain ⟨a1, a2, a3⟩ := again I7
        exact ⟨ds.length - (i + 1), by omega, i + 1, σ6, H7, J7, e6, us, ys0, rfl, hlt, a1, a2, a3, (e'.trans e5).trans e7, sr7, no6, p7, J7p, rs'.mono (e5.j.trans e7.j), by omega, w7⟩
      | true =>
        rw [if_pos rfl] at w7 ⊢
        refine wpAny_mono (hE _ s7 σ6 H7 (fun v H8 => ∃ J8 y, Ext J7 H7 J8 H8 ∧ Rep c.K J8 y v ∧ wpM (compG gt gts ge (ds.drop (i + 1)) e6 >>= fun ys => .ok (y :: ys)) (fun ys => ∀ v J' H', Ext J H J' H' → RR c H J' H' (.l .fresh (ys0 ++ ys)) v → Q v H') c.T) I7
          ⟨J7, e6, sr7, wpM_mono (wpM_bind w7) fun r wr v J8 H8 e8 r8 => ?_⟩) (fun u8 s8 ⟨v8, H8, I8, r8, J8, y, e8, ry, w8⟩ => ?_) fun _ _ f => f.elim
        · obtain ⟨y, q, wr⟩ := wpM_toD wr
          obtain ⟨J9, e9, _, ry⟩ := freeze e8 r8 q
          exact ⟨J9, y, e9, ry, wr⟩
        have p8 : H8 s2.heap.objs.size = some (.lst us) := e8.h _ _ p7
        have J8p : J8 s2.heap.objs.size = none := e8.frz _ (by rw [p7]; intro z; cases z) J7p
        refine wpAny_mono (mt_append (X := (cxC X own cap scope cl Hs.objs.size { s2 with heap := Hs, toks := s2.toks } (L2.upd H2 s2.heap.objs.size (.lst [])) fp)) _ s8 σ6 H8 (.ref s2.heap.objs.size) [v8] (.ref s2.heap.objs.size) [u8] (fun _ H9 => H9 = L2.upd H8 s2.heap.objs.size (.lst (us ++ [v8]))) I8 rfl (.cons r8 .nil) ⟨_, us, v8, rfl, rfl, p8, by omega, rfl⟩) (fun _ s9 ⟨_, H9, I9, _, h9⟩ => ?_) fun _ _ f => f.elim
        subst h9
        obtain ⟨a1, a2, a3⟩ := again I9
        refine ⟨ds.length - (i + 1), by omega, i + 1, σ6, _, J8, e6, us ++ [v8], ys0 ++ [y], rfl, hlt, a1, a2, a3, (((e'.trans e5).trans e7).trans e8).other hp2 J8p, (sr7.ext e8).other J8p H0p no6, no6, upd_same, J8p, (rs'.mono ((e5.j.trans e7.j).trans e8.j)).append (.cons ry .nil), by simp; omega, ?_⟩
        refine wpM_mono (wpM_bind w8) fun ys q v J' H' ee rr => q v J' H' ee ?_
        rw [List.append_assoc] at rr
        exact rr
    · have hie : i = ds.length := by omega
      rw [List.drop_eq_nil_of_le (by omega)] at w'
      refine wpAny_mono (T.done (cxC X own cap scope cl Hs.objs.size { s2 with heap := Hs, toks := s2.toks } (L2.upd H2 s2.heap.objs.size (.lst [])) fp) rfl rfl rfl hcalm i [] s' σ' H' (fun _ _ => False) I' (fpC fr') st' (wk1 (by omega))) (fun r s4 ⟨hr, I9⟩ => ?_) fun _ _ f => f.elim
      subst hr
      obtain ⟨m, hm, _⟩ := I9.loc
      refine hfin s2.heap.objs.size Hs.objs.size m _ H' _ hm (apartC I2 (by rw [hC]; exact Nat.le_succ _)) I9.free (fun h'' sb => back I9 sb) ?_
      have w9 : ∀ v J' H', Ext J H J' H' → RR c H J' H' (.l .fresh (ys0 ++ [])) v → Q v H' := w'
      rw [List.append_nil] at w9
      exact w9 _ J' H' (e2.trans e') ⟨_, us, rfl, hp', Jp', e2.h.free hp2, rs'⟩
  exact codeAny_compStart_list (loop _ rfl) (T.self _ 0 _ _ _ (T.keep _ _ _ st2 (fun b hb o e => old1 b o (kHs b o e))) (loop _ rfl))
/-- [e for x in xs], as a value -/
theorem pd_comp (own : List Str) (cap : List Nat) {elt target iter : Expr} {ifs : List Expr} {scope : Scope} {pos : Pos} {gi : G (List D)} {gt : GT} {gts : G Bool} {ge : G R} (hi : PIc X c target iter gi)
    (hbody : ∀ (cl : List (Str × Addr)) (C : Addr) (s : Shared) (H : Hp) (fp : List Addr), clsOf X.env.cells scope.names [] = some cl → PTg (cxC X own cap scope cl C s H fp) c target gt ∧ PIfs (cxC X own cap scope cl C s H fp) c ifs gts ∧ PD (cxC X own cap scope cl C s H fp) c elt ge)
    (hk : scope.kind = .function := by rfl) (hcell : (scope.names.all fun y => !(y.2 == .cell)) = true := by rfl) (hnames : (scope.names.all fun x => !(x.2 == .local) || (scope.names.lookup x.1 == some .local)) = true := by rfl)
    (hcl : (clsOf X.env.cells scope.names []).isSome = true := by rfl) (hcap : capOk X cap = true := by rfl) (hloc : capLoc X cap scope = true := by rfl) (hnd : nodN cap = true := by rfl) (hcalm : X.calm = true := by rfl)
    (hs : ∀ x, foldedSetIterable iter X.env x = pure x := by intro _; rfl) : PD X c (.ListComp elt [⟨target, iter, ifs, 0⟩] scope pos) (gComp own.length cap gi gt gts ge) := by
  intro pins s σ H Q I h
  rw [eval_ListComp]
  exact comp_core own cap hi hbody hk hcell hnames hcl hcap hloc hnd hcalm hs I h fun acc C m s' H' fl hm hz hf hb q => ⟨m, hm, fun h'' sb => ⟨.ref acc, H', hb h'' sb, rfl, q⟩⟩
end
end DL
set_option Elab.async false
set_option linter.all false
set_option maxRecDepth 100000
set_option maxHeartbeats 4000000
namespace DL
open PySem PySem.Spec PyProof.Rows L2
/-! ### == of data -/
mutual
noncomputable def eqD : D → D → Bool
  | .non, .non => true
  | .bl p, .bl q => p == q
  | .bl p, .int q => (if p then 1 else 0) == q
  | .int p, .bl q => p == (if q then 1 else 0)
  | .int p, .int q => p == q
  | .str p, .str q => p == q
  | .tup p, .tup q => eqDs p q
  | .lst p, .lst q => eqDs p q
  | .emp, .emp => true
  | .exn _ _ _, .exn _ _ _ => true
  | _, _ => false
noncomputable def eqDs : List D → List D → Bool
  | [], [] => true
  | x :: xs, y :: ys => eqD x y && eqDs xs ys
  | _, _ => false
end
mutual
noncomputable def dep : D → Nat
  | .tup xs => deps xs + 1
  | .lst xs => deps xs + 1
  | .emp => 5000
  | .exn _ _ _ => 5000
  | _ => 0
noncomputable def deps : List D → Nat
  | [] => 0
  | x :: xs => max (dep x) (deps xs)
end
mutual
theorem eqD_refl : ∀ d : D, eqD d d = true
  | .non => by simp [eqD]
  | .bl _ => by simp [eqD]
  | .int _ => by simp [eqD]
  | .str _ => by simp [eqD]
  | .tup xs => by simp only [eqD]; exact eqDs_refl xs
  | .lst xs => by simp only [eqD]; exact eqDs_refl xs
  | .emp => by simp [eqD]
  | .exn _ _ _ => by simp [eqD]
theorem eqDs_refl : ∀ ds : List D, eqDs ds ds = true
  | [] => by simp [eqDs]
  | x :: xs => by simp only [eqDs, eqD_refl x, eqDs_refl xs, Bool.and_self]
end
theorem eqDs_len : ∀ {xs ys : List D}, xs.length ≠ ys.length → eqDs xs ys = false
  | [], [], h => absurd rfl h
  | [], _ :: _, _ => by simp [eqDs]
  | _ :: _, [], _ => by simp [eqDs]
  | x :: xs, y :: ys, h => by
    simp only [eqDs, eqDs_len (xs := xs) (ys := ys) (fun z => h (congrArg (· + 1) z)), Bool.and_false]
/-- the j-th pair -/
noncomputable def nthEq (xs ys : List D) (j : Nat) : Bool := match xs[j]?, ys[j]? with
  | some x, some y => eqD x y
  | _, _ => false
theorem eqDs_nth : ∀ {xs ys : List D}, xs.length = ys.length → (List.range xs.length).all (nthEq xs ys) = eqDs xs ys
  | [], [], _ => by simp [eqDs]
  | x :: xs, y :: ys, h => by
    have ih := eqDs_nth (xs := xs) (ys := ys) (by simpa using h)
    rw [List.length_cons, List.range_succ_eq_map, List.all_cons, List.all_map]
    simp only [eqDs]
    rw [← ih]
    rfl
theorem eqDs_min (xs ys : List D) : ((List.range (min xs.length ys.length)).all (nthEq xs ys) && xs.length == ys.length) = eqDs xs ys := by
  by_cases h : xs.length = ys.length
  · rw [← h, Nat.min_self, eqDs_nth h]; simp
  · rw [eqDs_len h, beq_eq_false_iff_ne.mpr h, Bool.and_false]
section
/-- what is known of the heap -/
structure HF (K : PySem.W.Frag) (J : Hp) (s : Shared) : Prop where
  t : ∀ a xs, SqT K J a xs → ∃ its : List Value, Vals xs its ∧ s.heap.IsTuple a its.toArray
  l : ∀ a xs, SqL K J a xs → ∃ its : List Value, Vals xs its ∧ s.heap.IsList a its.toArray
  e : ∀ a, J a = some (.dK []) → ∃ o, s.heap.get? a = some o ∧ o.cls = .type "dict"
variable {K : PySem.W.Frag} {J : Hp} {s : Shared}
theorem HF.of {X : Cx} {c : C} {pins : List (Addr × Obj)} {σ : L2.St} {H : Hp} (I : Inv X pins σ H s) (hs : Same J H) : HF X.K J s :=
  ⟨fun a xs h => let ⟨its, r, p, _⟩ := I.tuple (sameT hs h); ⟨its, r, p⟩, fun a xs h => let ⟨its, r, p, _⟩ := I.list (hs.seq h); ⟨its, r, p.isList⟩, fun a h => by
    obtain ⟨_, _, vs, _, p⟩ := (show ObjOk X.prog X.w H s.heap a (.dK []) from I.hok a _ (hs _ _ h))
    obtain ⟨o, es, ep, h1, h2, _⟩ := p
    exact ⟨o, h1, h2.1⟩⟩
theorem isTup_inj {a : Addr} {xs ys : List Value} (h : s.heap.IsTuple a xs.toArray) (h' : s.heap.IsTuple a ys.toArray) : xs = ys := by
  obtain ⟨o, ho, _, n, hd⟩ := h
  obtain ⟨o', ho', _, n', hd'⟩ := h'
  rw [ho] at ho'; cases ho'
  rw [hd] at hd'
  injection hd' with h1 _
  simpa using congrArg Array.toList h1
theorem isList_inj {a : Addr} {xs ys : List Value} (h : s.heap.IsList a xs.toArray) (h' : s.heap.IsList a ys.toArray) : xs = ys := by
  obtain ⟨o, ho, _, n, hd⟩ := h
  obtain ⟨o', ho', _, n', hd'⟩ := h'
  rw [ho] at ho'; cases ho'
  rw [hd] at hd'
  injection hd' with h1 _
  simpa using congrArg Array.toList h1
mutual
theorem Rep.inj (F : HF K J s) : ∀ {d e : D} {v : V}, Rep K J d v → Rep K J e v → dep d ≤ 1000 → dep e ≤ 1000 → d = e
  | _, _, _, .emp _, _, h, _ => by unfold dep at h; omega
  | _, _, _, .exn _ _ _ _ _, _, h, _ => by unfold dep at h; omega
  | _, _, _, .non, .non, _, _ => rfl
  | _, _, _, .bl _, .bl _, _, _ => rfl
  | _, _, _, .int _, .int _, _, _ => rfl
  | _, _, _, .str _, .str _, _, _ => rfl
  | _, _, _, .tup _ _, .emp _, _, h => by unfold dep at h; omega
  | _, _, _, .lst _ _, .emp _, _, h => by unfold dep at h; omega
  | _, _, _, .tup _ _, .exn _ _ _ _ _, _, h => by unfold dep at h; omega
  | _, _, _, .lst _ _, .exn _ _ _ _ _, _, h => by unfold dep at h; omega
  | _, _, _, .tup h hs, .tup h' hs', k, k' => by
    obtain ⟨its, r, p⟩ := F.t _ _ h
    obtain ⟨its', r', p'⟩ := F.t _ _ h'
    have := isTup_inj p p'
    subst this
    have := r.inj r'
    subst this
    rw [Reps.inj F hs hs' (by unfold dep at k; omega) (by unfold dep at k'; omega)]
  | _, _, _, .lst h hs, .lst h' hs', k, k' => by
    obtain ⟨its, r, p⟩ := F.l _ _ h
    obtain ⟨its', r', p'⟩ := F.l _ _ h'
    have := isList_inj p p'
    subst this
    have := r.inj r'
    subst this
    rw [Reps.inj F hs hs' (by unfold dep at k; omega) (by unfold dep at k'; omega)]
  | _, _, _, .tup h _, .lst h' _, _, _ => by
    obtain ⟨its, r, p⟩ := F.t _ _ h
    obtain ⟨its', r', p'⟩ := F.l _ _ h'
    exact absurd rfl (SeqAt.ne_of_list_tuple p' p)
  | _, _, _, .lst h _, .tup h' _, _, _ => by
    obtain ⟨its, r, p⟩ := F.l _ _ h
    obtain ⟨its', r', p'⟩ := F.t _ _ h'
    exact absurd rfl (SeqAt.ne_of_list_tuple p p')
theorem Reps.inj (F : HF K J s) : ∀ {ds es : List D} {vs : List V}, Reps K J ds vs → Reps K J es vs → deps ds ≤ 1000 → deps es ≤ 1000 → ds = es
  | _, _, _, .nil, .nil, _, _ => rfl
  | _, _, _, .cons h hs, .cons h' hs', k, k' => by rw [Rep.inj F h h' (by unfold deps at k; omega) (by unfold deps at k'; omega), Reps.inj F hs hs' (by unfold deps at k; omega) (by unfold deps at k'; omega)]
end
theorem tuple_flat {A : Around} {a : Addr} {its : Array Value} {v : V} {u : Value} (h : s.heap.IsTuple a its) (r : RelV v u) (f : flatV v = true) (hu : A.units < cLine) : SeqAt.EqAt A s (.ref a) u false ∧ SeqAt.EqAt A s u (.ref a) false := by
  cases v with
  | non => cases r; exact ⟨.tuple_none h hu, .none_tuple h hu⟩
  | bl b => cases r; exact ⟨.tuple_bool b h hu, .bool_tuple b h hu⟩
  | int i => obtain ⟨t, rfl⟩ := r; exact ⟨.tuple_int i t h hu, .int_tuple i t h hu⟩
  | str x => obtain ⟨t, rfl⟩ := r; exact ⟨.tuple_str x t h hu, .str_tuple x t h hu⟩
  | _ => exact absurd (show false = true from f) Bool.false_ne_true
theorem list_flat {A : Around} {a : Addr} {its : Array Value} {v : V} {u : Value} (h : s.heap.IsList a its) (r : RelV v u) (f : flatV v = true) (hu : A.units < cLine) : SeqAt.EqAt A s (.ref a) u false ∧ SeqAt.EqAt A s u (.ref a) false := by
  cases v with
  | non => cases r; exact ⟨.list_none h hu, .none_list h hu⟩
  | bl b => cases r; exact ⟨.list_bool b h hu, .bool_list b h hu⟩
  | int i => obtain ⟨t, rfl⟩ := r; exact ⟨.list_int i t h hu, .int_list i t h hu⟩
  | str x => obtain ⟨t, rfl⟩ := r; exact ⟨.list_str x t h hu, .str_list x t h hu⟩
  | _ => exact absurd (show false = true from f) Bool.false_ne_true
noncomputable def isFlat : D → Bool
  | .tup _ => false
  | .lst _ => false
  | .emp => false
  | .exn _ _ _ => false
  | _ => true
theorem Rep.flat {d : D} {v : V} (h : Rep K J d v) (f : isFlat d = true) : flatV v = true := by
  cases h <;> first | rfl | cases f
theorem eqV_flat {d e : D} {v w : V} (h : Rep K J d v) (h' : Rep K J e w) (f : isFlat d = true) (f' : isFlat e = true) : eqV v w = eqD d e := by
  cases h <;> cases h' <;> first | rfl | cases f | cases f' | simp [eqV, eqD]
theorem in1_units (A : Around) : A.in1.units = A.units + 1 := rfl
theorem flatAt (F : HF K J s) {d e : D} {v w : V} {u u' : Value} (A : Around) (hd : Rep K J d v) (he : Rep K J e w) (rv : RelV v u) (rw' : RelV w u') (f : isFlat d = true) (hu : A.units < cLine) (hu' : dep e ≤ 1000) : SeqAt.EqAt A s u u' (eqD d e) := by
  cases q : isFlat e with
  | true => rw [← eqV_flat hd he f q]; exact eqAt_V rv rw' (hd.flat f) (he.flat q)
  | false =>
    cases he with
    | tup h' hs' =>
      cases rw'
      obtain ⟨its', r', p'⟩ := F.t _ _ h'
      have := (tuple_flat p' rv (hd.flat f) hu).2
      cases hd <;> first | exact this | cases f
    | lst h' hs' =>
      cases rw'
      obtain ⟨its', r', p'⟩ := F.l _ _ h'
      have := (list_flat p' rv (hd.flat f) hu).2
      cases hd <;> first | exact this | cases f
    | emp _ => unfold dep at hu'; omega
    | exn _ _ _ _ _ => unfold dep at hu'; omega
    | _ => cases q
mutual
theorem eqAt_D (F : HF K J s) : ∀ {d e : D} {v w : V} {u u' : Value} (A : Around), Rep K J d v → Rep K J e w → RelV v u → RelV w u' → A.units + dep d < cLine → dep d ≤ 1000 → dep e ≤ 1000 → SeqAt.EqAt A s u u' (eqD d e)
  | .tup ds, e, _, w, u, u', A, .tup h hs, he, rv, rw', hu, hd1, hu' => by
    cases rv
    obtain ⟨its, r, p⟩ := F.t _ _ h
    have hu0 : A.units < cLine := by unfold dep at hu; omega
    cases he with
    | tup h' hs' =>
      cases rw'
      obtain ⟨its', r', p'⟩ := F.t _ _ h'
      rename_i a vs b ws es
      by_cases q : a = b
      · subst q
        have := Rep.inj F (.tup h hs) (.tup h' hs') hd1 hu'
        rw [← this, eqD_refl]
        exact SeqAt.EqAt.same _
      · have l1 : its.length = ds.length := by rw [← r.length, hs.length]
        have l2 : its'.length = es.length := by rw [← r'.length, hs'.length]
        simp only [eqD]
        rw [← eqDs_min, ← l1, ← l2]
        refine SeqAt.EqAt.of_refs q ?_
        have := SeqAt.RcAt.tuples (e := nthEq ds es) p p' hu0 fun j j1 j2 => by
          have k1 : j < ds.length := by rw [← l1]; simpa using j1
          have k2 : j < es.length := by rw [← l2]; simpa using j2
          have := eqAt_Ds F A.in1 hs hs' r r' (by rw [in1_units]; unfold dep at hu; omega) (by unfold dep at hd1; omega) (by unfold dep at hu'; omega) j k1 k2
          have m1 : j < its.length := by simpa using j1
          have m2 : j < its'.length := by simpa using j2
          simpa [m1, m2] using this
        simpa using this
    | lst h' hs' =>
      cases rw'
      obtain ⟨its', r', p'⟩ := F.l _ _ h'
      exact SeqAt.EqAt.tuple_list p p' hu0
    | non => exact (tuple_flat p rw' rfl hu0).1
    | bl _ => exact (tuple_flat p rw' rfl hu0).1
    | int _ => exact (tuple_flat p rw' rfl hu0).1
    | str _ => exact (tuple_flat p rw' rfl hu0).1
    | emp _ => unfold dep at hu'; omega
    | exn _ _ _ _ _ => unfold dep at hu'; omega
  | .lst ds, e, _, w, u, u', A, .lst h hs, he, rv, rw', hu, hd1, hu' => by
    cases rv
    obtain ⟨its, r, p⟩ := F.l _ _ h
    have hu0 : A.units < cLine := by unfold dep at hu; omega
    cases he with
    | lst h' hs' =>
      cases rw'
      obtain ⟨its', r', p'⟩ := F.l _ _ h'
      rename_i a vs b ws es
      by_cases q : a = b
      · subst q
        have := Rep.inj F (.lst h hs) (.lst h' hs') hd1 hu'
        rw [← this, eqD_refl]
        exact SeqAt.EqAt.same _
      · have l1 : its.length = ds.length := by rw [← r.length, hs.length]
        have l2 : its'.length = es.length := by rw [← r'.length, hs'.length]
        simp only [eqD]
        refine SeqAt.EqAt.of_refs q ?_
        by_cases z : ds.length = es.length
        · rw [← eqDs_nth z, ← l1]
          have := SeqAt.RcAt.lists (e := nthEq ds es) p p' (by simp; omega) hu0 fun j j1 j2 => by
            have k1 : j < ds.length := by rw [← l1]; simpa using j1
            have k2 : j < es.length := by rw [← l2]; simpa using j2
            have := eqAt_Ds F A.in1 hs hs' r r' (by rw [in1_units]; unfold dep at hu; omega) (by unfold dep at hd1; omega) (by unfold dep at hu'; omega) j k1 k2
            have m1 : j < its.length := by simpa using j1
            have m2 : j < its'.length := by simpa using j2
            simpa [m1, m2] using this
          simpa using this
        · rw [eqDs_len z]
          exact SeqAt.RcAt.lists_lengths p p' (by simp; omega) hu0
    | tup h' hs' =>
      cases rw'
      obtain ⟨its', r', p'⟩ := F.t _ _ h'
      exact SeqAt.EqAt.list_tuple p p' hu0
    | non => exact (list_flat p rw' rfl hu0).1
    | bl _ => exact (list_flat p rw' rfl hu0).1
    | int _ => exact (list_flat p rw' rfl hu0).1
    | str _ => exact (list_flat p rw' rfl hu0).1
    | emp _ => unfold dep at hu'; omega
    | exn _ _ _ _ _ => unfold dep at hu'; omega
  | .non, e, v, w, u, u', A, hd, he, rv, rw', hu, _, hu' => flatAt F A hd he rv rw' rfl (by omega) hu'
  | .bl _, e, v, w, u, u', A, hd, he, rv, rw', hu, _, hu' => flatAt F A hd he rv rw' rfl (by omega) hu'
  | .int _, e, v, w, u, u', A, hd, he, rv, rw', hu, _, hu' => flatAt F A hd he rv rw' rfl (by omega) hu'
  | .emp, e, v, w, u, u', A, hd, he, rv, rw', hu, hd1, hu' => by unfold dep at hd1; omega
  | .exn _ _ _, e, v, w, u, u', A, hd, he, rv, rw', hu, hd1, hu' => by unfold dep at hd1; omega
  | .str _, e, v, w, u, u', A, hd, he, rv, rw', hu, _, hu' => flatAt F A hd he rv rw' rfl (by omega) hu'
theorem eqAt_Ds (F : HF K J s) : ∀ {ds es : List D} {vs ws : List V} {us us' : List Value} (A : Around), Reps K J ds vs → Reps K J es ws → Vals vs us → Vals ws us' → A.units + deps ds < cLine → deps ds ≤ 1000 → deps es ≤ 1000 →
    ∀ (j : Nat) (h1 : j < ds.length) (h2 : j < es.length), SeqAt.EqAt A s (us.getD j .none) (us'.getD j .none) (nthEq ds es j)
  | _, _, _, _, _, _, A, .cons h hs, .cons h' hs', .cons r rs, .cons r' rs', hu, k1, k2, 0, _, _ => eqAt_D F A h h' r r' (by unfold deps at hu; omega) (by unfold deps at k1; omega) (by unfold deps at k2; omega)
  | _, _, _, _, _, _, A, .cons h hs, .cons h' hs', .cons r rs, .cons r' rs', hu, k1, k2, j + 1, h1, h2 => eqAt_Ds F A hs hs' rs rs' (by unfold deps at hu; omega) (by unfold deps at k1; omega) (by unfold deps at k2; omega) j (by simpa using h1) (by simpa using h2)
end
end
end DL
set_option Elab.async false
set_option linter.all false
set_option maxRecDepth 100000
set_option maxHeartbeats 4000000
namespace DL
open PySem PySem.Spec PyProof.Rows L2
section
variable {K : PySem.W.Frag} {J : Hp} {s : Shared}
theorem rcAt_D (F : HF K J s) {d e : D} {v w : V} {u u' : Value} (A : Around) (hd : Rep K J d v) (he : Rep K J e w) (rv : RelV v u) (rw' : RelV w u') (hu : A.units + dep d < cLine) (hd1 : dep d ≤ 1000) (hu' : dep e ≤ 1000) : SeqAt.RcAt A s u u' (eqD d e) ∧ SeqAt.RcNeAt A s u u' (!eqD d e) := by
  have hu0 : A.units < cLine := by omega
  cases hd with
  | non =>
    cases rv
    cases he with
    | non => cases rw'; exact ⟨.none_none, .none_none⟩
    | bl b => cases rw'; exact ⟨.none_bool b, .none_bool b⟩
    | int i => obtain ⟨t, rfl⟩ := rw'; exact ⟨.none_int i t, .none_int i t⟩
    | str x => obtain ⟨t, rfl⟩ := rw'; exact ⟨.none_str x t, .none_str x t⟩
    | tup h hs => cases rw'; obtain ⟨its, r, p⟩ := F.t _ _ h; exact ⟨.none_tuple p hu0, .none_tuple p hu0⟩
    | lst h hs => cases rw'; obtain ⟨its, r, p⟩ := F.l _ _ h; exact ⟨.none_list p hu0, .none_list p hu0⟩
    | emp _ => unfold dep at hu'; omega
    | exn _ _ _ _ _ => unfold dep at hu'; omega
  | bl a =>
    cases rv
    cases he with
    | non => cases rw'; exact ⟨.bool_none a, .bool_none a⟩
    | bl b => cases rw'; exact ⟨.bool_bool a b, .bool_bool a b⟩
    | int i => obtain ⟨t, rfl⟩ := rw'; exact ⟨.bool_int a i t, .bool_int a i t⟩
    | str x => obtain ⟨t, rfl⟩ := rw'; exact ⟨.bool_str a x t, .bool_str a x t⟩
    | tup h hs => cases rw'; obtain ⟨its, r, p⟩ := F.t _ _ h; exact ⟨.bool_tuple a p hu0, .bool_tuple a p hu0⟩
    | lst h hs => cases rw'; obtain ⟨its, r, p⟩ := F.l _ _ h; exact ⟨.bool_list a p hu0, .bool_list a p hu0⟩
    | emp _ => unfold dep at hu'; omega
    | exn _ _ _ _ _ => unfold dep at hu'; omega
  | int a =>
    obtain ⟨t0, rfl⟩ := rv
    cases he with
    | non => cases rw'; exact ⟨.int_none a t0, .int_none a t0⟩
    | bl b => cases rw'; exact ⟨.int_bool a t0 b, .int_bool a t0 b⟩
    | int i => obtain ⟨t, rfl⟩ := rw'; exact ⟨.int_int a t0 i t, .int_int a t0 i t⟩
    | str x => obtain ⟨t, rfl⟩ := rw'; exact ⟨.int_str a t0 x t, .int_str a t0 x t⟩
    | tup h hs => cases rw'; obtain ⟨its, r, p⟩ := F.t _ _ h; exact ⟨.int_tuple a t0 p hu0, .int_tuple a t0 p hu0⟩
    | lst h hs => cases rw'; obtain ⟨its, r, p⟩ := F.l _ _ h; exact ⟨.int_list a t0 p hu0, .int_list a t0 p hu0⟩
    | emp _ => unfold dep at hu'; omega
    | exn _ _ _ _ _ => unfold dep at hu'; omega
  | str a =>
    obtain ⟨t0, rfl⟩ := rv
    cases he with
    | non => cases rw'; exact ⟨.str_none a t0, .str_none a t0⟩
    | bl b => cases rw'; exact ⟨.str_bool a t0 b, .str_bool a t0 b⟩
    | int i => obtain ⟨t, rfl⟩ := rw'; exact ⟨.str_int a t0 i t, .str_int a t0 i t⟩
    | str x => obtain ⟨t, rfl⟩ := rw'; exact ⟨.str_str a t0 x t, .str_str a t0 x t⟩
    | tup h hs => cases rw'; obtain ⟨its, r, p⟩ := F.t _ _ h; exact ⟨.str_tuple a t0 p hu0, .str_tuple a t0 p hu0⟩
    | lst h hs => cases rw'; obtain ⟨its, r, p⟩ := F.l _ _ h; exact ⟨.str_list a t0 p hu0, .str_list a t0 p hu0⟩
    | emp _ => unfold dep at hu'; omega
    | exn _ _ _ _ _ => unfold dep at hu'; omega
  | tup h hs =>
    cases rv
    obtain ⟨its, r, p⟩ := F.t _ _ h
    cases he with
    | non => cases rw'; exact ⟨.tuple_none p hu0, .tuple_none p hu0⟩
    | bl b => cases rw'; exact ⟨.tuple_bool b p hu0, .tuple_bool b p hu0⟩
    | int i => obtain ⟨t, rfl⟩ := rw'; exact ⟨.tuple_int i t p hu0, .tuple_int i t p hu0⟩
    | str x => obtain ⟨t, rfl⟩ := rw'; exact ⟨.tuple_str x t p hu0, .tuple_str x t p hu0⟩
    | lst h' hs' => cases rw'; obtain ⟨its', r', p'⟩ := F.l _ _ h'; exact ⟨.tuple_list p p' hu0, .tuple_list p p' hu0⟩
    | emp _ => unfold dep at hu'; omega
    | exn _ _ _ _ _ => unfold dep at hu'; omega
    | tup h' hs' =>
      cases rw'
      obtain ⟨its', r', p'⟩ := F.t _ _ h'
      rename_i a vs ds b ws es
      have l1 : its.length = ds.length := by rw [← r.length, hs.length]
      have l2 : its'.length = es.length := by rw [← r'.length, hs'.length]
      have it : ∀ (j : Nat) (j1 : j < its.toArray.size) (j2 : j < its'.toArray.size), SeqAt.EqAt A.in1 s its.toArray[j] its'.toArray[j] (nthEq ds es j) := fun j j1 j2 => by
        have k1 : j < ds.length := by rw [← l1]; simpa using j1
        have k2 : j < es.length := by rw [← l2]; simpa using j2
        have := eqAt_Ds F A.in1 hs hs' r r' (by rw [in1_units]; unfold dep at hu; omega) (by unfold dep at hd1; omega) (by unfold dep at hu'; omega) j k1 k2
        have m1 : j < its.length := by simpa using j1
        have m2 : j < its'.length := by simpa using j2
        simpa [m1, m2] using this
      simp only [eqD]
      rw [← eqDs_min, ← l1, ← l2]
      have q1 := SeqAt.RcAt.tuples p p' hu0 it
      have q2 := SeqAt.RcNeAt.tuples p p' hu0 it
      exact ⟨by simpa using q1, by simpa using q2⟩
  | emp _ => unfold dep at hd1; omega
  | exn _ _ _ _ _ => unfold dep at hd1; omega
  | lst h hs =>
    cases rv
    obtain ⟨its, r, p⟩ := F.l _ _ h
    cases he with
    | non => cases rw'; exact ⟨.list_none p hu0, .list_none p hu0⟩
    | bl b => cases rw'; exact ⟨.list_bool b p hu0, .list_bool b p hu0⟩
    | int i => obtain ⟨t, rfl⟩ := rw'; exact ⟨.list_int i t p hu0, .list_int i t p hu0⟩
    | str x => obtain ⟨t, rfl⟩ := rw'; exact ⟨.list_str x t p hu0, .list_str x t p hu0⟩
    | tup h' hs' => cases rw'; obtain ⟨its', r', p'⟩ := F.t _ _ h'; exact ⟨.list_tuple p p' hu0, .list_tuple p p' hu0⟩
    | emp _ => unfold dep at hu'; omega
    | exn _ _ _ _ _ => unfold dep at hu'; omega
    | lst h' hs' =>
      cases rw'
      obtain ⟨its', r', p'⟩ := F.l _ _ h'
      rename_i a vs ds b ws es
      have l1 : its.length = ds.length := by rw [← r.length, hs.length]
      have l2 : its'.length = es.length := by rw [← r'.length, hs'.length]
      have it : ∀ (j : Nat) (j1 : j < its.toArray.size) (j2 : j < its'.toArray.size), SeqAt.EqAt A.in1 s its.toArray[j] its'.toArray[j] (nthEq ds es j) := fun j j1 j2 => by
        have k1 : j < ds.length := by rw [← l1]; simpa using j1
        have k2 : j < es.length := by rw [← l2]; simpa using j2
        have := eqAt_Ds F A.in1 hs hs' r r' (by rw [in1_units]; unfold dep at hu; omega) (by unfold dep at hd1; omega) (by unfold dep at hu'; omega) j k1 k2
        have m1 : j < its.length := by simpa using j1
        have m2 : j < its'.length := by simpa using j2
        simpa [m1, m2] using this
      simp only [eqD]
      by_cases z : ds.length = es.length
      · rw [← eqDs_nth z, ← l1]
        have q1 := SeqAt.RcAt.lists p p' (by simp; omega) hu0 it
        have q2 := SeqAt.RcNeAt.lists p p' (by simp; omega) hu0 it
        exact ⟨by simpa using q1, by simpa using q2⟩
      · rw [eqDs_len z]
        exact ⟨.lists_lengths p p' (by simp; omega) hu0, .lists_lengths p p' (by simp; omega) hu0⟩
end
section
variable {X : Cx} {c : C} {e a b tg : Expr} {es : List Expr} {ga gb g : G R} {pos : Pos}
/-- any list that is read, as data of the heap as it stands -/
theorem RR.rep {He J H : Hp} (hp : HI c J H) : ∀ {r : R} {v : V} {d : D}, RR c He J H r v → (∀ xs, r = .l .fresh xs ∨ r = .l .own xs ∨ r = .l .bor xs → d = .lst xs) → (∀ x, r = .d x → d = x) → Rep c.K H d v
  | .d x, v, d, h, _, k => by rw [k x rfl]; exact Rep.mono hp.sub h
  | .l m xs, v, d, h, k, _ => by
    have e : d = .lst xs := k xs (by cases m; exact .inl rfl; exact .inr (.inl rfl); exact .inr (.inr rfl))
    obtain ⟨a, vs, rfl, h1, h2⟩ := RR.list hp h rfl
    rw [e]
    exact .lst h1 (h2.mono hp.sub)
noncomputable def R.dat : R → D
  | .d x => x
  | .l _ xs => .lst xs
theorem RR.dat {He J H : Hp} (hp : HI c J H) {r : R} {v : V} (h : RR c He J H r v) : Rep c.K H r.dat v := by
  refine h.rep hp (fun xs q => ?_) (fun x q => by rw [q]; rfl)
  rcases q with q | q | q <;> (rw [q]; rfl)
noncomputable def rEqD (K : PySem.W.Frag) (neg : Bool) : R2 := fun x y H Q => ∃ d e, Rep K H d x ∧ Rep K H e y ∧ dep d ≤ 60 ∧ dep e ≤ 60 ∧ Q (.bl (if neg then !eqD d e else eqD d e)) H
theorem hf_self {pins : List (Addr × Obj)} {σ : L2.St} {H : Hp} {s : Shared} (I : Inv X pins σ H s) : HF X.K H s := HF.of (c := ⟨X.K, H, H, fun _ => True⟩) I (Same.refl H)
theorem op_eqD (hu : X.A.units + 64 < cLine) : OpR X (compareOp .Eq) (rEqD X.K false) := by
  intro pins s σ H x y v u Q I rx ry h
  obtain ⟨d, e, h1, h2, h3, h4, q⟩ := h
  exact (rcAt_D (hf_self I) X.A h1 h2 rx ry (by omega) (by omega) (by omega)).1 X.prog X.w X.xe _ ⟨.bl _, H, I, rfl, q⟩
theorem op_neD (hu : X.A.units + 64 < cLine) : OpR X (compareOp .NotEq) (rEqD X.K true) := by
  intro pins s σ H x y v u Q I rx ry h
  obtain ⟨d, e, h1, h2, h3, h4, q⟩ := h
  exact (rcAt_D (hf_self I) X.A h1 h2 rx ry (by omega) (by omega) (by omega)).2 X.prog X.w X.xe _ ⟨.bl _, H, I, rfl, q⟩
noncomputable def fEq (neg : Bool) (x y : R) : M R := if dep x.dat ≤ 60 ∧ dep y.dat ≤ 60 then .ok (.d (.bl (if neg then !eqD x.dat y.dat else eqD x.dat y.dat))) else .bad
theorem bd_eq (neg : Bool) (hK : X.K = c.K) : BD c (rEqD X.K neg) (fEq neg) := by
  intro He He' J H x y u v Q hp rx ry w
  unfold fEq at w
  split at w
  · rename_i hd
    exact ⟨x.dat, y.dat, by rw [hK]; exact rx.dat hp, by rw [hK]; exact ry.dat hp, hd.1, hd.2, w _ J H (Ext.refl hp.sub) (.bl _)⟩
  · exact w.elim
theorem pd_eq (hu : X.A.units + 64 < cLine) (ha : PD X c a ga) (hb : PD X c b gb) (hK : X.K = c.K := by rfl) : PD X c (.Compare a [.Eq] [b] pos) (g2 (fEq false) ga gb) := pd_cmp (op_eqD hu) (bd_eq false hK) ha hb
theorem pb_eq (hu : X.A.units + 64 < cLine) (ha : PD X c a ga) (hb : PD X c b gb) (hK : X.K = c.K := by rfl) : PB X c (.Compare a [.Eq] [b] pos) (gTr (g2 (fEq false) ga gb)) := pb_cmp (op_eqD hu) (bd_eq false hK) ha hb
theorem pb_ne (hu : X.A.units + 64 < cLine) (ha : PD X c a ga) (hb : PD X c b gb) (hK : X.K = c.K := by rfl) : PB X c (.Compare a [.NotEq] [b] pos) (gTr (g2 (fEq true) ga gb)) := pb_cmp (op_neD hu) (bd_eq true hK) ha hb
/-! ### in, not in -/
noncomputable def inD (d : D) (xs : List D) : Bool := xs.any fun x => eqD x d
noncomputable def rInD (K : PySem.W.Frag) (neg : Bool) : R2 := fun x y H Q => ∃ d p vs ds, Rep K H d x ∧ dep d ≤ 60 ∧ y = .ref p ∧ (SqL K H p vs ∨ SqT K H p vs) ∧ Reps K H ds vs ∧ deps ds ≤ 60 ∧ Q (.bl (if neg then !inD d ds else inD d ds)) H
theorem reps_find {K : PySem.W.Frag} {H : Hp} {y : Value} : ∀ {ds : List D} {vs : List V} {us : List Value}, Reps K H ds vs → Vals vs us → deps ds ≤ 60 → y ∈ us → ∃ d' v', Rep K H d' v' ∧ RelV v' y ∧ dep d' ≤ 60
  | _, _, _, .nil, .nil, _, hy => nomatch hy
  | _, _, _, .cons r hs, .cons q rs, hd, hy => by
    unfold deps at hd
    rcases List.mem_cons.mp hy with rfl | hy
    · exact ⟨_, _, r, q, by omega⟩
    · exact reps_find hs rs (by omega) hy
open Classical in
noncomputable def ansD (K : PySem.W.Frag) (H : Hp) (d : D) (y : Value) : Bool := decide (∃ d' v', Rep K H d' v' ∧ RelV v' y ∧ dep d' ≤ 1000 ∧ eqD d' d = true)
theorem ansD_of {K : PySem.W.Frag} {H : Hp} {s : Shared} (F : HF K H s) {d d' : D} {v' : V} {y : Value} (r' : Rep K H d' v') (q' : RelV v' y) (hd : dep d' ≤ 1000) : ansD K H d y = eqD d' d := by
  classical
  unfold ansD
  cases z : eqD d' d with
  | true => exact decide_eq_true ⟨d', v', r', q', hd, z⟩
  | false =>
    refine decide_eq_false ?_
    rintro ⟨d2, v2, r2, q2, hd2, z2⟩
    have : v2 = v' := q2.inj q'
    subst this
    rw [Rep.inj F r2 r' hd2 hd] at z2
    rw [z] at z2
    cases z2
theorem any_ansD {K : PySem.W.Frag} {H : Hp} {s : Shared} (F : HF K H s) {d : D} : ∀ {ds : List D} {vs : List V} {us : List Value}, Reps K H ds vs → Vals vs us → deps ds ≤ 1000 → us.any (ansD K H d) = inD d ds
  | _, _, _, .nil, .nil, _ => rfl
  | _, _, _, .cons r hs, .cons q rs, hd => by
    unfold deps at hd
    unfold inD
    rw [List.any_cons, List.any_cons, any_ansD F hs rs (by omega), ansD_of F r q (by omega)]
    rfl
/-- what each item answers, by the value -/
theorem any_at {A : Around} {s : Shared} {K : PySem.W.Frag} {H : Hp} (F : HF K H s) {d : D} {x : V} {u : Value} (h : Rep K H d x) (rx : RelV x u) (hdd : dep d ≤ 60) (hA : A.units + 60 < cLine) {ds : List D} {vs : List V} {us : List Value} (hs : Reps K H ds vs) (rs : Vals vs us) (hd : deps ds ≤ 60) :
    ∃ e : Value → Bool, (∀ y ∈ us, SeqAt.EqAt A s y u (e y)) ∧ us.any e = inD d ds := by
  refine ⟨ansD K H d, fun y hy => ?_, any_ansD F hs rs (by omega)⟩
  obtain ⟨d', v', r', q', hd'⟩ := reps_find hs rs hd hy
  rw [ansD_of F r' q' (by omega)]
  exact eqAt_D F A r' h q' rx (by omega) (by omega) (by omega)
theorem op_inD (hu : X.A.units + 64 < cLine) : OpR X (compareOp .In) (rInD X.K false) := by
  intro pins s σ H x y v u Q I rx ry h
  obtain ⟨d, p, vs, ds, h1, hdd, rfl, h2, h3, h4, q⟩ := h
  cases ry
  have F := hf_self I
  rcases h2 with h2 | h2
  · obtain ⟨its, r, pl⟩ := F.l _ _ h2
    obtain ⟨e, he, hany⟩ := any_at (A := X.A.in1) F h1 rx hdd (by rw [in1_units]; omega) h3 r h4
    exact SeqAt.in_listAt e pl (fun z hz => he z (by simpa using hz)) ⟨.bl _, H, I, rfl, by rw [show its.toArray.any e = its.any e by simp, hany]; exact q⟩
  · obtain ⟨its, r, pl⟩ := F.t _ _ h2
    obtain ⟨e, he, hany⟩ := any_at (A := X.A.in1) F h1 rx hdd (by rw [in1_units]; omega) h3 r h4
    exact SeqAt.in_tupleAt e pl (fun z hz => he z (by simpa using hz)) ⟨.bl _, H, I, rfl, by rw [show its.toArray.any e = its.any e by simp, hany]; exact q⟩
noncomputable def fIn (neg : Bool) (x y : R) : M R := asQ y >>= fun ys => if deps ys ≤ 60 ∧ dep x.dat ≤ 60 then .ok (.d (.bl (if neg then !inD x.dat ys else inD x.dat ys))) else .bad
theorem bd_in (neg : Bool) (hK : X.K = c.K) : BD c (rInD X.K neg) (fIn neg) := by
  intro He He' J H x y u v Q hp rx ry w
  obtain ⟨ys, q, w⟩ := wpM_asQ w
  obtain ⟨p, vs, rfl, h1, h2⟩ := asQ_seq hp ry q
  split at w
  · rename_i hd
    exact ⟨x.dat, p, vs, ys, by rw [hK]; exact rx.dat hp, hd.2, rfl, by rw [hK]; exact h1, by rw [hK]; exact h2.mono hp.sub, hd.1, w _ J H (Ext.refl hp.sub) (.bl _)⟩
  · exact w.elim
theorem pd_in (hu : X.A.units + 64 < cLine) (ha : PD X c a ga) (hb : PD X c b gb) (hK : X.K = c.K := by rfl) (hm : behindInMarks .In b = false := by rfl) : PD X c (.Compare a [.In] [b] pos) (g2 (fIn false) ga gb) := pd_cmp (op_inD hu) (bd_in false hK) ha hb hm
end
end DL
set_option Elab.async false
set_option linter.all false
set_option maxRecDepth 100000
set_option maxHeartbeats 4000000
namespace DL
open PySem PySem.Spec PyProof.Rows L2
section
variable {X : Cx} {c : C} {e a b tg : Expr} {es : List Expr} {ga gb g : G R} {pos : Pos}
/-! ### slices -/
/-! ### t + u -/
/-! ### sorted -/
theorem strsAre_of {ss : List Str} : ∀ {us : List Value}, Vals (ss.map V.str) us → StrsAre us ss := by
  induction ss with
  | nil => intro us h; cases h; exact .nil
  | cons x r ih =>
    intro us h
    cases h with
    | cons q rs =>
      obtain ⟨t, rfl⟩ := q
      exact .cons x t (ih rs)
theorem vals_strs : ∀ {us : List Value} {ss : List Str}, StrsAre us ss → Vals (ss.map V.str) us
  | _, _, .nil => .nil
  | _, _, .cons y t h => .cons ⟨t, rfl⟩ (vals_strs h)
/-- the texts in their order -/
noncomputable def leS (x y : Str) : Bool := decide (x.cps.toList ≤ y.cps.toList)
noncomputable def sortS (ss : List Str) : List Str := ss.mergeSort leS
theorem leS_trans (x y z : Str) (h1 : leS x y = true) (h2 : leS y z = true) : leS x z = true := by
  unfold leS at *
  exact decide_eq_true (List.le_trans (of_decide_eq_true h1) (of_decide_eq_true h2))
theorem leS_total (x y : Str) : (leS x y || leS y x) = true := by
  unfold leS
  rw [Bool.or_eq_true]
  rcases List.le_total x.cps.toList y.cps.toList with h | h
  · exact .inl (decide_eq_true h)
  · exact .inr (decide_eq_true h)
theorem leS_anti {x y : Str} (h1 : leS x y = true) (h2 : leS y x = true) : x = y := by
  unfold leS at *
  have := List.le_antisymm (of_decide_eq_true h1) (of_decide_eq_true h2)
  obtain ⟨⟨cx⟩⟩ := x
  obtain ⟨⟨cy⟩⟩ := y
  simp only at this
  rw [this]
theorem sortS_sorted (ss : List Str) : (sortS ss).Pairwise fun x y => leS x y = true := List.pairwise_mergeSort leS_trans leS_total ss
theorem sortS_perm (ss : List Str) : (sortS ss).Perm ss := List.mergeSort_perm ss leS
theorem risingS_pw : ∀ (x : Str) (r : List Str), risingS x r = true → (x :: r).Pairwise fun x y => leS x y = true
  | x, [], _ => by simp
  | x, y :: r, h => by
    unfold risingS at h
    rw [Bool.and_eq_true] at h
    have hy := risingS_pw y r h.2
    have hxy : leS x y = true := by
      have h1 := h.1
      rw [ltCps_eq] at h1
      unfold leS
      refine decide_eq_true ?_
      have : ¬ y.cps.toList < x.cps.toList := by simpa using h1
      exact this
    refine List.pairwise_cons.mpr ⟨fun z hz => ?_, hy⟩
    rcases List.mem_cons.mp hz with rfl | hz
    · exact hxy
    · exact leS_trans x y z hxy ((List.pairwise_cons.mp hy).1 z hz)
theorem sortS_only {ss ss' : List Str} (hp : ss'.Perm ss) (hs : sortedS ss' = true) : ss' = sortS ss := by
  have pw : ss'.Pairwise fun x y => leS x y = true := by
    cases ss' with
    | nil => exact List.Pairwise.nil
    | cons x r => exact risingS_pw x r hs
  exact (hp.trans (sortS_perm ss).symm).eq_of_pairwise (fun x y _ _ h1 h2 => leS_anti h1 h2) pw (sortS_sorted ss)
theorem call_sortedS : CallR X (.builtin "sorted") (fun xs H Q => ∃ p ss, xs = [.ref p] ∧ SqL X.K H p (ss.map V.str) ∧ ss.length < 64 ∧ ∀ ss', ss'.Perm ss → sortedS ss' = true → ∀ l, H l = none → Q (.ref l) (upd H l (.lst (ss'.map V.str)))) := by
  intro pins s σ H xs us Q I r h
  obtain ⟨p, ss, rfl, hq, hl, q⟩ := h
  obtain ⟨u, rfl, rx⟩ := vals1 r
  cases rx
  obtain ⟨its, r', pl, hz⟩ := I.list hq
  have hlen := r'.length
  refine sorted_strs pl.isList (strsAre_of r') (by rw [← hlen, List.length_map]; exact hl) fun out ss' a1 a2 a3 => ?_
  obtain ⟨n, hn⟩ := sortedAll_at s.heap its out
  have kp : ∀ b o, s.heap.get? b = some o → (sortedAll s.heap its out).get? b = some o := fun b o e => sortedAll_old e
  have fr : H (s.heap.objs.size + 1) = none := I.hok.fresh (Nat.le_succ _)
  have ll : (ss'.map V.str).length = (ss.map V.str).length := by rw [List.length_map, List.length_map, a2.length_eq]
  refine ⟨.ref (s.heap.objs.size + 1), _, I.laid (t' := s.toks) kp (Nat.le_succ _) (show ObjOk X.prog X.w _ _ _ (.lst (ss'.map V.str)) from ⟨by rw [ll]; exact hz, out.toList, n, vals_strs a1, by simpa [seqObj] using hn⟩), rfl, q ss' a2 a3 _ fr⟩
noncomputable def strsOf : List D → Option (List Str)
  | [] => some []
  | .str x :: r => (strsOf r).map (x :: ·)
  | _ :: _ => none
theorem strsOf_rep {K : PySem.W.Frag} {J : Hp} : ∀ {ds : List D} {vs : List V} {ss : List Str}, strsOf ds = some ss → Reps K J ds vs → vs = ss.map V.str
  | [], _, _, h, .nil => by cases h; rfl
  | .str x :: r, _, ss, h, .cons q rs => by
    unfold strsOf at h
    cases z : strsOf r with
    | none => rw [z] at h; cases h
    | some ss' =>
      rw [z] at h
      cases h
      cases q
      rw [strsOf_rep z rs]
      rfl
theorem reps_strs {K : PySem.W.Frag} {J : Hp} : ∀ (ss : List Str), Reps K J (ss.map D.str) (ss.map V.str)
  | [] => .nil
  | x :: r => .cons (.str x) (reps_strs r)
noncomputable def fSorted : List R → M R
  | [r] => asL r >>= fun xs => match strsOf xs with
    | some ss => if ss.length < 64 then .ok (.l .fresh ((sortS ss).map .str)) else .bad
    | none => .bad
  | _ => .bad
theorem boot_sorted' : bootBuiltins "sorted" = some (.builtin "sorted") := by decide +kernel
theorem pd_sorted {p : Pos} {gs : G (List R)} (ha : PAr X c (e :: es) gs) (hm : X.mg "sorted" = none) (hK : X.K = c.K := by rfl) (hg : Gl X "sorted" := by rfl)
    (he : starEach (e :: es) X.env = (false, eval e X.env) :: starEach es X.env := by rfl) (hpl : (backTo pos (starEach es X.env)).any (·.1) = false := by rfl) : PD X c (.Call (.Name "sorted" p) (e :: es) [] pos) (gN fSorted gs) :=
  pd_callB call_sortedS (by
    intro He J H xs vs Q hp rs w
    unfold fSorted at w
    split at w
    · obtain ⟨v, rfl, r⟩ := rs.one
      obtain ⟨xs, q, w⟩ := wpM_asL w
      obtain ⟨p, vs, rfl, h1, h2⟩ := RR.list hp r q
      split at w
      · rename_i ss z
        split at w
        · rename_i hl
          have := strsOf_rep z h2
          subst this
          refine ⟨p, ss, rfl, by rw [hK]; exact h1, hl, fun ss' hp' hs' l hl' => ?_⟩
          rw [sortS_only hp' hs']
          exact w _ _ _ (Ext.new hp.sub hl' _) (rr_new hp hl' (reps_strs _))
        · exact w.elim
      · exact w.elim
    · exact w.elim) boot_sorted' hm ha hg (by decide) (by decide) he hpl
/-! ### text * n -/
theorem foldl_size (c : Array Nat) : ∀ (k : Nat) (acc : Array Nat), ((List.replicate k c).foldl (· ++ ·) acc).size = acc.size + k * c.size
  | 0, acc => by simp
  | k + 1, acc => by
    rw [List.replicate_succ, List.foldl_cons, foldl_size c k, Array.size_append, Nat.succ_mul]
    omega
noncomputable def repS (x : Str) (n : Nat) : Str := ⟨(List.replicate n x.cps).foldl (· ++ ·) #[]⟩
theorem repS_length (x : Str) (n : Nat) : (repS x n).length = n * x.length := by
  unfold repS Str.length
  simp only
  rw [foldl_size]
  simp
theorem op_mulS : OpR X (binaryOp .Mult) (fun x y H Q => ∃ z n, x = .str z ∧ y = .int n ∧ 0 ≤ n ∧ n ≤ 1000 ∧ z.length ≤ 1000 ∧ Q (.str (repS z n.toNat)) H) := by
  intro pins s σ H x y v u Q I rx ry h
  obtain ⟨z, n, rfl, rfl, h0, h1, h2, q⟩ := h
  obtain ⟨t, rfl⟩ := rx
  obtain ⟨t', rfl⟩ := ry
  have hz : Builtin.Str.tooLong (z.length * n.toNat) = false := by
    have : z.length * n.toNat ≤ 1000 * 1000 := Nat.mul_le_mul h2 (by omega)
    unfold Builtin.Str.tooLong
    exact decide_eq_false (by have := sizeLine_eq; omega)
  refine PySem.P.mul_str (by
    rw [decide_eq_false (by omega : ¬ n < -(2 ^ 63 : Int)), decide_eq_false (by omega : ¬ n ≥ 2 ^ 63)]; rfl) (fun hn _ => ?_) (fun _ _ => hz) ?_
  · have : (2 ^ 63 - 1 : Int) / 1000 ≤ (2 ^ 63 - 1) / n := by
      refine (Int.le_ediv_iff_mul_le (by omega)).mpr ?_
      have : (2 ^ 63 - 1 : Int) / 1000 * n ≤ (2 ^ 63 - 1 : Int) / 1000 * 1000 := Int.mul_le_mul_of_nonneg_left h1 (by decide)
      exact Int.le_trans this (by decide)
    have e : (2 ^ 63 - 1 : Int) / 1000 = 9223372036854775 := by decide
    omega
  · split
    · rename_i hn
      have e : n = 0 := by omega
      subst e
      exact ⟨by decide, .str _, H, I.tok _, ⟨_, rfl⟩, q⟩
    · split
      · rename_i hn hc
        have e : repS z n.toNat = z := by
          unfold repS
          rw [Bool.or_eq_true] at hc
          rcases hc with hc | hc
          · have e : n = 1 := by simpa using hc
            subst e
            simp
          · have e : z.length = 0 := by simpa using hc
            have e2 : z.cps = #[] := by
              unfold Str.length at e
              exact Array.eq_empty_of_size_eq_zero e
            obtain ⟨cz⟩ := z
            simp only at e2
            subst e2
            congr 1
            generalize n.toNat = k
            induction k with
            | zero => rfl
            | succ k ih => rw [List.replicate_succ, List.foldl_cons]; exact ih
        rw [e] at q
        exact ⟨.str z, H, I, ⟨_, rfl⟩, q⟩
      · exact ⟨by
          have := repS_length z n.toNat
          unfold repS at this
          rw [this, Nat.mul_comm]
          have : z.length * n.toNat ≤ 1000 * 1000 := Nat.mul_le_mul h2 (by omega)
          rw [sizeLine_eq]
          omega, .str _, H, I.tok _, ⟨_, rfl⟩, q⟩
noncomputable def fMulS : R → R → M R
  | .d (.str z), .d (.int n) => if 0 ≤ n ∧ n ≤ 1000 ∧ z.length ≤ 1000 then .ok (.d (.str (repS z n.toNat))) else .bad
  | _, _ => .bad
/-! ### isinstance of a built-in class -/
noncomputable def tyD : D → String
  | .non => "NoneType"
  | .bl _ => "bool"
  | .int _ => "int"
  | .str _ => "str"
  | .tup _ => "tuple"
  | .lst _ => "list"
  | .emp => "dict"
  | .exn _ _ _ => "exc"
noncomputable def subT (t T : String) : Bool := t == T || (t == "bool" && T == "int")
end
end DL
set_option Elab.async false
set_option linter.all false
set_option maxRecDepth 100000
set_option maxHeartbeats 4000000
namespace DL
open PySem PySem.Spec PyProof.Rows L2
section
variable {X : Cx} {c : C} {e a b tg : Expr} {es : List Expr} {ga gb g : G R} {pos : Pos}
/-! ### one rule for each sign -/
noncomputable def isI : R → Bool
  | .d (.int _) => true
  | _ => false
noncomputable def isS : R → Bool
  | .d (.str _) => true
  | _ => false
noncomputable def fPlus (x y : R) : M R := if isI x then fAdd x y else if isS x then fAddS x y else fCatL x y
theorem pd_plus (ha : PD X c a ga) (hb : PD X c b gb) : PD X c (.BinOp a .Add b pos) (g2 fPlus ga gb) := by
  have h1 : BD c (rI0 fun i j => .int (i + j)) fAdd := bd_I0 fun _ _ _ => .int _
  have q := pd_op (pos := pos) (op_add.or (op_add_str.or op_cat)) (BD.or (c := c) (fun x _ => isI x) h1 (BD.or (c := c) (fun x _ => isS x) (f := fAddS) (f' := fCatL) (by
    intro He He' J H x y u v Q hp rx ry w
    unfold fAddS at w
    split at w
    · cases rx; cases ry
      split at w
      · rename_i h; exact ⟨_, _, rfl, rfl, h, w _ J H (Ext.refl hp.sub) (.str _)⟩
      · exact w.elim
    · exact w.elim) (by
    intro He He' J H x y u v Q hp rx ry w
    unfold fCatL at w
    split at w
    · rename_i hm
      rw [Bool.and_eq_true] at hm
      obtain ⟨p, vs, xs, e1, rfl, h1, s1⟩ := rx.made hm.1
      obtain ⟨p2, vs2, ys, e2, rfl, h2, s2⟩ := ry.made hm.2
      rw [e1, e2] at w
      simp only [bind_ok] at w
      split at w
      · rename_i hz
        rw [s1.length, s2.length] at hz
        exact ⟨p, p2, vs, vs2, rfl, rfl, h1, h2, hz, fun q hq => w _ J _ (Ext.new hp.sub hq _) (rr_new hp hq (s1.append s2))⟩
      · exact w.elim
    · exact w.elim))) ha hb
  exact q
noncomputable def fTimes (x y : R) : M R := if isI x then fMul x y else fMulS x y
theorem pd_times (ha : PD X c a ga) (hb : PD X c b gb) : PD X c (.BinOp a .Mult b pos) (g2 fTimes ga gb) := by
  have h1 : BD c (rI CMul fun i j => .int (i * j)) fMul := bd_I (fun i j h => kMul_ok h) fun _ _ _ => .int _
  exact pd_op (pos := pos) (op_mul.or op_mulS) (BD.or (c := c) (fun x _ => isI x) h1 (f' := fMulS) (by
    intro He He' J H x y u v Q hp rx ry w
    unfold fMulS at w
    split at w
    · cases rx; cases ry
      split at w
      · rename_i h; exact ⟨_, _, rfl, rfl, h.1, h.2.1, h.2.2, w _ J H (Ext.refl hp.sub) (.str _)⟩
      · exact w.elim
    · exact w.elim)) ha hb
noncomputable def fIx (x y : R) : M R := match x, y with
  | .d (.str z), .d (.int i) => if z.length ≤ sizeLine then (match atI z.cps.toList i with
    | some k => .ok (.d (.str ⟨#[k]⟩))
    | none => .bad) else .bad
  | x, .d (.int i) => asQ x >>= fun xs => (match atI xs i with
    | some d => .ok (.d d)
    | none => .bad)
  | _, _ => .bad
theorem pd_index (ha : PD X c a ga) (hb : PD X c b gb) (hK : X.K = c.K := by rfl) (hs : PlainIx b := by exact fun _ _ => rfl) : PD X c (.Subscript a b pos) (g2 fIx ga gb) := pd_ix ix_seq (by
  intro He He' J H x y u v Q hp rx ry w
  rw [hK]
  unfold fIx at w
  split at w
  · cases rx; cases ry
    split at w
    · rename_i h
      split at w
      · rename_i k hk; exact .inr (.inr ⟨_, _, k, rfl, rfl, h, hk, w _ J H (Ext.refl hp.sub) (.str _)⟩)
      · exact w.elim
    · exact w.elim
  · cases ry
    obtain ⟨xs, q, w⟩ := wpM_asQ w
    obtain ⟨p, vs, rfl, hl, hs⟩ := asQ_seq hp rx q
    split at w
    · rename_i d hd
      obtain ⟨z, h1, h2⟩ := reps_at hs hd
      have fin := w z J H (Ext.refl hp.sub) h2
      rcases hl with hl | hl
      · exact .inl ⟨p, vs, _, z, rfl, rfl, hl, h1, fin⟩
      · exact .inr (.inl ⟨p, vs, _, z, rfl, rfl, hl, h1, fin⟩)
    · exact w.elim
  · exact w.elim) ha hb hs
/-! ### a def that is called -/
noncomputable def Cal (P : Program) (w : World) (K : PySem.W.Frag) (mg : Str → Option Value) (base : Heap) (k n : Nat) (x : Str) (Fm : List S → M R) : Prop :=
  ∃ f fd ps, FnOk P w K mg base CX0 k f fd ps (spD K n Fm) ∧ mg x = some (.ref f) ∧ PySem.W.keepIn K (.ref f) = true ∧ Binds K fd ps []
theorem pd_cal {k k' n : Nat} {F : List S → M R} {x : Str} {p : Pos} {gs : G (List R)} (G : Cal X.prog X.w X.K X.mg X.base k n x F) (hr : Room k' X.A) (ha : PAr X c (e :: es) gs) (hk : k ≤ k' := by decide) (hT : c.K = X.K := by rfl) (hg : Gl X x := by rfl) (hdb : (x == ("__debug__" : Str)) = false := by decide)
    (he : starEach (e :: es) X.env = (false, eval e X.env) :: starEach es X.env := by rfl) (hpl : (backTo pos (starEach es X.env)).any (·.1) = false := by rfl) : PD X c (.Call (.Name x p) (e :: es) [] pos) (gN (gCall n F) gs) := by
  obtain ⟨f, fd, ps, h1, h2, h3, h4⟩ := G
  exact pd_call h1 (hr.mono hk) h2 h3 h4 ha hT hg hdb he hpl
/-- a def of the text, from its body -/
theorem cal_of {P : Program} {w : World} {K : PySem.W.Frag} {mg : Str → Option Value} {base : Heap} {x qual : Str} {st : Stmt} {f : Addr} {fd : FuncData} {N ps : List Str} {k : Nat} {Fm : List S → M R} (F : Fun K x qual st f fd) (hm : mg x = some (.ref f)) (Sc : FnScope N ps (defScope st))
    (hbi : ∀ (kV doc pm : Value) (an : Option Addr) (cdv ct : Value) (us : List Value), us.length = ps.length → bindArgs (PySem.W.fnOf x qual (defArgs st) (defBody st) (defScope st) .none kV doc pm an cdv ct) ⟨us, []⟩ = pure (ps.zip us)) {gB : G O}
    (hb : ∀ (cdv : Value) (A : Around) (outer : List Env) (s : Shared) (H : Hp) (E : XK) (J : Hp) (T : Exc → Prop), Room k (A.deeper (envOfC qual (defScope st) s.heap.objs.size f cdv)) →
      PDs (cxD P w K mg base N qual (defScope st) f cdv A outer s H E) ⟨K, H, J, T⟩ (defBody st) gB)
    (hF : ∀ as r, as.length = ps.length → Fm as = .ok r → fin (gB (startE N as)) = .ok r) : Cal P w K mg base (k + 1) ps.length x Fm :=
  ⟨f, fd, ps, fn_okD F Sc hb hF, hm, F.kp, F.binds hbi⟩
noncomputable def nodB : List Str → Bool
  | [] => true
  | x :: r => !(r.contains x) && nodB r
theorem nodS : ∀ {l : List Str}, nodB l = true → l.Nodup
  | [], _ => List.nodup_nil
  | x :: r, h => by
    unfold nodB at h
    rw [Bool.and_eq_true] at h
    refine List.nodup_cons.mpr ⟨fun z => ?_, nodS h.2⟩
    have := h.1
    simp [z] at this
/-- (a, b) = e -/
theorem pd1_tup {t : GT} (h : PD X c e g) (ht : PTg X c tg t) (hs : swapsWithSole [tg] e pos.line X.env = pure false := by rfl) (hw : swappedStores [tg] e X.env = pure none := by rfl)
    (h1 : (assignEach [tg] X.env).map (·.2) = [assign tg X.env] := by rfl) : PD1 X c (.Assign [tg] e pos) (gAsg t g) := pd1_asg h ht (ps_asg h ht hs hw h1)
end
end DL
set_option Elab.async false
set_option linter.all false
set_option maxRecDepth 100000
set_option maxHeartbeats 4000000
namespace DL
open PySem PySem.Spec PyProof.Rows L2
section
variable {X : Cx} {c : C} {e a b tg : Expr} {es : List Expr} {ga gb g : G R} {pos : Pos}
/-! ### isinstance(x, T), T a built-in class -/
theorem exn_inst {X : Cx} {pins : List (Addr × Obj)} {σ : L2.St} {H : Hp} {s : Shared} {a C : Addr} {dx : Option Addr} {ns : List Str} {vs : List V} (I : L2.Inv X pins σ H s) (h : H a = some (DX.XO a C dx)) (xf : XF H dx ns vs) : ∃ ox od, PySem.W.InstAt s.heap a ox C od ∧ od.isSome = dx.isSome ∧ (∀ d, dx = some d → ∃ o, od = some o ∧ s.heap.get? d = some o) := by
  obtain ⟨⟨oe, fs, h1, h2, h3, h4⟩, _⟩ := I.hok a _ h
  have hn : PySem.W.notCls oe = true := by unfold PySem.W.notCls; rw [h4]
  rcases xf with ⟨rfl, _⟩ | ⟨d, rfl, _, hd⟩
  · exact ⟨oe, none, ⟨h1, h2, hn, by rw [h3]; exact True.intro⟩, rfl, fun d z => by cases z⟩
  · obtain ⟨m, ⟨o, es, ep, k1, _⟩, _⟩ := I.hok d _ hd
    exact ⟨oe, some o, ⟨h1, h2, hn, by rw [h3]; exact k1⟩, rfl, fun d' z => by cases z; exact ⟨o, rfl, k1⟩⟩
noncomputable def Kit (T : String) : Prop := (∀ (K : PySem.W.Frag) (t : String), t ∈ ["NoneType", "bool", "int", "str", "tuple", "list", "dict"] → PySem.W.kitOne K (.type t) (.type T) = some (subT t T)) ∧ PySem.W.kitMeta T = true ∧ DX.vbm.contains (.type T) = false ∧ subT "exc" T = false
theorem kit_int : Kit "int" := ⟨fun K t h => by
  simp only [List.mem_cons, List.not_mem_nil, or_false] at h
  rcases h with rfl | rfl | rfl | rfl | rfl | rfl | rfl <;> rfl, by decide +kernel, by decide, by decide⟩
theorem kit_bool : Kit "bool" := ⟨fun K t h => by
  simp only [List.mem_cons, List.not_mem_nil, or_false] at h
  rcases h with rfl | rfl | rfl | rfl | rfl | rfl | rfl <;> rfl, by decide +kernel, by decide, by decide⟩
theorem kit_tuple : Kit "tuple" := ⟨fun K t h => by
  simp only [List.mem_cons, List.not_mem_nil, or_false] at h
  rcases h with rfl | rfl | rfl | rfl | rfl | rfl | rfl <;> rfl, by decide +kernel, by decide, by decide⟩
theorem call_isinst {T : String} (kit : Kit T) :
    CallR X (.builtin "isinstance") (fun xs H Q => ∃ d x, xs = [x, .ty T] ∧ Rep X.K H d x ∧ Q (.bl (subT (tyD d) T)) H) := by
  intro pins s σ H xs us Q I r h
  obtain ⟨d, x, rfl, hd, q⟩ := h
  obtain ⟨u, w', rfl, rx, ry⟩ := vals2 r
  cases ry
  have fin : ∀ tk, EP X pins σ Q (.bool (subT (tyD d) T)) { s with toks := tk } := fun tk => ⟨.bl _, H, I.tok tk, rfl, q⟩
  have F := hf_self I
  cases hd with
  | non => cases rx; exact PySem.W.kia_one PySem.W.kitx_none I.kIn True.intro (kit.1 X.K _ (by simp [tyD])) (fun z => nomatch z) fin
  | bl y => cases rx; exact PySem.W.kia_one PySem.W.kitx_bool I.kIn True.intro (kit.1 X.K _ (by simp [tyD])) (fun z => nomatch z) fin
  | int i => obtain ⟨t, rfl⟩ := rx; exact PySem.W.kia_one PySem.W.kitx_int I.kIn True.intro (kit.1 X.K _ (by simp [tyD])) (fun z => nomatch z) fin
  | str y => obtain ⟨t, rfl⟩ := rx; exact PySem.W.kia_one PySem.W.kitx_str I.kIn True.intro (kit.1 X.K _ (by simp [tyD])) (fun z => nomatch z) fin
  | tup h hs =>
    cases rx
    obtain ⟨its, r, o, h1, h2, _⟩ := F.t _ _ h
    exact PySem.W.kia_one PySem.W.kitx_tuple I.kIn ⟨o, h1, h2⟩ (kit.1 X.K _ (by simp [tyD])) (fun z => nomatch z) fin
  | lst h hs =>
    cases rx
    obtain ⟨its, r, o, h1, h2, _⟩ := F.l _ _ h
    exact PySem.W.kia_one PySem.W.kitx_list I.kIn ⟨o, h1, h2⟩ (kit.1 X.K _ (by simp [tyD])) (fun z => nomatch z) fin
  | emp h =>
    cases rx
    obtain ⟨o, h1, h2⟩ := F.e _ h
    exact PySem.W.kia_one PySem.W.kitx_dict I.kIn ⟨o, h1, h2⟩ (kit.1 X.K _ (by simp [tyD])) (fun z => nomatch z) fin
  | exn h1 h2 h3 hs hx =>
    cases rx
    obtain ⟨P, G, E⟩ := hx
    obtain ⟨ox, od, J, _⟩ := exn_inst I h1 h3
    simp only [tyD, kit.2.2.2] at fin
    exact PySem.W.kia_one (DX.kitx_exn G E) I.kIn ⟨ox, od, J⟩ (DX.kit_ex E kit.2.1 kit.2.2.1) (fun z => nomatch z) fin
noncomputable def gIs (T : String) (g : G R) : G R := fun env => g env >>= fun r => .ok (.d (.bl (subT (tyD r.dat) T)))
theorem pd_isinst {T : String} {Ts : Str} {p p2 : Pos} (kit : Kit T) (hT : bootBuiltins Ts = some (.type T)) (mT : X.mg Ts = none)
    (h : PD X c a g) (hm : X.mg "isinstance" = none) (hK : X.K = c.K := by rfl) (hg : Gl X "isinstance" := by rfl) (hgT : Gl X Ts := by rfl) (hn : Ts ≠ "__name__" := by decide) (hdT : (Ts == ("__debug__" : Str)) = false := by decide)
    (he : starEach [a, .Name Ts p2] X.env = (false, eval a X.env) :: starEach [.Name Ts p2] X.env := by rfl) (he2 : starEach [.Name Ts p2] X.env = (false, eval (.Name Ts p2) X.env) :: starEach [] X.env := by rfl)
    (hpl : (backTo pos (starEach [.Name Ts p2] X.env)).any (·.1) = false := by rfl) : PD X c (.Call (.Name "isinstance" p) [a, .Name Ts p2] [] pos) (gIs T g) :=
  peImp (pe_callB (call_isinst kit) hg hm (by decide +kernel) (pa_cons h (pa_cons (pe_bltn hgT mT hT (v := .ty T) rfl hn hdT) pa_nil he2) he) (by decide) (by decide) he hpl) fun σ H Q ⟨J, env, sr, w⟩ => by
    refine ⟨J, env, sr, wpM_mono (wpM_bind w) fun r wr v J1 H1 e1 r1 => ?_⟩
    exact ⟨r.dat, v, rfl, by rw [hK]; exact r1.dat (sr.hp.ext e1), wr _ J1 H1 e1 (.bl _)⟩
/-! ### all([..]) of truths -/
noncomputable def blsOf : List D → Option (List Bool)
  | [] => some []
  | .bl k :: r => (blsOf r).map (k :: ·)
  | _ :: _ => none
noncomputable def fAll : List R → M R
  | [r] => asL r >>= fun xs => match blsOf xs with
    | some ks => .ok (.d (.bl (ks.all id)))
    | none => .bad
  | _ => .bad
/-! ### x in a text -/
noncomputable def fInS (neg : Bool) : R → R → M R
  | .d (.str i), .d (.str j) => .ok (.d (.bl (if neg then !(!(Builtin.Str.occurrences j i 0 j.length 1).isEmpty) else !(Builtin.Str.occurrences j i 0 j.length 1).isEmpty)))
  | _, _ => .bad
/-! ### a <= b < c of ints -/
/-! ### x is True -/
/-! ### max(a, b), min(a, b) -/
end
end DL
set_option Elab.async false
set_option linter.all false
set_option maxRecDepth 100000
set_option maxHeartbeats 4000000
namespace DL
open PySem PySem.Spec PyProof.Rows L2
section
variable {X : Cx} {c : C} {e a b tg : Expr} {es : List Expr} {ga gb g : G R} {pos : Pos}
/-! ### what stands at the text's top -/
theorem pd_glob {d : D} {v : V} {x : Str} {u : Value} (hm : X.mg x = some u) (r : RelV v u) (hr : ∀ J, Rep c.K J d v) (hg : Gl X x := by rfl) (hd : (x == ("__debug__" : Str)) = false := by decide) : PD X c (.Name x pos) (gC d) := pd_tC hr (pe_glob hg hm r hd)
/-! ### {} -/
/-! ### t + u -/
theorem op_catAll : OpR X (binaryOp .Add) (fun x y H Q => ∃ a b xs ys, x = .ref a ∧ y = .ref b ∧ SqT X.K H a xs ∧ SqT X.K H b ys ∧ xs.length + ys.length ≤ sizeLine ∧
    (xs = [] → Q (.ref b) H) ∧ (ys = [] → Q (.ref a) H) ∧ ∀ p, H p = none → Q (.ref p) (upd H p (.tup (xs ++ ys)))) := by
  intro pins s σ H x y v u Q I rx ry h
  obtain ⟨a, b, xs, ys, rfl, rfl, ha, hb, hz, q0, q1, q2⟩ := h
  by_cases hx : xs = []
  · cases rx
    cases ry
    obtain ⟨its, r1, p1, _⟩ := I.tuple ha
    obtain ⟨its2, r2, p2, _⟩ := I.tuple hb
    have he : its = [] := r1.nil_iff.mpr hx
    subst he
    obtain ⟨⟨cls, dd, data, sl⟩, ho, hc, n, hd⟩ := id p1
    obtain ⟨⟨cls2, dd2, data2, sl2⟩, ho2, hc2, n2, hd2⟩ := id p2
    simp only at hc hd hc2 hd2
    subst hc hd hc2 hd2
    exact concat_meets ⟨_, ho, rfl⟩ ⟨_, ho2, rfl⟩ noFill_tuple_add seq_tuple_add PySem.F.slot_tuple_add PySem.F.entry_tuple_add (PySem.F.args_tuple_add_2 _ _) (tuple_addW0 a b _ _ n n2 dd dd2 sl sl2 rfl) ⟨ho, ho2, ⟨.ref b, H, I, rfl, q0 hx⟩⟩
  · exact op_catT pins s σ H (.ref a) (.ref b) v u Q I rx ry ⟨a, b, xs, ys, rfl, rfl, ha, hb, hx, hz, q1, fun _ => q2⟩
noncomputable def fCatT : R → R → M R
  | .d (.tup xs), .d (.tup ys) => if xs.length + ys.length ≤ sizeLine then .ok (.d (.tup (xs ++ ys))) else .bad
  | _, _ => .bad
theorem bd_catT (hK : X.K = c.K) : BD c (fun x y H Q => ∃ a b xs ys, x = .ref a ∧ y = .ref b ∧ SqT X.K H a xs ∧ SqT X.K H b ys ∧ xs.length + ys.length ≤ sizeLine ∧
    (xs = [] → Q (.ref b) H) ∧ (ys = [] → Q (.ref a) H) ∧ ∀ p, H p = none → Q (.ref p) (upd H p (.tup (xs ++ ys)))) fCatT := by
  intro He He' J H x y u v Q hp rx ry w
  unfold fCatT at w
  split at w
  · rename_i ds es
    cases rx with
    | tup h1 s1 =>
      cases ry with
      | tup h2 s2 =>
        split at w
        · rename_i hz
          rw [s1.length, s2.length] at hz
          refine ⟨_, _, _, _, rfl, rfl, by rw [hK]; exact sameT hp.sub h1, by rw [hK]; exact sameT hp.sub h2, hz, fun e => ?_, fun e => ?_, fun p hp' => w _ _ _ (Ext.newJ hp.sub hp' _) (rr_tup hp hp' (s1.append s2))⟩
          · have e' : ds = [] := List.eq_nil_of_length_eq_zero (by rw [s1.length, e]; rfl)
            subst e'
            exact w _ J H (Ext.refl hp.sub) (.tup h2 s2)
          · have e' : es = [] := List.eq_nil_of_length_eq_zero (by rw [s2.length, e]; rfl)
            subst e'
            rw [List.append_nil] at w
            exact w _ J H (Ext.refl hp.sub) (.tup h1 s1)
        · exact w.elim
  · exact w.elim
/-- + of ints, texts, tuples, lists -/
noncomputable def isT : R → Bool
  | .d (.tup _) => true
  | _ => false
noncomputable def fAdd4 (x y : R) : M R := if isT x then fCatT x y else fPlus x y
theorem pd_add4 (ha : PD X c a ga) (hb : PD X c b gb) (hK : X.K = c.K := by rfl) : PD X c (.BinOp a .Add b pos) (g2 fAdd4 ga gb) := by
  have h1 : BD c (rI0 fun i j => .int (i + j)) fAdd := bd_I0 fun _ _ _ => .int _
  exact pd_op (pos := pos) (op_catAll.or (op_add.or (op_add_str.or op_cat))) (BD.or (c := c) (fun x _ => isT x) (bd_catT hK) (BD.or (c := c) (fun x _ => isI x) h1 (BD.or (c := c) (fun x _ => isS x) (f := fAddS) (f' := fCatL) (by
    intro He He' J H x y u v Q hp rx ry w
    unfold fAddS at w
    split at w
    · cases rx; cases ry
      split at w
      · rename_i h; exact ⟨_, _, rfl, rfl, h, w _ J H (Ext.refl hp.sub) (.str _)⟩
      · exact w.elim
    · exact w.elim) (by
    intro He He' J H x y u v Q hp rx ry w
    unfold fCatL at w
    split at w
    · rename_i hm
      rw [Bool.and_eq_true] at hm
      obtain ⟨p, vs, xs, e1, rfl, h1, s1⟩ := rx.made hm.1
      obtain ⟨p2, vs2, ys, e2, rfl, h2, s2⟩ := ry.made hm.2
      rw [e1, e2] at w
      simp only [bind_ok] at w
      split at w
      · rename_i hz
        rw [s1.length, s2.length] at hz
        exact ⟨p, p2, vs, vs2, rfl, rfl, h1, h2, hz, fun q hq => w _ J _ (Ext.new hp.sub hq _) (rr_new hp hq (s1.append s2))⟩
      · exact w.elim
    · exact w.elim)))) ha hb
/-! ### < of ints, texts, tuples of ints -/
noncomputable def intsOf : List D → Option (List Int)
  | [] => some []
  | .int i :: r => (intsOf r).map (i :: ·)
  | _ :: _ => none
noncomputable def fLt3 : R → R → M R
  | .d (.int i), .d (.int j) => .ok (.d (.bl (decide (i < j))))
  | .d (.str i), .d (.str j) => .ok (.d (.bl (decide (i.cps.toList < j.cps.toList))))
  | .d (.tup xs), .d (.tup ys) => match intsOf xs, intsOf ys with
    | some ns, some ms => .ok (.d (.bl (HT.lexLt ns ms)))
    | _, _ => .bad
  | _, _ => .bad
end
end DL
set_option Elab.async false
set_option linter.all false
set_option maxRecDepth 100000
set_option maxHeartbeats 4000000
namespace DL
open PySem PySem.Spec PyProof.Rows L2
/-! ### a text, sign by sign -/
section
variable {X : Cx} {c : C} {e a b tg : Expr} {es : List Expr} {ga gb g : G R} {pos : Pos}
/-- the signs of a text -/
noncomputable def signs (x : Str) : List D := x.cps.toList.map fun k => .str ⟨#[k]⟩
noncomputable def gItS (g : G R) : G (List D) := fun env => g env >>= fun r => match r with
  | .d (.str x) => .ok (signs x)
  | _ => .bad
/-! ### t[lo:hi], t[::-1] of tuples -/
theorem Reps.rev {K : PySem.W.Frag} {J : Hp} : ∀ {ds : List D} {vs : List V}, Reps K J ds vs → Reps K J ds.reverse vs.reverse
  | _, _, .nil => .nil
  | _, _, .cons h hs => by
    rw [List.reverse_cons, List.reverse_cons]
    exact (Reps.rev hs).append (.cons h .nil)
end
end DL
set_option Elab.async false
set_option linter.all false
set_option maxRecDepth 100000
set_option maxHeartbeats 4000000
namespace DL
open PySem PySem.Spec PyProof.Rows L2
/-! ### zip(xs, ys), each a list or a tuple -/
section
variable {prog : Program} {w : World} {A : Around} {E : Value → Shared → Prop} {s : Shared}
end
noncomputable def IsQ (k : String) (h : Heap) (l : Addr) (vals : Array Value) : Prop := (k = "list_iterator" ∧ h.IsList l vals) ∨ (k = "tuple_iterator" ∧ h.IsTuple l vals)
theorem IsQ.push {k : String} {h : Heap} {l : Addr} {vals : Array Value} (x : IsQ k h l vals) (o : Obj) : IsQ k (h.push o) l vals := x.elim (fun x => .inl ⟨x.1, Heap.IsList.push x.2 _⟩) fun x => .inr ⟨x.1, Heap.IsTuple.push x.2 _⟩
end DL
set_option Elab.async false
set_option linter.all false
set_option maxRecDepth 100000
set_option maxHeartbeats 4000000
namespace DL
open PySem PySem.Spec PyProof.Rows L2
noncomputable def IQ (k : String) (it l : Addr) (m : Nat) (h : Heap) : Prop := (k = "list_iterator" ∧ h.IsListIter it l m) ∨ (k = "tuple_iterator" ∧ h.IsTupleIter it l m)
/-- a list or a tuple, by what walks it -/
noncomputable def SqK (k : String) (K : PySem.W.Frag) (H : Hp) (l : Addr) (xs : List V) : Prop := (k = "list_iterator" ∧ SqL K H l xs) ∨ (k = "tuple_iterator" ∧ SqT K H l xs)
section
variable {X : Cx} {pins : List (Addr × Obj)} {σ : L2.St} {H : Hp} {s : Shared}
theorem SqK.get {k : String} {l : Addr} {xs : List V} (I : Inv X pins σ H s) (h : SqK k X.K H l xs) : ∃ its : List Value, Vals xs its ∧ IsQ k s.heap l its.toArray := by
  rcases h with ⟨e, h⟩ | ⟨e, h⟩
  · obtain ⟨its, r, p, _⟩ := I.list h
    exact ⟨its, r, .inl ⟨e, p.isList⟩⟩
  · obtain ⟨its, r, p, _⟩ := I.tuple h
    exact ⟨its, r, .inr ⟨e, p⟩⟩
theorem SqK.inj {k : String} {l : Addr} {xs ys : List V} (I : Inv X pins σ H s) (h : SqK k X.K H l xs) (h' : SqK k X.K H l ys) : xs = ys := by
  rcases h with ⟨e, h⟩ | ⟨e, h⟩ <;> rcases h' with ⟨e', h'⟩ | ⟨e', h'⟩
  · exact I.list_inj h h'
  · rw [e] at e'; exact absurd e' (by decide)
  · rw [e] at e'; exact absurd e' (by decide)
  · exact I.tuple_inj h h'
theorem SqK.ne {k : String} {l b : Addr} {xs : List V} (I : Inv X pins σ H s) (h : SqK k X.K H l xs) (f : FpOk X pins H b) : l ≠ b := by
  have t : (∃ o, H l = some o) ∨ ∃ o, X.K.lookup l = some o := by
    rcases h with ⟨_, h⟩ | ⟨_, h⟩ <;> rcases h with (h | ⟨o, h⟩) | ⟨o, _, _, h, _⟩
    · exact .inl ⟨_, h⟩
    · exact .inl ⟨_, h⟩
    · exact .inr ⟨o, h⟩
    · exact .inl ⟨_, h⟩
    · exact .inl ⟨_, h⟩
    · exact .inr ⟨o, h⟩
  rintro rfl
  rcases t with ⟨o, t⟩ | ⟨o, t⟩
  · rw [f.1] at t; cases t
  · have hb : X.base.get? l = some o := I.ok.mod.kin l o t
    rcases f.2.2.2.1 with z | z
    · exact I.ok.noex l o hb z
    · exact absurd (Nat.lt_of_lt_of_le (Heap.lt_size (I.ok.bs l o hb).1) z) (Nat.lt_irrefl _)
end
theorem IQ.keep {k : String} {it l : Addr} {m : Nat} {h h' : Heap} (x : IQ k it l m h) (kp : ∀ o, h.get? it = some o → h'.get? it = some o) : IQ k it l m h' := by
  rcases x with ⟨e, o, h1, r⟩ | ⟨e, o, h1, r⟩
  · exact .inl ⟨e, o, kp o h1, r⟩
  · exact .inr ⟨e, o, kp o h1, r⟩
theorem IQ.obj {k : String} {it l : Addr} {m : Nat} {h : Heap} (x : IQ k it l m h) : ∃ o, h.get? it = some o ∧ ∀ v, o.data ≠ .cell v := by
  rcases x with ⟨e, o, h1, _, d⟩ | ⟨e, o, h1, _, d⟩ <;> exact ⟨o, h1, fun v z => by rw [d] at z; cases z⟩
end DL
set_option Elab.async false
set_option linter.all false
set_option maxRecDepth 100000
set_option maxHeartbeats 4000000
namespace DL
open PySem PySem.Spec PyProof.Rows L2
section
variable {X : Cx} {c : C} {e a b : Expr} {es : List Expr} {ga gb g : G R} {pos : Pos} {elts : List Expr} {kk : Nat} {tp : Pos}
theorem SqK.same {k : String} {K : PySem.W.Frag} {H H' : Hp} {l : Addr} {xs : List V} (e : Same H H') (h : SqK k K H l xs) : SqK k K H' l xs := h.elim (fun h => .inl ⟨h.1, e.seq h.2⟩) fun h => .inr ⟨h.1, sameT e h.2⟩
end
end DL
set_option Elab.async false
set_option linter.all false
set_option maxRecDepth 100000
set_option maxHeartbeats 4000000
namespace DL
open PySem PySem.Spec PyProof.Rows L2
section
variable {X : Cx} {c : C} {e a b tg : Expr} {es : List Expr} {ga gb g : G R} {pos : Pos}
noncomputable def GlobD (K : PySem.W.Frag) (mg : Str → Option Value) (x : Str) (d : D) : Prop := ∃ u v, mg x = some u ∧ RelV v u ∧ ∀ J, Rep K J d v
theorem pd_globD {d : D} {x : Str} (h : GlobD X.K X.mg x d) (hK : X.K = c.K := by rfl) (hg : Gl X x := by rfl) (hd : (x == ("__debug__" : Str)) = false := by decide) : PD X c (.Name x pos) (gC d) := by
  obtain ⟨u, v, h1, h2, h3⟩ := h
  exact pd_glob h1 h2 (fun J => hK ▸ h3 J) hg hd
theorem boot_int_ : bootBuiltins "int" = some (.type "int") := by decide +kernel
theorem boot_bool_ : bootBuiltins "bool" = some (.type "bool") := by decide +kernel
theorem boot_tuple_ : bootBuiltins "tuple" = some (.type "tuple") := by decide +kernel
end
end DL
set_option Elab.async false
set_option linter.all false
set_option maxRecDepth 100000
set_option maxHeartbeats 4000000
namespace DL
open PySem PySem.Spec PyProof.Rows L2
section
variable {X : Cx} {c : C} {e a b tg : Expr} {es : List Expr} {ga gb g : G R} {pos : Pos} {st : Stmt} {t u : G O} {tb : G Bool}
/-! ### a statement that is never reached -/
/-! ### -e -/
noncomputable def gNeg (g : G R) : G R := fun env => g env >>= fun r => match r with
  | .d (.int i) => .ok (.d (.int (-i)))
  | _ => .bad
theorem pd_neg (h : PD X c a g) : PD X c (.UnaryOp .USub a pos) (gNeg g) := peImp (pe_un un_neg h) fun σ H Q ⟨J, env, sr, w⟩ => by
  refine ⟨J, env, sr, wpM_mono (wpM_bind w) fun r wr v J1 H1 e1 r1 => ?_⟩
  split at wr
  · cases r1
    exact ⟨_, rfl, wr _ J1 H1 e1 (.int _)⟩
  · exact wr.elim
/-! ### a value's truth -/
noncomputable def truD : R → M Bool
  | .d .non => .ok false
  | .d (.bl b) => .ok b
  | .d (.int i) => .ok (i != 0)
  | .d (.str y) => if y.length ≤ sizeLine then .ok ((y.length : Int) != 0) else .bad
  | .d (.tup xs) => .ok (!xs.isEmpty)
  | .d (.lst xs) => .ok (!xs.isEmpty)
  | .d .emp => .ok false
  | .d (.exn _ _ _) => .bad
  | .l _ xs => .ok (!xs.isEmpty)
theorem isE {K : PySem.W.Frag} {J : Hp} {ds : List D} {vs : List V} (h : Reps K J ds vs) : ds.isEmpty = vs.isEmpty := by
  cases h <;> rfl
theorem truD_ok {He J H : Hp} (hp : HI c J H) {Q : Bool → Prop} {T : Exc → Prop} : ∀ {r : R} {v : V}, RR c He J H r v → wpM (truD r) Q T → ∃ k, TruV c.K v H k ∧ Q k
  | .d .non, _, h, w => by cases h; exact ⟨_, rfl, w⟩
  | .d (.bl b), _, h, w => by cases h; exact ⟨_, rfl, w⟩
  | .d (.int i), _, h, w => by cases h; exact ⟨_, rfl, w⟩
  | .d (.str y), _, h, w => by
    cases h
    unfold truD at w
    simp only at w
    split at w
    · rename_i hz; exact ⟨_, ⟨hz, rfl⟩, w⟩
    · exact w.elim
  | .d (.tup xs), _, h, w => by
    cases h with
    | tup h1 h2 => exact ⟨_, .inr (.inl ⟨_, sameT hp.sub h1, rfl⟩), by rw [← isE h2]; exact w⟩
  | .d (.lst xs), _, h, w => by
    cases h with
    | lst h1 h2 => exact ⟨_, .inl ⟨_, hp.sub.seq h1, rfl⟩, by rw [← isE h2]; exact w⟩
  | .d .emp, _, h, w => by
    cases h with
    | emp h1 => exact ⟨_, .inr (.inr ⟨_, hp.sub _ _ h1, rfl⟩), w⟩
  | .d (.exn _ _ _), _, _, w => w.elim
  | .l m xs, _, h, w => by
    obtain ⟨a, vs, rfl, h1, h2⟩ := RR.list hp h rfl
    exact ⟨_, .inl ⟨_, h1, rfl⟩, by rw [← isE h2]; exact w⟩
noncomputable def gTru (g : G R) : G Bool := fun env => g env >>= truD
theorem pb_tru (h : PD X c e g) (hK : X.K = c.K := by rfl) (he : ∀ whole, isTrue e X.env whole = (do let v ← whole; standAt e.pos; holding [v] (truthy v)) := by intro _; rfl) : PB X c e (gTru g) := ptImp (pt_truth h he) fun σ H Q ⟨J, env, sr, w⟩ => by
  refine ⟨J, env, sr, wpM_mono (wpM_bind w) fun r wr v J1 H1 e1 r1 => ?_⟩
  rw [hK]
  obtain ⟨k, k1, k2⟩ := truD_ok (sr.hp.ext e1) r1 wr
  exact ⟨k, k1, k2 J1 H1 e1⟩
/-! ### while -/
/-! ### x = y.pop() -/
theorem Reps.dropLast {K : PySem.W.Frag} {J : Hp} {ds : List D} {vs : List V} (h : Reps K J ds vs) : Reps K J ds.dropLast vs.dropLast := by
  rw [List.dropLast_eq_take, List.dropLast_eq_take, h.length]
  exact h.take _
/-! ### z.append(y.pop(e)) -/
end
end DL
set_option Elab.async false
set_option linter.all false
set_option maxRecDepth 100000
set_option maxHeartbeats 4000000
namespace DL
open PySem PySem.Spec PyProof.Rows L2
section
variable {X : Cx} {c : C} {e a b tg : Expr} {es : List Expr} {ga gb g : G R} {pos : Pos} {st : Stmt} {t u : G O} {tb : G Bool}
end
end DL
set_option Elab.async false
set_option linter.all false
set_option maxRecDepth 100000
set_option maxHeartbeats 4000000
namespace DL
open PySem PySem.Spec PyProof.Rows L2
/-! ### y.extend(e), e any tuple or list -/
open PySem.AutoSeq1 in
section
variable {X : Cx} {c : C} {e a b tg : Expr} {es : List Expr} {ga gb g : G R} {pos : Pos}
/-! ### is, is not: beside None, True, False -/
end
end DL
set_option Elab.async false
set_option linter.all false
set_option maxRecDepth 100000
set_option maxHeartbeats 4000000
namespace DL
open PySem PySem.Spec PyProof.Rows L2
section
variable {X : Cx} {c : C} {e a b tg : Expr} {es : List Expr} {ga gb g : G R} {pos : Pos}
/-! ### is, is not: beside None, True, False -/
noncomputable def oneV : V → Option (Option Bool)
  | .non => some none
  | .bl k => some (some k)
  | _ => none
theorem same_one {x y : V} {v u : Value} {o : Option Bool} (rx : RelV x v) (ry : RelV y u) (h : oneV y = some o) : isSame v u = pure (oneV x == some o) := by
  cases y with
  | non =>
    cases h
    cases ry
    cases x with
    | non => cases rx; rfl
    | bl k => cases rx; rfl
    | int i => obtain ⟨t, rfl⟩ := rx; rfl
    | str z => obtain ⟨t, rfl⟩ := rx; rfl
    | byt z => obtain ⟨t, rfl⟩ := rx; rfl
    | flt z => obtain ⟨t, rfl⟩ := rx; rfl
    | ref p => cases rx; rfl
    | ty n => cases rx; rfl
  | bl k' =>
    cases h
    cases ry
    cases x with
    | non => cases rx; rfl
    | bl k => cases rx; cases k <;> cases k' <;> rfl
    | int i => obtain ⟨t, rfl⟩ := rx; rfl
    | str z => obtain ⟨t, rfl⟩ := rx; rfl
    | byt z => obtain ⟨t, rfl⟩ := rx; rfl
    | flt z => obtain ⟨t, rfl⟩ := rx; rfl
    | ref p => cases rx; rfl
    | ty n => cases rx; rfl
  | _ => cases h
theorem op_isC : OpR X (compareOp .Is) (fun x y H Q => ∃ o, oneV y = some o ∧ Q (.bl (oneV x == some o)) H) := by
  intro pins s σ H x y v u Q I rx ry h
  obtain ⟨o, ho, q⟩ := h
  show wpAny _ _ (do return Value.bool (← isSame v u)) _ _ s
  rw [same_one rx ry ho]
  exact wpAny_bind (wpAny_pure (wpAny_pure ⟨.bl _, H, I, rfl, q⟩))
theorem op_isNotC : OpR X (compareOp .IsNot) (fun x y H Q => ∃ o, oneV y = some o ∧ Q (.bl (!(oneV x == some o))) H) := by
  intro pins s σ H x y v u Q I rx ry h
  obtain ⟨o, ho, q⟩ := h
  show wpAny _ _ (do return Value.bool (!(← isSame v u))) _ _ s
  rw [same_one rx ry ho]
  exact wpAny_bind (wpAny_pure (wpAny_pure ⟨.bl _, H, I, rfl, q⟩))
noncomputable def oneR : R → Option (Option Bool)
  | .d .non => some none
  | .d (.bl k) => some (some k)
  | _ => none
noncomputable def fIs (neg : Bool) (x y : R) : M R := match oneR y with
  | some o => .ok (.d (.bl (if neg then !(oneR x == some o) else oneR x == some o)))
  | none => .bad
theorem one_rep {He J H : Hp} : ∀ {r : R} {v : V}, RR c He J H r v → oneV v = oneR r
  | .d .non, _, h => by cases h; rfl
  | .d (.bl _), _, h => by cases h; rfl
  | .d (.int _), _, h => by cases h; rfl
  | .d (.str _), _, h => by cases h; rfl
  | .d (.tup _), _, h => by cases h; rfl
  | .d (.lst _), _, h => by cases h; rfl
  | .d .emp, _, h => by cases h; rfl
  | .d (.exn _ _ _), _, h => by cases h; rfl
  | .l .fresh _, _, h => by obtain ⟨_, _, rfl, _⟩ := h; rfl
  | .l .own _, _, h => by obtain ⟨_, _, rfl, _⟩ := h; rfl
  | .l .bor _, _, h => by obtain ⟨_, _, rfl, _⟩ := h; rfl
theorem pd_is (ha : PD X c a ga) (hb : PD X c b gb) : PD X c (.Compare a [.Is] [b] pos) (g2 (fIs false) ga gb) := pd_cmp op_isC (by
  intro He He' J H x y u v Q hp rx ry w
  unfold fIs at w
  split at w
  · rename_i o ho
    refine ⟨o, by rw [one_rep ry]; exact ho, ?_⟩
    rw [one_rep rx]
    exact w _ J H (Ext.refl hp.sub) (.bl _)
  · exact w.elim) ha hb
theorem pd_isnot (ha : PD X c a ga) (hb : PD X c b gb) : PD X c (.Compare a [.IsNot] [b] pos) (g2 (fIs true) ga gb) := pd_cmp op_isNotC (by
  intro He He' J H x y u v Q hp rx ry w
  unfold fIs at w
  split at w
  · rename_i o ho
    refine ⟨o, by rw [one_rep ry]; exact ho, ?_⟩
    rw [one_rep rx]
    exact w _ J H (Ext.refl hp.sub) (.bl _)
  · exact w.elim) ha hb
theorem pb_is (ha : PD X c a ga) (hb : PD X c b gb) : PB X c (.Compare a [.Is] [b] pos) (gTr (g2 (fIs false) ga gb)) := pb_cmp op_isC (by
  intro He He' J H x y u v Q hp rx ry w
  unfold fIs at w
  split at w
  · rename_i o ho
    refine ⟨o, by rw [one_rep ry]; exact ho, ?_⟩
    rw [one_rep rx]
    exact w _ J H (Ext.refl hp.sub) (.bl _)
  · exact w.elim) ha hb
end
end DL
set_option Elab.async false
set_option linter.all false
set_option maxRecDepth 100000
set_option maxHeartbeats 4000000
namespace DL
open PySem PySem.Spec PyProof.Rows L2
/-! ### dicts of the text's top that never change: keys are texts -/
inductive CPairs (K : PySem.W.Frag) : List (Str × D) → List (Str × Value) → Prop
  | nil : CPairs K [] []
  | cons {k : Str} {d : D} {v : V} {u : Value} {r : List (Str × D)} {rs : List (Str × Value)} : RelV v u → (∀ J, Rep K J d v) → CPairs K r rs → CPairs K ((k, d) :: r) ((k, u) :: rs)
noncomputable def lookD (kvs : List (Str × D)) (k : Str) : Option D := (kvs.find? fun p => p.1 = k).map (·.2)
theorem CPairs.get {K : PySem.W.Frag} {kvs : List (Str × D)} {us : List (Str × Value)} (h : CPairs K kvs us) (k : Str) : (∀ d, lookD kvs k = some d → ∃ u v, valueAt us k = some u ∧ RelV v u ∧ ∀ J, Rep K J d v) ∧ (valueAt us k).isSome = (lookD kvs k).isSome := by
  induction h with
  | nil => exact ⟨(fun d z => nomatch z), rfl⟩
  | @cons k' d' v u r rs h1 h2 h3 ih =>
    by_cases e : k' = k
    · have e1 : lookD ((k', d') :: r) k = some d' := by simp [lookD, List.find?_cons, e]
      have e2 : valueAt ((k', u) :: rs) k = some u := by simp [valueAt, List.find?_cons, e]
      rw [e1, e2]
      exact ⟨fun d z => by cases z; exact ⟨u, v, rfl, h1, h2⟩, rfl⟩
    · have e1 : lookD ((k', d') :: r) k = lookD r k := by simp [lookD, List.find?_cons, e]
      have e2 : valueAt ((k', u) :: rs) k = valueAt rs k := by simp [valueAt, List.find?_cons, e]
      rw [e1, e2]
      exact ih
section
variable {X : Cx} {c : C} {e a b tg i : Expr} {es : List Expr} {ga gb g : G R} {pos : Pos}
end
end DL
set_option Elab.async false
set_option linter.all false
set_option maxRecDepth 100000
set_option maxHeartbeats 4000000
namespace DL
open PySem PySem.Spec PyProof.Rows L2
/-! ### a dict of the text's top as the row has it -/
end DL
set_option Elab.async false
set_option linter.all false
set_option maxRecDepth 100000
set_option maxHeartbeats 4000000
namespace DL
open PySem PySem.Spec PyProof.Rows L2
/-! ### max(xs, default=d) of a list of ints -/
section
variable {prog : Program} {w : World} {A : Around} {R : Result → Shared → Prop} {I : Addr} {fp wr : List Addr} {St : Nat → Heap → Prop} {us : Array Value} {ns : List Int} {S : Addr} {dv : Value}
end
end DL
set_option Elab.async false
set_option linter.all false
set_option maxRecDepth 100000
set_option maxHeartbeats 4000000
namespace DL
open PySem PySem.Spec PyProof.Rows L2
section
variable {prog : Program} {w : World} {A : Around} {E : Value → Shared → Prop} {s : Shared} {l : Addr} {us : Array Value} {ns : List Int}
end
section
variable {X : Cx} {c : C} {e a b tg i : Expr} {es : List Expr} {ga gb g : G R} {pos : Pos}
end
end DL
set_option Elab.async false
set_option linter.all false
set_option maxRecDepth 100000
set_option maxHeartbeats 4000000
namespace DL
open PySem PySem.Spec PyProof.Rows L2
/-! ### range(a, b, step), the step above 0 -/
section
variable {X : Cx} {c : C} {e a b d tg : Expr} {es : List Expr} {ga gb g : G R} {pos : Pos}
end
end DL
set_option Elab.async false
set_option linter.all false
set_option maxRecDepth 100000
set_option maxHeartbeats 4000000
namespace DL
open PySem PySem.Spec PyProof.Rows L2
/-- a def that calls itself, without any turn left -/
theorem cal_bad {P : Program} {w : World} {K : PySem.W.Frag} {mg : Str → Option Value} {base : Heap} {x qual : Str} {st : Stmt} {f : Addr} {fd : FuncData} {ps : List Str} {k : Nat} {Fm : List S → M R} (F : Fun K x qual st f fd) (hm : mg x = some (.ref f))
    (hbi : ∀ (kV doc pm : Value) (an : Option Addr) (cdv ct : Value) (us : List Value), us.length = ps.length → bindArgs (PySem.W.fnOf x qual (defArgs st) (defBody st) (defScope st) .none kV doc pm an cdv ct) ⟨us, []⟩ = pure (ps.zip us))
    (hF : ∀ as, Fm as = .bad) : Cal P w K mg base k ps.length x Fm :=
  ⟨f, fd, ps, ⟨fun vs H Q E ⟨J, as, _, _, _, h⟩ => (by rw [hF as] at h; exact h.elim), fun A outer s H args us vs Q E _ _ _ _ ⟨J, as, _, _, _, h⟩ => (by rw [hF as] at h; exact h.elim)⟩, hm, F.kp, F.binds hbi⟩
end DL
set_option Elab.async false
set_option linter.all false
set_option maxRecDepth 100000
set_option maxHeartbeats 4000000
namespace DL
open PySem PySem.Spec PyProof.Rows L2
section
variable {X : Cx} {c : C} {e a b d tg : Expr} {es : List Expr} {ga gb g : G R} {pos : Pos}
/-! ### what is walked: any tuple or list -/
noncomputable def iAny (K : PySem.W.Frag) (tl : TE) : TI := fun σ H R => tl σ H fun x H1 => ∃ a, x = .ref a ∧ (((∃ xs, SqL K H1 a xs) ∧ R (Itl K a) H1) ∨ ((∃ xs, SqT K H1 a xs) ∧ R (Itt K a) H1))
theorem pi_any {tl : TE} (hl : PE X e tl) : PI X tg e (iAny X.K tl) := fun pins s σ H R I h => thn (hl pins s σ H _ I h) fun v s1 ⟨x, H1, I1, r1, a, ex, q1⟩ => by
  subst ex
  cases r1
  have fp : ∀ b ∈ [s1.heap.objs.size], FpOk X pins H1 b := fun b hb => by
    rw [List.mem_singleton] at hb
    subst hb
    exact I1.fpOk (Nat.le_refl _) (I1.hok.fresh (Nat.le_refl _))
  rcases q1 with ⟨⟨xs, hq⟩, q⟩ | ⟨⟨xs, hq⟩, q⟩
  · obtain ⟨its, rv, p, hz⟩ := I1.list hq
    exact wpAny_pyIter_list p.isList ⟨s1.heap.objs.size, [s1.heap.objs.size], _, _, H1, rfl, I1.kept (t' := s1.toks) (fun b o e => Heap.get?_push_of_some _ e), turn_list a _, ⟨_, Heap.get?_push_size _ rfl, rfl, rfl⟩, fp, q⟩
  · obtain ⟨its, rv, p, hz⟩ := I1.tuple hq
    exact wpAny_pyIter_tuple (show s1.heap.IsTuple a its.toArray from p) ⟨s1.heap.objs.size, [s1.heap.objs.size], _, _, H1, rfl, I1.kept (t' := s1.toks) (fun b o e => Heap.get?_push_of_some _ e), turn_tuple a _, ⟨_, Heap.get?_push_size _ rfl, rfl, rfl⟩, fp, q⟩
theorem walk_tupQ {J1 : Hp} {a : Addr} {vs : List V} {ds : List D} {U : Hp → Hp → Prop} (hU : ∀ J H, U J H → Same J1 J) (h : SqT c.K J1 a vs) (hs : Reps c.K J1 ds vs) : Walk c (Itt c.K a) ds J1 U := by
  intro i J H hp u
  have h' := sameT hp.sub (sameT (hU J H u) h)
  refine ⟨fun hl => ⟨vs, h', by rw [← hs.length]; exact hl⟩, fun d hd => ?_⟩
  obtain ⟨v, k1, k2⟩ := hs.get hd
  refine ⟨⟨vs, v, h', k1⟩, fun x H2 ⟨e, hy⟩ => ?_⟩
  subst e
  have := hy vs h'
  rw [k1] at this
  cases this
  exact ⟨J, Ext.refl hp.sub, k2.mono (hU J _ u)⟩
/-- in a for -/
noncomputable def gItF (g : G R) : G (List D) := fun env => g env >>= fun r => match r with
  | .d (.tup xs) => .ok xs
  | .d (.lst xs) => .ok xs
  | .l .fresh xs => .ok xs
  | .l .bor xs => .ok xs
  | _ => .bad
theorem pit_any (h : PD X c e g) (hK : X.K = c.K := by rfl) : PIt X c tg e (gItF g) := piImp (pi_any h) fun σ H Q ⟨J, env, sr, w⟩ => by
  refine ⟨J, env, sr, wpM_mono (wpM_bind w) fun r wr v J1 H1 e1 r1 => ?_⟩
  rw [hK]
  split at wr
  · cases r1 with
    | tup h1 h2 => exact ⟨_, rfl, .inr ⟨⟨_, sameT e1.sub h1⟩, wr _ J1 H1 e1 (walk_tupQ (fun J H u => u) h1 h2)⟩⟩
  · cases r1 with
    | lst h1 h2 => exact ⟨_, rfl, .inl ⟨⟨_, e1.sub.seq h1⟩, wr _ J1 H1 e1 (walk_list (.inl h1) h2)⟩⟩
  · obtain ⟨J2, e2, s2, rd⟩ := freeze e1 r1 rfl
    cases rd with
    | lst h1 h2 => exact ⟨_, rfl, .inl ⟨⟨_, e2.sub.seq h1⟩, wr _ J2 H1 e2 (walk_list (.inl h1) h2)⟩⟩
  · obtain ⟨a, vs, rfl, h1, h2⟩ := r1
    exact ⟨_, rfl, .inl ⟨⟨_, (sr.hp.ext e1).ent.seq h1⟩, wr _ J1 H1 e1 (walk_list (.inr h1) h2)⟩⟩
  · exact wr.elim
/-- in a comprehension -/
noncomputable def gItQ (g : G R) : G (List D) := fun env => g env >>= asQ
theorem pic_any (h : PD X c e g) (hK : X.K = c.K := by rfl) : PIc X c tg e (gItQ g) := piImp (pi_any h) fun σ H Q ⟨J, env, sr, w⟩ => by
  refine ⟨J, env, sr, wpM_mono (wpM_bind w) fun r wr v J1 H1 e1 r1 => ?_⟩
  rw [hK]
  have lst : ∀ {xs : List D}, asL r = .ok xs → (∀ It J1' H1', Ext J H J1' H1' → Walk c It xs J1' (fun J' H' => Same J1' J' ∧ Same H1' H') → Q It H1') → ∃ a, v = .ref a ∧ (((∃ xs, SqL c.K H1 a xs) ∧ Q (Itl c.K a) H1) ∨ ((∃ xs, SqT c.K H1 a xs) ∧ Q (Itt c.K a) H1)) := fun {xs} q wr => by
    obtain ⟨a, vs, rfl, h1, h2⟩ := RR.list (sr.hp.ext e1) r1 q
    refine ⟨a, rfl, .inl ⟨⟨_, h1⟩, wr _ J1 H1 e1 fun i J' H' hp u => ?_⟩⟩
    have h' := u.2.seq h1
    refine ⟨fun hl => ⟨vs, h', by rw [← h2.length]; exact hl⟩, fun d hd => ?_⟩
    obtain ⟨v, k1, k2⟩ := h2.get hd
    refine ⟨⟨vs, v, h', k1⟩, fun x H2 ⟨e, hy⟩ => ?_⟩
    subst e
    have := hy vs h'
    rw [k1] at this
    cases this
    exact ⟨J', Ext.refl hp.sub, k2.mono u.1⟩
  cases r with
  | d y =>
    cases y with
    | tup xs =>
      cases r1 with
      | tup h1 h2 => exact ⟨_, rfl, .inr ⟨⟨_, sameT e1.sub h1⟩, wr _ J1 H1 e1 (walk_tupQ (fun J H u => u.1) h1 h2)⟩⟩
    | lst xs => exact lst rfl wr
    | _ => exact wr.elim
  | l m xs => exact lst rfl wr
end
end DL
set_option Elab.async false
set_option linter.all false
set_option maxRecDepth 100000
set_option maxHeartbeats 4000000
/-! A list of one's own that is only read from now on. -/
namespace DL
open PySem PySem.Spec PyProof.Rows L2
section
variable {X : Cx} {c : C} {st : Stmt} {g : G O}
theorem SR.frz {J H : Hp} {σ : L2.St} {env : Ev} (sr : SR c J H σ env) {i : Nat} {xs : List D} (hi : env[i]? = some (some (.own xs))) : ∃ J', Same J J' ∧ SR c J' H σ (env.set i (some (.d (.lst xs)))) := by
  obtain ⟨v, h1, a, vs, rfl, h2, h3, h4, h5⟩ := sr.at_ i _ hi
  have hil : i < env.length := (List.getElem?_eq_some_iff.mp hi).1
  have s1 : Same J (L2.upd J a (.lst vs)) := same_new h3 _
  refine ⟨L2.upd J a (.lst vs), s1, ⟨⟨fun b o q => ?_, sr.hp.ent, sr.hp.entJ.trans s1, fun b k1 k2 => ?_⟩, by simpa using sr.len, fun j y q => ?_, fun j k ys zs w hjk q1 q2 q3 q4 => ?_⟩⟩
  · by_cases hb : b = a
    · subst hb; rw [upd_same] at q; cases q; exact h2
    · rw [upd_ne hb] at q; exact sr.hp.sub b o q
  · have : b ≠ a := fun z => k1 (z ▸ h4)
    rw [upd_ne this]; exact sr.hp.frz b k1 k2
  · rcases set_at q with ⟨rfl, hl, rfl⟩ | ⟨hj, q⟩
    · exact ⟨.ref a, h1, .lst (.inl (.inl upd_same)) (h5.mono s1)⟩
    · obtain ⟨w, k1, k2⟩ := sr.at_ j y q
      refine ⟨w, k1, ?_⟩
      cases y with
      | d x => exact Rep.mono s1 k2
      | bor zs => obtain ⟨p, us, m1, m2, m3⟩ := k2; exact ⟨p, us, m1, m2, m3.mono s1⟩
      | own zs =>
        obtain ⟨p, us, rfl, m1, m2, m3, m4⟩ := k2
        have hne : p ≠ a := fun z => sr.sep i j xs zs (.ref a) (Ne.symm hj) hi q h1 (z ▸ k1)
        exact ⟨p, us, rfl, m1, by rw [upd_ne hne]; exact m2, m3, m4.mono s1⟩
  · have f : ∀ (k : Nat) (ys : List D), (env.set i (some (.d (.lst xs))))[k]? = some (some (.own ys)) → env[k]? = some (some (.own ys)) := fun k ys q => by
      rcases set_at q with ⟨rfl, _, z⟩ | ⟨_, q⟩
      · cases z
      · exact q
    exact sr.sep j k ys zs w hjk (f j ys q1) (f k zs q2) q3 q4
noncomputable def gFrz (i : Nat) (g : G O) : G O := fun env => match env[i]? with
  | some (some (.own xs)) => g (env.set i (some (.d (.lst xs))))
  | _ => g env
theorem pd1_frz (i : Nat) (h : PD1 X c st g) : PD1 X c st (gFrz i g) := fun pins s σ H D I ⟨J, env, sr, w⟩ => by
  unfold gFrz at w
  split at w
  · rename_i xs hi
    obtain ⟨J', s1, sr'⟩ := sr.frz hi
    exact h pins s σ H D I ⟨J', _, sr', wpM_mono w fun o q => q.mono s1⟩
  · exact h pins s σ H D I ⟨J, env, sr, w⟩
end
end DL
set_option Elab.async false
set_option linter.all false
set_option maxRecDepth 100000
set_option maxHeartbeats 4000000
/-! Sealed copies of the rules. -/
namespace DL
open PySem PySem.Spec PyProof.Rows L2
structure QD (X : Cx) (c : C) (x0 : Expr) (x1 : G R) : Prop where
  h : PD X c x0 x1
structure QB (X : Cx) (c : C) (x0 : Expr) (x1 : G Bool) : Prop where
  h : PB X c x0 x1
structure QAr (X : Cx) (c : C) (x0 : List Expr) (x1 : G (List R)) : Prop where
  h : PAr X c x0 x1
structure QAd (X : Cx) (c : C) (x0 : List Expr) (x1 : G (List D)) : Prop where
  h : PAd X c x0 x1
structure QD1 (X : Cx) (c : C) (x0 : Stmt) (x1 : G O) : Prop where
  h : PD1 X c x0 x1
structure QDs (X : Cx) (c : C) (x0 : List Stmt) (x1 : G O) : Prop where
  h : PDs X c x0 x1
structure QBw (X : Cx) (c : C) (x0 : Expr) (x1 : G Bool) : Prop where
  h : PBw X c x0 x1
structure QTg (X : Cx) (c : C) (x0 : Expr) (x1 : GT) : Prop where
  h : PTg X c x0 x1
structure QTgs (X : Cx) (c : C) (x0 : List Expr) (x1 : GTs) : Prop where
  h : PTgs X c x0 x1
structure QIt (X : Cx) (c : C) (x0 : Expr) (x1 : Expr) (x2 : G (List D)) : Prop where
  h : PIt X c x0 x1 x2
structure QIc (X : Cx) (c : C) (x0 : Expr) (x1 : Expr) (x2 : G (List D)) : Prop where
  h : PIc X c x0 x1 x2
structure QIfs (X : Cx) (c : C) (x0 : List Expr) (x1 : G Bool) : Prop where
  h : PIfs X c x0 x1
section
variable {K : PySem.W.Frag} {J : Hp}
end
section
variable {X : Cx} {c : C} {e a b : Expr} {ga gb : G R} {pos : Pos}
theorem qpd_var (i : Nat) {x : Str} (hN : X.N[i]? = some x := by rfl) (hv : Vis X.env.scope x := by first | exact Or.inl rfl | exact Or.inr (Or.inl rfl) | exact Or.inr (Or.inr rfl)) (hd : (x == ("__debug__" : Str)) = false := by decide)
    (hcd : (x == ("__classdict__" : Str)) = false := by decide) : QD X c (.Name x pos) (gVar i) := ⟨pd_var i hN hv hd hcd⟩
theorem qpd_int {i : Int} {j : Nat} : QD X c (.Constant (.int i) j pos) (gC (.int i)) := ⟨pd_int ⟩
theorem qpd_bl {i : Bool} {j : Nat} : QD X c (.Constant (.bool i) j pos) (gC (.bl i)) := ⟨pd_bl ⟩
theorem qpd_non {j : Nat} : QD X c (.Constant .none j pos) (gC .non) := ⟨pd_non ⟩
theorem qpd_str {x : Str} {j : Nat} : QD X c (.Constant (.str x) j pos) (gC (.str x)) := ⟨pd_str ⟩
theorem qpd_sub (ha : QD X c a ga) (hb : QD X c b gb) : QD X c (.BinOp a .Sub b pos) (g2 fSub ga gb) := ⟨pd_sub ha.h hb.h⟩
theorem qpd_div (ha : QD X c a ga) (hb : QD X c b gb) : QD X c (.BinOp a .FloorDiv b pos) (g2 fDiv ga gb) := ⟨pd_div ha.h hb.h⟩
theorem qpd_mod (ha : QD X c a ga) (hb : QD X c b gb) : QD X c (.BinOp a .Mod b pos) (g2 fMod ga gb) := ⟨pd_mod ha.h hb.h⟩
theorem qpd_pow (ha : QD X c a ga) (hb : QD X c b gb) : QD X c (.BinOp a .Pow b pos) (g2 fPow ga gb) := ⟨pd_pow ha.h hb.h⟩
theorem qpa_nil'  : QAr X c [] gNil := ⟨pa_nil' ⟩
theorem qpa_cons' {es : List Expr} {g : G R} {gs : G (List R)} (h : QD X c e g) (hs : QAr X c es gs) (hst : starEach (e :: es) X.env = (false, eval e X.env) :: starEach es X.env := by rfl) : QAr X c (e :: es) (gCons g gs) := ⟨pa_cons' h.h hs.h hst⟩
end
section
variable {X : Cx} {c : C} {e a b : Expr} {es : List Expr} {ga gb g : G R} {pos : Pos}
theorem qpad_nil  : QAd X c [] gDNil := ⟨pad_nil ⟩
theorem qpad_cons {gs : G (List D)} (h : QD X c e g) (hs : QAd X c es gs) (hst : starEach (e :: es) X.env = (false, eval e X.env) :: starEach es X.env := by rfl) : QAd X c (e :: es) (gDCons g gs) := ⟨pad_cons h.h hs.h hst⟩
theorem qpd_tup {k} {gs : G (List D)} (h : QAd X c es gs) : QD X c (.Tuple es k pos) (gTup gs) := ⟨pd_tup h.h⟩
theorem qpd_lst {gs : G (List D)} (h : QAd X c es gs) : QD X c (.List es pos) (gLst gs) := ⟨pd_lst h.h⟩
theorem qpd_len {p : Pos} {gs : G (List R)} (ha : QAr X c (e :: es) gs) (hm : X.mg "len" = none) (hK : X.K = c.K := by rfl) (hg : Gl X "len" := by rfl)
    (he : starEach (e :: es) X.env = (false, eval e X.env) :: starEach es X.env := by rfl) (hpl : (backTo pos (starEach es X.env)).any (·.1) = false := by rfl) : QD X c (.Call (.Name "len" p) (e :: es) [] pos) (gN fLen gs) := ⟨pd_len ha.h hm hK hg he hpl⟩
theorem qpd_tuple {p : Pos} {gs : G (List R)} (ha : QAr X c (e :: es) gs) (hm : X.mg "tuple" = none) (hK : X.K = c.K := by rfl) (hg : Gl X "tuple" := by rfl)
    (he : starEach (e :: es) X.env = (false, eval e X.env) :: starEach es X.env := by rfl) (hpl : (backTo pos (starEach es X.env)).any (·.1) = false := by rfl) : QD X c (.Call (.Name "tuple" p) (e :: es) [] pos) (gN fTuple gs) := ⟨pd_tuple ha.h hm hK hg he hpl⟩
theorem qpb_val (h : QD X c e g) (he : ∀ whole, isTrue e X.env whole = (do let v ← whole; standAt e.pos; holding [v] (truthy v)) := by intro _; rfl) : QB X c e (gTr g) := ⟨pb_val h.h he⟩
theorem qpb_cmp {op : CmpOp} {r : R2} {f : R → R → M R} (ho : OpR X (compareOp op) r) (hf : BD c r f) (ha : QD X c a ga) (hb : QD X c b gb) (hm : behindInMarks op b = false := by first | exact nomark _ | rfl) : QB X c (.Compare a [op] [b] pos) (gTr (g2 f ga gb)) := ⟨pb_cmp ho hf ha.h hb.h hm⟩
variable {t u : G Bool} {rest : List Expr}
theorem qPBw_pb (h : QBw X c e t) : QB X c e t := ⟨PBw.pb h.h⟩
theorem qpb_or1 (h : QB X c a t) : QBw X c (.BoolOp .Or [a] pos) t := ⟨pb_or1 h.h⟩
theorem qpb_or (h : QB X c a t) (h' : QBw X c (.BoolOp .Or (b :: rest) pos) u) : QBw X c (.BoolOp .Or (a :: b :: rest) pos) (gOr t u) := ⟨pb_or h.h h'.h⟩
theorem qpb_not (h : QB X c a t) : QB X c (.UnaryOp .Not a pos) (gNot t) := ⟨pb_not h.h⟩
theorem qpd_and1 {op} (h : QD X c a ga) : QD X c (.BoolOp op [a] pos) ga := ⟨pd_and1 h.h⟩
theorem qpd_and (h : QD X c a ga) (h' : QD X c (.BoolOp .And (b :: rest) pos) gb) : QD X c (.BoolOp .And (a :: b :: rest) pos) (gAndV ga gb) := ⟨pd_and h.h h'.h⟩
theorem qpd_or (h : QD X c a ga) (h' : QD X c (.BoolOp .Or (b :: rest) pos) gb) : QD X c (.BoolOp .Or (a :: b :: rest) pos) (gOrV ga gb) := ⟨pd_or h.h h'.h⟩
theorem qpd_not (h : QD X c a ga) : QD X c (.UnaryOp .Not a pos) (gNotV ga) := ⟨pd_not h.h⟩
theorem qpd_ife {x : Expr} (hx : QB X c x t) (h : QD X c a ga) (h' : QD X c b gb) : QD X c (.IfExp x a b pos) (gIf t ga gb) := ⟨pd_ife hx.h h.h h'.h⟩
end
section
variable {X : Cx} {c : C} {e a b tg : Expr} {es : List Expr} {ga gb g : G R} {pos : Pos} {st : Stmt} {rest : List Stmt} {t u : G O} {tb : G Bool}
theorem qpds_nil  : QDs X c [] gNx := ⟨pds_nil ⟩
theorem qpds_cons (h : QD1 X c st t) (h' : QDs X c rest u) : QDs X c (st :: rest) (gSeq t u) := ⟨pds_cons h.h h'.h⟩
theorem qpds_one (h : QD1 X c st t) : QDs X c [st] t := ⟨pds_one h.h⟩
theorem qpd1_expr (h : QD X c e g) (hs : swapsWith e none pos.line X.env = pure false := by rfl) : QD1 X c (.Expr e pos) (gDrop g) := ⟨pd1_expr h.h hs⟩
theorem qpd1_ret (h : QD X c e g) : QD1 X c (.Return (some e) pos) (gRet g) := ⟨pd1_ret h.h⟩
theorem qpd1_if {x : Expr} {as bs : List Stmt} (hx : QB X c x tb) (h : QDs X c as t) (h' : QDs X c bs u) : QD1 X c (.If x as bs pos) (gIfS tb t u) := ⟨pd1_if hx.h h.h h'.h⟩
theorem qpd1_set (i : Nat) {x : Str} {pos' : Pos} (hN : X.N.Nodup) (h : QD X c e g) (hi : X.N[i]? = some x := by rfl) (hx : Loc X.env.scope x := by first | exact Or.inl rfl | exact Or.inr rfl) (hs : swapsWith e (some (.Name x pos')) pos.line X.env = pure false := by rfl)
    (hf : X.fn x = true ∨ X.env.scope.names.lookup x = some .local := by first | exact .inl rfl | exact .inr rfl) : QD1 X c (.Assign [.Name x pos'] e pos) (gSet i g) := ⟨pd1_set i hN h.h hi hx hs hf⟩
theorem qptg_name (i : Nat) {x : Str} (hN : X.N.Nodup) (hi : X.N[i]? = some x := by rfl) (hx : Loc X.env.scope x := by first | exact Or.inl rfl | exact Or.inr rfl) (hf : X.fn x = true ∨ X.env.scope.names.lookup x = some .local := by first | exact .inl rfl | exact .inr rfl) : QTg X c (.Name x pos) (tgName i) := ⟨ptg_name i hN hi hx hf⟩
theorem qptgs_nil  : QTgs X c [] tgNil := ⟨ptgs_nil ⟩
theorem qptgs_cons {t : GT} {u : GTs} (h : QTg X c e t) (h' : QTgs X c es u) (hs : (assignEach (e :: es) X.env).map (·.2) = assign e X.env :: (assignEach es X.env).map (·.2) := by rfl) : QTgs X c (e :: es) (tgCons t u) := ⟨ptgs_cons h.h h'.h hs⟩
theorem qptg_tup {k : Nat} {u : GTs} {n : Nat} (h : QTgs X c es u) (hc : X.calm = true := by rfl) (hK : X.K = c.K := by rfl) (hn : (assignEach es X.env).length = n := by rfl) (hst : (assignEach es X.env).findIdx? (·.1) = none := by rfl) : QTg X c (.Tuple es k pos) (tgTup n u) := ⟨ptg_tup h.h hc hK hn hst⟩
theorem qpd1_for {iter : Expr} {body : List Stmt} {gi : G (List D)} {t : GT} (hi : QIt X c tg iter gi) (ht : QTg X c tg t) (hb : QDs X c body u) (hp : PassesOwn (model X.prog X.w) X.A X.env X.xe := by first | exact PassesOwn.never | exact PassesOwn.leaving) (hc : X.calm = true := by rfl)
    (hs : ∀ x, foldedSetIterable iter X.env x = pure x := by intro _; rfl) : QD1 X c (.For tg iter body [] pos) (gFor gi t u) := ⟨pd1_for hi.h ht.h hb.h hp hc hs⟩
theorem qpit_range1 {p : Pos} {gs : G (List R)} (ha : QAr X c [a] gs) (hm : X.mg "range" = none) (hg : Gl X "range" := by rfl) (hs : starEach [a] X.env = [(false, eval a X.env)] := by rfl) : QIt X c tg (.Call (.Name "range" p) [a] [] pos) (gRng1 gs) := ⟨pit_range1 ha.h hm hg hs⟩
theorem qPIt_pic {gi : G (List D)} (h : QIt X c tg e gi) : QIc X c tg e gi := ⟨PIt.pic h.h⟩
end
section
variable {X : Cx} {c : C} {e a b tg : Expr} {es : List Expr} {ga gb g : G R} {pos : Pos}
theorem qpd1_append (i : Nat) {x : Str} {p1 p2 pos' : Pos} (h : QD X c e g) (hN : X.N[i]? = some x := by rfl) (hv : Vis X.env.scope x := by first | exact Or.inl rfl | exact Or.inr (Or.inl rfl) | exact Or.inr (Or.inr rfl)) (hd : (x == ("__debug__" : Str)) = false := by decide)
    (hcd : (x == ("__classdict__" : Str)) = false := by decide)
    (hbase : attributeBase (.Name x p1) "append" X.env (eval (.Name x p1) X.env) = eval (.Name x p1) X.env := by rfl)
    (hfew : ((backTo pos' (starEach [e] X.env)).all (fun x => !x.1) && (backToKw pos' (keywordEach [] X.env)).all (fun x => x.1.isSome)
      && decide (([e] : List Expr).length + ([] : List Keyword).length + (if ([] : List Keyword).isEmpty then 0 else 1) < 30)) = true := by rfl)
    (hline : (p2.endLine == pos'.line) = true := by rfl) (hst : starEach [e] X.env = (false, eval e X.env) :: starEach [] X.env := by rfl) (hplain : (backTo pos' (starEach [] X.env)).any (·.1) = false := by rfl)
    (hs : swapsWith (.Call (.Attribute (.Name x p1) "append" p2) [e] [] pos') none pos.line X.env = pure false := by rfl) : QD1 X c (.Expr (.Call (.Attribute (.Name x p1) "append" p2) [e] [] pos') pos) (gApp i g) := ⟨pd1_append i h.h hN hv hd hcd hbase hfew hline hst hplain hs⟩
end
section
variable {X : Cx}
variable {prog : Program} {w : World} {A : Around} {R : Result → Shared → Prop} {s : Shared}
end
section
variable {X : Cx} {c : C}
theorem qpifs_nil  : QIfs X c [] gTt := ⟨pifs_nil ⟩
theorem qpifs_one {x : Expr} {g : G Bool} (h : QB X c x g) : QIfs X c [x] g := ⟨pifs_one h.h⟩
end
section
variable {K : PySem.W.Frag} {J : Hp} {s : Shared}
end
section
variable {K : PySem.W.Frag} {J : Hp} {s : Shared}
variable {X : Cx} {c : C} {e a b tg : Expr} {es : List Expr} {ga gb g : G R} {pos : Pos}
theorem qpd_eq (hu : X.A.units + 64 < cLine) (ha : QD X c a ga) (hb : QD X c b gb) (hK : X.K = c.K := by rfl) : QD X c (.Compare a [.Eq] [b] pos) (g2 (fEq false) ga gb) := ⟨pd_eq hu ha.h hb.h hK⟩
theorem qpb_eq (hu : X.A.units + 64 < cLine) (ha : QD X c a ga) (hb : QD X c b gb) (hK : X.K = c.K := by rfl) : QB X c (.Compare a [.Eq] [b] pos) (gTr (g2 (fEq false) ga gb)) := ⟨pb_eq hu ha.h hb.h hK⟩
theorem qpb_ne (hu : X.A.units + 64 < cLine) (ha : QD X c a ga) (hb : QD X c b gb) (hK : X.K = c.K := by rfl) : QB X c (.Compare a [.NotEq] [b] pos) (gTr (g2 (fEq true) ga gb)) := ⟨pb_ne hu ha.h hb.h hK⟩
theorem qpd_in (hu : X.A.units + 64 < cLine) (ha : QD X c a ga) (hb : QD X c b gb) (hK : X.K = c.K := by rfl) (hm : behindInMarks .In b = false := by rfl) : QD X c (.Compare a [.In] [b] pos) (g2 (fIn false) ga gb) := ⟨pd_in hu ha.h hb.h hK hm⟩
end
section
variable {X : Cx} {c : C} {e a b tg : Expr} {es : List Expr} {ga gb g : G R} {pos : Pos}
theorem qpd_sorted {p : Pos} {gs : G (List R)} (ha : QAr X c (e :: es) gs) (hm : X.mg "sorted" = none) (hK : X.K = c.K := by rfl) (hg : Gl X "sorted" := by rfl)
    (he : starEach (e :: es) X.env = (false, eval e X.env) :: starEach es X.env := by rfl) (hpl : (backTo pos (starEach es X.env)).any (·.1) = false := by rfl) : QD X c (.Call (.Name "sorted" p) (e :: es) [] pos) (gN fSorted gs) := ⟨pd_sorted ha.h hm hK hg he hpl⟩
end
section
variable {X : Cx} {c : C} {e a b tg : Expr} {es : List Expr} {ga gb g : G R} {pos : Pos}
theorem qpd_plus (ha : QD X c a ga) (hb : QD X c b gb) : QD X c (.BinOp a .Add b pos) (g2 fPlus ga gb) := ⟨pd_plus ha.h hb.h⟩
theorem qpd_times (ha : QD X c a ga) (hb : QD X c b gb) : QD X c (.BinOp a .Mult b pos) (g2 fTimes ga gb) := ⟨pd_times ha.h hb.h⟩
theorem qpd_index (ha : QD X c a ga) (hb : QD X c b gb) (hK : X.K = c.K := by rfl) (hs : PlainIx b := by exact fun _ _ => rfl) : QD X c (.Subscript a b pos) (g2 fIx ga gb) := ⟨pd_index ha.h hb.h hK hs⟩
theorem qpd_cal {k k' n : Nat} {F : List S → M R} {x : Str} {p : Pos} {gs : G (List R)} (G : Cal X.prog X.w X.K X.mg X.base k n x F) (hr : Room k' X.A) (ha : QAr X c (e :: es) gs) (hk : k ≤ k' := by decide) (hT : c.K = X.K := by rfl) (hg : Gl X x := by rfl) (hdb : (x == ("__debug__" : Str)) = false := by decide)
    (he : starEach (e :: es) X.env = (false, eval e X.env) :: starEach es X.env := by rfl) (hpl : (backTo pos (starEach es X.env)).any (·.1) = false := by rfl) : QD X c (.Call (.Name x p) (e :: es) [] pos) (gN (gCall n F) gs) := ⟨pd_cal G hr ha.h hk hT hg hdb he hpl⟩
theorem qpd1_tup {t : GT} (h : QD X c e g) (ht : QTg X c tg t) (hs : swapsWithSole [tg] e pos.line X.env = pure false := by rfl) (hw : swappedStores [tg] e X.env = pure none := by rfl)
    (h1 : (assignEach [tg] X.env).map (·.2) = [assign tg X.env] := by rfl) : QD1 X c (.Assign [tg] e pos) (gAsg t g) := ⟨pd1_tup h.h ht.h hs hw h1⟩
end
section
variable {X : Cx} {c : C} {e a b tg : Expr} {es : List Expr} {ga gb g : G R} {pos : Pos}
theorem qpd_isinst {T : String} {Ts : Str} {p p2 : Pos} (kit : Kit T) (hT : bootBuiltins Ts = some (.type T)) (mT : X.mg Ts = none)
    (h : QD X c a g) (hm : X.mg "isinstance" = none) (hK : X.K = c.K := by rfl) (hg : Gl X "isinstance" := by rfl) (hgT : Gl X Ts := by rfl) (hn : Ts ≠ "__name__" := by decide) (hdT : (Ts == ("__debug__" : Str)) = false := by decide)
    (he : starEach [a, .Name Ts p2] X.env = (false, eval a X.env) :: starEach [.Name Ts p2] X.env := by rfl) (he2 : starEach [.Name Ts p2] X.env = (false, eval (.Name Ts p2) X.env) :: starEach [] X.env := by rfl)
    (hpl : (backTo pos (starEach [.Name Ts p2] X.env)).any (·.1) = false := by rfl) : QD X c (.Call (.Name "isinstance" p) [a, .Name Ts p2] [] pos) (gIs T g) := ⟨pd_isinst kit hT mT h.h hm hK hg hgT hn hdT he he2 hpl⟩
end
section
variable {X : Cx} {c : C} {e a b tg : Expr} {es : List Expr} {ga gb g : G R} {pos : Pos}
theorem qpd_add4 (ha : QD X c a ga) (hb : QD X c b gb) (hK : X.K = c.K := by rfl) : QD X c (.BinOp a .Add b pos) (g2 fAdd4 ga gb) := ⟨pd_add4 ha.h hb.h hK⟩
end
section
variable {X : Cx} {c : C} {e a b tg : Expr} {es : List Expr} {ga gb g : G R} {pos : Pos}
end
section
variable {prog : Program} {w : World} {A : Around} {E : Value → Shared → Prop} {s : Shared}
end
section
variable {X : Cx} {pins : List (Addr × Obj)} {σ : L2.St} {H : Hp} {s : Shared}
end
section
variable {X : Cx} {c : C} {e a b : Expr} {es : List Expr} {ga gb g : G R} {pos : Pos} {elts : List Expr} {kk : Nat} {tp : Pos}
end
section
variable {X : Cx} {c : C} {e a b tg : Expr} {es : List Expr} {ga gb g : G R} {pos : Pos}
theorem qpd_globD {d : D} {x : Str} (h : GlobD X.K X.mg x d) (hK : X.K = c.K := by rfl) (hg : Gl X x := by rfl) (hd : (x == ("__debug__" : Str)) = false := by decide) : QD X c (.Name x pos) (gC d) := ⟨pd_globD h hK hg hd⟩
end
section
variable {X : Cx} {c : C} {e a b tg : Expr} {es : List Expr} {ga gb g : G R} {pos : Pos} {st : Stmt} {t u : G O} {tb : G Bool}
theorem qpd_neg (h : QD X c a g) : QD X c (.UnaryOp .USub a pos) (gNeg g) := ⟨pd_neg h.h⟩
theorem qpb_tru (h : QD X c e g) (hK : X.K = c.K := by rfl) (he : ∀ whole, isTrue e X.env whole = (do let v ← whole; standAt e.pos; holding [v] (truthy v)) := by intro _; rfl) : QB X c e (gTru g) := ⟨pb_tru h.h hK he⟩
end
section
variable {X : Cx} {c : C} {e a b tg : Expr} {es : List Expr} {ga gb g : G R} {pos : Pos} {st : Stmt} {t u : G O} {tb : G Bool}
end
section
variable {X : Cx} {c : C} {e a b tg : Expr} {es : List Expr} {ga gb g : G R} {pos : Pos}
end
section
variable {X : Cx} {c : C} {e a b tg : Expr} {es : List Expr} {ga gb g : G R} {pos : Pos}
theorem qpd_is (ha : QD X c a ga) (hb : QD X c b gb) : QD X c (.Compare a [.Is] [b] pos) (g2 (fIs false) ga gb) := ⟨pd_is ha.h hb.h⟩
theorem qpd_isnot (ha : QD X c a ga) (hb : QD X c b gb) : QD X c (.Compare a [.IsNot] [b] pos) (g2 (fIs true) ga gb) := ⟨pd_isnot ha.h hb.h⟩
theorem qpb_is (ha : QD X c a ga) (hb : QD X c b gb) : QB X c (.Compare a [.Is] [b] pos) (gTr (g2 (fIs false) ga gb)) := ⟨pb_is ha.h hb.h⟩
end
section
variable {X : Cx} {c : C} {e a b tg i : Expr} {es : List Expr} {ga gb g : G R} {pos : Pos}
end
section
end
section
variable {prog : Program} {w : World} {A : Around} {R : Result → Shared → Prop} {I : Addr} {fp wr : List Addr} {St : Nat → Heap → Prop} {us : Array Value} {ns : List Int} {S : Addr} {dv : Value}
end
section
variable {prog : Program} {w : World} {A : Around} {E : Value → Shared → Prop} {s : Shared} {l : Addr} {us : Array Value} {ns : List Int}
variable {X : Cx} {c : C} {e a b tg i : Expr} {es : List Expr} {ga gb g : G R} {pos : Pos}
end
section
variable {X : Cx} {c : C} {e a b d tg : Expr} {es : List Expr} {ga gb g : G R} {pos : Pos}
end
section
end
section
variable {X : Cx} {c : C} {e a b d tg : Expr} {es : List Expr} {ga gb g : G R} {pos : Pos}
theorem qpit_any (h : QD X c e g) (hK : X.K = c.K := by rfl) : QIt X c tg e (gItF g) := ⟨pit_any h.h hK⟩
theorem qpic_any (h : QD X c e g) (hK : X.K = c.K := by rfl) : QIc X c tg e (gItQ g) := ⟨pic_any h.h hK⟩
end
section
variable {X : Cx} {c : C} {st : Stmt} {g : G O}
theorem qpd1_frz (i : Nat) (h : QD1 X c st g) : QD1 X c st (gFrz i g) := ⟨pd1_frz i h.h⟩
end
section
variable {X : Cx} {c : C}
theorem qpd_comp (own : List Str) (cap : List Nat) {elt target iter : Expr} {ifs : List Expr} {scope : Scope} {pos : Pos} {gi : G (List D)} {gt : GT} {gts : G Bool} {ge : G R} (hi : QIc X c target iter gi)
    (hbody : ∀ (cl : List (Str × Addr)) (C : Addr) (s : Shared) (H : Hp) (fp : List Addr), clsOf X.env.cells scope.names [] = some cl → QTg (cxC X own cap scope cl C s H fp) c target gt ∧ QIfs (cxC X own cap scope cl C s H fp) c ifs gts ∧ QD (cxC X own cap scope cl C s H fp) c elt ge)
    (hk : scope.kind = .function := by rfl) (hcell : (scope.names.all fun y => !(y.2 == .cell)) = true := by rfl) (hnames : (scope.names.all fun x => !(x.2 == .local) || (scope.names.lookup x.1 == some .local)) = true := by rfl)
    (hcl : (clsOf X.env.cells scope.names []).isSome = true := by rfl) (hcap : capOk X cap = true := by rfl) (hloc : capLoc X cap scope = true := by rfl) (hnd : nodN cap = true := by rfl) (hcalm : X.calm = true := by rfl)
    (hs : ∀ x, foldedSetIterable iter X.env x = pure x := by intro _; rfl) : QD X c (.ListComp elt [⟨target, iter, ifs, 0⟩] scope pos) (gComp own.length cap gi gt gts ge) :=
  ⟨pd_comp own cap hi.h (fun cl C s H fp hc => let ⟨a, b, d⟩ := hbody cl C s H fp hc; ⟨a.h, b.h, d.h⟩) hk hcell hnames hcl hcap hloc hnd hcalm hs⟩
theorem qcal_of {P : Program} {w : World} {K : PySem.W.Frag} {mg : Str → Option Value} {base : Heap} {x qual : Str} {st : Stmt} {f : Addr} {fd : FuncData} {N ps : List Str} {k : Nat} {Fm : List S → M R} (F : Fun K x qual st f fd) (hm : mg x = some (.ref f)) (Sc : FnScope N ps (defScope st))
    (hbi : ∀ (kV doc pm : Value) (an : Option Addr) (cdv ct : Value) (us : List Value), us.length = ps.length → bindArgs (PySem.W.fnOf x qual (defArgs st) (defBody st) (defScope st) .none kV doc pm an cdv ct) ⟨us, []⟩ = pure (ps.zip us)) {gB : G O}
    (hb : ∀ (cdv : Value) (A : Around) (outer : List Env) (s : Shared) (H : Hp) (E : XK) (J : Hp) (T : Exc → Prop), Room k (A.deeper (envOfC qual (defScope st) s.heap.objs.size f cdv)) →
      QDs (cxD P w K mg base N qual (defScope st) f cdv A outer s H E) ⟨K, H, J, T⟩ (defBody st) gB)
    (hF : ∀ as r, as.length = ps.length → Fm as = .ok r → fin (gB (startE N as)) = .ok r) : Cal P w K mg base (k + 1) ps.length x Fm :=
  cal_of F hm Sc hbi (fun cdv A outer s H E J T hr => (hb cdv A outer s H E J T hr).h) hF
theorem qfn_okD {P : Program} {w : World} {K : PySem.W.Frag} {mg : Str → Option Value} {base : Heap} {x qual : Str} {st : Stmt} {f : Addr} {fd : FuncData} {N ps : List Str} {k : Nat} {Fm : List S → M R} (F : Fun K x qual st f fd) (Sc : FnScope N ps (defScope st)) {gB : G O}
    (hb : ∀ (cdv : Value) (A : Around) (outer : List Env) (s : Shared) (H : Hp) (E : XK) (J : Hp) (T : Exc → Prop), Room k (A.deeper (envOfC qual (defScope st) s.heap.objs.size f cdv)) →
      QDs (cxD P w K mg base N qual (defScope st) f cdv A outer s H E) ⟨K, H, J, T⟩ (defBody st) gB)
    (hF : ∀ as r, as.length = ps.length → Fm as = .ok r → fin (gB (startE N as)) = .ok r) : FnOk P w K mg base CX0 (k + 1) f fd ps (spD K ps.length Fm) :=
  fn_okD F Sc (fun cdv A outer s H E J T hr => (hb cdv A outer s H E J T hr).h) hF
end
end DL
set_option Elab.async false
set_option linter.all false
set_option maxRecDepth 100000
set_option maxHeartbeats 4000000
namespace K01
open PySem DL
noncomputable def Nis_whole : List Str := ["thing"]
noncomputable def gis_whole : G O := (gRet (gAndV (gIs "int" (gVar 0)) (gNotV (gIs "bool" (gVar 0)))))
noncomputable def Fis_whole (as : List S) : M R := fin (gis_whole (startE Nis_whole as))
noncomputable def N_law_point : List Str := ["_law_thing", "_law_many"]
noncomputable def g_law_point : G O := (gRet (gAndV (gIs "int" (gVar 0)) (gAndV (gNotV (gIs "bool" (gVar 0))) (gAndV (g2 (fI0 fun i j => .bl (decide (i ≤ j))) (gC (.int 0)) (gVar 0)) (g2 (fI0 fun i j => .bl (decide (i < j))) (gVar 0) (gVar 1))))))
noncomputable def F_law_point (as : List S) : M R := fin (g_law_point (startE N_law_point as))
noncomputable def N_law_pair : List Str := ["_law_thing", "_law_many"]
noncomputable def g_law_pair : G O := (gSeq (gIfS (gOr (gNot (gTr (gIs "tuple" (gVar 0)))) (gTr (g2 (fEq true) (gN fLen (gCons (gVar 0) gNil)) (gC (.int 2))))) (gRet (gC (.bl false))) gNx)
 (gRet (gAndV (gN (gCall 2 F_law_point) (gCons (g2 fIx (gVar 0) (gC (.int 0))) (gCons (gVar 1) gNil))) (gN (gCall 2 F_law_point) (gCons (g2 fIx (gVar 0) (gC (.int 1))) (gCons (gVar 1) gNil))))))
noncomputable def F_law_pair (as : List S) : M R := fin (g_law_pair (startE N_law_pair as))
noncomputable def N_law_is_name : List Str := ["_law_thing"]
noncomputable def g_law_is_name : G O := (gSeq (gIfS (gOr (gNot (gTr (gIs "str" (gVar 0)))) (gOr (gTr (g2 (fI0 fun i j => .bl (decide (i < j))) (gN fLen (gCons (gVar 0) gNil)) (gC (.int 2)))) (gTr (g2 (fI0 fun i j => .bl (decide (j < i))) (gN fLen (gCons (gVar 0) gNil)) (gC (.int 8)))))) (gRet (gC (.bl false))) gNx)
 (gSeq (gIfS (gTr (g2 (fIn false) (gVar 0) (gTup (gDCons (gC (.str "and")) (gDCons (gC (.str "or")) (gDCons (gC (.str "not")) (gDCons (gC (.str "some")) (gDCons (gC (.str "every")) (gDCons (gC (.str "least")) (gDCons (gC (.str "true")) (gDCons (gC (.str "false")) gDNil))))))))))) (gRet (gC (.bl false))) gNx)
 (gRet (gN fAll (gCons (gComp 1 [] (gItS (gVar 0)) (tgName 0) gTt (g2 (fInS false) (gVar 0) (gC (.str "abcdefghijklmnopqrstuvwxyz")))) gNil)))))
noncomputable def F_law_is_name (as : List S) : M R := fin (g_law_is_name (startE N_law_is_name as))
noncomputable def N_law_part : List Str := ["_law_thing", "_law_many", "_law_way", "_law_k"]
noncomputable def g_law_part : G O := (gSeq (gIfS (gOr (gNot (gTr (gIs "tuple" (gVar 0)))) (gTr (g2 (fEq true) (gN fLen (gCons (gVar 0) gNil)) (gC (.int 2))))) (gRet (gC (.bl false))) gNx)
 (gSeq (gIfS (gOr (gNot (gTr (gN (gCall 1 F_law_is_name) (gCons (g2 fIx (gVar 0) (gC (.int 0))) gNil)))) (gNot (gTr (gIs "tuple" (g2 fIx (gVar 0) (gC (.int 1))))))) (gRet (gC (.bl false))) gNx)
 (gSeq (gFor (gRng1 (gCons (gN fLen (gCons (g2 fIx (gVar 0) (gC (.int 1))) gNil)) gNil)) (tgName 3) (gSeq (gIfS (gOr (gAnd (gTr (g2 (fEq false) (gVar 2) (gC (.int 0)))) (gNot (gTr (gN (gCall 2 F_law_point) (gCons (g2 fIx (g2 fIx (gVar 0) (gC (.int 1))) (gVar 3)) (gCons (gVar 1) gNil)))))) (gAnd (gTr (g2 (fEq false) (gVar 2) (gC (.int 1)))) (gNot (gTr (gN (gCall 2 F_law_pair) (gCons (g2 fIx (g2 fIx (gVar 0) (gC (.int 1))) (gVar 3)) (gCons (gVar 1) gNil))))))) (gRet (gC (.bl false))) gNx)
 (gIfS (gAnd (gTr (g2 (fI0 fun i j => .bl (decide (j < i))) (gVar 3) (gC (.int 0)))) (gNot (gTr (g2 fLt3 (g2 fIx (g2 fIx (gVar 0) (gC (.int 1))) (g2 fSub (gVar 3) (gC (.int 1)))) (g2 fIx (g2 fIx (gVar 0) (gC (.int 1))) (gVar 3)))))) (gRet (gC (.bl false))) gNx)))
 (gRet (gC (.bl true))))))
noncomputable def F_law_part (as : List S) : M R := fin (g_law_part (startE N_law_part as))
end K01
set_option Elab.async false
set_option linter.all false
set_option maxRecDepth 100000
set_option maxHeartbeats 4000000
namespace K01
open PySem DL
/-! ### data that is small enough for every step -/
inductive Sm : D → Prop
  | non : Sm .non
  | bl (b : Bool) : Sm (.bl b)
  | int (i : Int) : Sm (.int i)
  | emp : Sm .emp
  | str {x : Str} : x.length ≤ 1000 → Sm (.str x)
  | tup {xs : List D} : xs.length ≤ 1000 → (∀ x ∈ xs, Sm x) → Sm (.tup xs)
  | lst {xs : List D} : xs.length ≤ 1000 → (∀ x ∈ xs, Sm x) → Sm (.lst xs)
theorem line1000 {n : Nat} (h : n ≤ 1000) : n ≤ sizeLine := Nat.le_trans h (by decide)
/-! ### what the text asks, upon data -/
noncomputable def letB (k : Nat) : Bool := !(Builtin.Str.occurrences "abcdefghijklmnopqrstuvwxyz" ⟨#[k]⟩ 0 (Str.length "abcdefghijklmnopqrstuvwxyz") 1).isEmpty
noncomputable def words : List D := [.str "and", .str "or", .str "not", .str "some", .str "every", .str "least", .str "true", .str "false"]
noncomputable def nmS (x : Str) : Bool := decide (2 ≤ x.length) && (decide (x.length ≤ 8) && (!inD (.str x) words && x.cps.toList.all letB))
noncomputable def ltB : D → D → Bool
  | .int i, .int j => decide (i < j)
  | .str i, .str j => decide (i.cps.toList < j.cps.toList)
  | .tup xs, .tup ys => match intsOf xs, intsOf ys with
    | some ns, some ms => HT.lexLt ns ms
    | _, _ => false
  | _, _ => false
/-! ### comprehensions -/
theorem bls_map (f : D → Bool) : ∀ (ds : List D), blsOf (ds.map fun d => .bl (f d)) = some (ds.map f)
  | [] => rfl
  | d :: r => by
    simp only [List.map_cons, blsOf, bls_map f r]
    rfl
theorem all_map (f : D → Bool) (ds : List D) : fAll [.l .fresh (ds.map fun d => .bl (f d))] = .ok (.d (.bl (ds.all f))) := by
  unfold fAll
  simp only [asL, bind_ok, bls_map]
  congr 3
  simp [List.all_map]
/-! ### the simple tests -/
end K01
set_option Elab.async false
set_option linter.all false
set_option maxRecDepth 100000
set_option maxHeartbeats 4000000
namespace K01
open PySem DL
/-- item of a list by a place that is there -/
theorem atI_nat {α : Type} {xs : List α} {k : Nat} {x : α} (h : xs[k]? = some x) : L2.atI xs (k : Int) = some x := by
  have hk : k < xs.length := (List.getElem?_eq_some_iff.mp h).1
  unfold L2.atI L2.ixN
  rw [if_pos (by omega), if_pos (by omega)]
  simpa using h
theorem fIx_tup {xs : List D} {k : Nat} {x : D} (h : xs[k]? = some x) : fIx (.d (.tup xs)) (.d (.int k)) = .ok (.d x) := by
  unfold fIx
  simp only [asQ, bind_ok, atI_nat h]
theorem fIx_l {m : Md} {xs : List D} {k : Nat} {x : D} (h : xs[k]? = some x) : fIx (.l m xs) (.d (.int k)) = .ok (.d x) := by
  unfold fIx
  simp only [asQ, bind_ok, atI_nat h]
theorem fIx_str {z : Str} {k : Nat} {c : Nat} (hz : z.length ≤ 1000) (h : z.cps.toList[k]? = some c) : fIx (.d (.str z)) (.d (.int k)) = .ok (.d (.str ⟨#[c]⟩)) := by
  unfold fIx
  simp only [line1000 hz, if_true, atI_nat h]
theorem len_str {x : Str} (h : x.length ≤ 1000) : fLen [.d (.str x)] = .ok (.d (.int x.length)) := by
  show (if x.length ≤ sizeLine then M.ok (R.d (D.int x.length)) else M.bad) = _
  rw [if_pos (line1000 h)]
theorem ix0 (a : D) (r : List D) : fIx (.d (.tup (a :: r))) (.d (.int 0)) = .ok (.d a) := fIx_tup (k := 0) rfl
theorem ix1 (a b : D) (r : List D) : fIx (.d (.tup (a :: b :: r))) (.d (.int 1)) = .ok (.d b) := fIx_tup (k := 1) rfl
/-! ### pairs -/
/-! ### names -/
end K01
set_option Elab.async false
set_option linter.all false
set_option maxRecDepth 100000
set_option maxHeartbeats 4000000
namespace K01
open PySem DL
/-! ### a comprehension over a tuple that asks a def -/
theorem Sm.tl {xs : List D} (h : Sm (.tup xs)) : xs.length ≤ 1000 ∧ ∀ x ∈ xs, Sm x := by
  cases h with
  | tup a b => exact ⟨a, b⟩
end K01
set_option Elab.async false
set_option linter.all false
set_option maxRecDepth 100000
set_option maxHeartbeats 4000000
namespace K01
open PySem DL
/-! ### loops that look for a fault -/
end K01
set_option Elab.async false
set_option linter.all false
set_option maxRecDepth 100000
set_option maxHeartbeats 4000000
namespace K01
open PySem DL
theorem rngA (n : Nat) (h : n ≤ 1000) : below 4611686018427387904 (n : Int) = true := below_iff.mpr ⟨by omega, by omega⟩
noncomputable def rr1 (j : Int) : M (List D) := if below 4611686018427387904 j then .ok (rngD 0 j.toNat) else .bad
theorem rr1_eq (j : Int) (h : below 4611686018427387904 j = true) : rr1 j = .ok (rngD 0 j.toNat) := by unfold rr1; exact if_pos h
theorem rng_rr {gs : G (List R)} {env : Ev} {j : Int} (hg : gs env = .ok [.d (.int j)]) : gRng1 gs env = rr1 j := by
  unfold gRng1 rr1
  rw [hg]
  rfl
theorem rng1 {gs : G (List R)} {env : Ev} {n : Nat} (hg : gs env = .ok [.d (.int (n : Int))]) (h : n ≤ 1000) : gRng1 gs env = .ok (rngD 0 n) := by
  rw [rng_rr hg, rr1_eq _ (rngA n h)]
  exact congrArg (fun k => M.ok (rngD 0 k)) (Int.toNat_natCast n)
theorem for_eq {g : G (List D)} {t : GT} {u : G O} {env : Ev} {ds : List D} (h : g env = .ok ds) : gFor g t u env = loopG t u ds env := by
  unfold gFor
  rw [h]
  rfl
end K01
set_option Elab.async false
set_option linter.all false
set_option maxRecDepth 100000
set_option maxHeartbeats 4000000
namespace K01
open PySem DL
noncomputable abbrev inner : G O := (gFor (gRng1 (gCons (gN fLen (gCons (gVar 2) gNil)) gNil)) (tgName 3) (gIfS (gOr (gNot (gTr (gN (gCall 3 F_law_part) (gCons (g2 fIx (gVar 2) (gVar 3)) (gCons (g2 fIx (gVar 0) (gC (.int 0))) (gCons (gVar 1) gNil)))))) (gAnd (gTr (g2 (fI0 fun i j => .bl (decide (j < i))) (gVar 3) (gC (.int 0)))) (gNot (gTr (g2 fLt3 (g2 fIx (g2 fIx (gVar 2) (g2 fSub (gVar 3) (gC (.int 1)))) (gC (.int 0))) (g2 fIx (g2 fIx (gVar 2) (gVar 3)) (gC (.int 0)))))))) (gRet (gC (.bl false))) gNx))
noncomputable abbrev outer : G O := (gSeq (gSet 2 (g2 fIx (gVar 0) (g2 fPlus (gC (.int 1)) (gVar 1))))
 (gSeq (gIfS (gOr (gNot (gTr (gIs "tuple" (gVar 2)))) (gTr (g2 (fI0 fun i j => .bl (decide (j < i))) (gN fLen (gCons (gVar 2) gNil)) (gC (.int 3))))) (gRet (gC (.bl false))) gNx)
 inner))
end K01
set_option Elab.async false
set_option linter.all false
set_option maxRecDepth 100000
set_option maxHeartbeats 4000000
namespace K01
open PySem DL
/-! ### sums -/
theorem t_plus (i j : Int) : fPlus (.d (.int i)) (.d (.int j)) = .ok (.d (.int (i + j))) := rfl
theorem fI_ok {C : Int → Int → Bool} {f : Int → Int → D} {i j : Int} (h : C i j = true) : fI C f (.d (.int i)) (.d (.int j)) = .ok (.d (f i j)) := by
  show (if C i j = true then M.ok (R.d (f i j)) else M.bad) = _
  rw [if_pos h]
theorem t_times (i j : Int) (h1 : -(2 ^ 64) < j) (h2 : j < 2 ^ 64) : fTimes (.d (.int i)) (.d (.int j)) = .ok (.d (.int (i * j))) := fI_ok (C := kMul) (f := fun i j => .int (i * j)) (by unfold kMul; rw [Bool.or_eq_true]; exact Or.inr (below_iff.mpr ⟨h1, h2⟩))
theorem t_div (i j : Int) (h1 : 0 < j) (h2 : j < 1073741824) : fDiv (.d (.int i)) (.d (.int j)) = .ok (.d (.int (i / j))) := fI_ok (by
  unfold kDiv
  rw [Bool.and_eq_true]
  exact ⟨decide_eq_true h1, below_iff.mpr ⟨by omega, h2⟩⟩)
theorem t_mod (i j : Int) (h1 : 0 < j) : fMod (.d (.int i)) (.d (.int j)) = .ok (.d (.int (i % j))) := fI_ok (decide_eq_true h1)
theorem t_str (x y : Str) (h : x.length + y.length ≤ 1000) : fPlus (.d (.str x)) (.d (.str y)) = .ok (.d (.str (x ++ y))) := by
  show (if x.length + y.length ≤ sizeLine then M.ok (R.d (D.str (x ++ y))) else M.bad) = _
  rw [if_pos (line1000 h)]
theorem t_rep (x : Str) (n : Int) (h0 : 0 ≤ n) (h : n ≤ 1000) (hx : x.length ≤ 1000) : fTimes (.d (.str x)) (.d (.int n)) = .ok (.d (.str (repS x n.toNat))) := by
  show (if 0 ≤ n ∧ n ≤ 1000 ∧ x.length ≤ 1000 then M.ok (R.d (D.str (repS x n.toNat))) else M.bad) = _
  rw [if_pos ⟨h0, h, hx⟩]
/-! ### signs of texts -/
noncomputable def abc : Str := "abcdefghijklmnopqrstuvwxyz"
theorem abc_at : ∀ k : Fin 26, abc.cps.toList[k.val]? = some (97 + k.val) := by decide +kernel
theorem abc_len : abc.length ≤ 1000 := by decide +kernel
theorem ix_abc (i : Int) (h0 : 0 ≤ i) (h : i < 26) : fIx (.d (.str "abcdefghijklmnopqrstuvwxyz")) (.d (.int i)) = .ok (.d (.str ⟨#[97 + i.toNat]⟩)) := by
  have e : i = ((i.toNat : Nat) : Int) := by omega
  have := fIx_str (z := abc) (k := i.toNat) abc_len (abc_at ⟨i.toNat, by omega⟩)
  rw [e]
  exact this
noncomputable def bases : List Nat := [98, 99, 100, 102, 103]
theorem foldl_list (c : Array Nat) : ∀ (k : Nat) (acc : Array Nat), ((List.replicate k c).foldl (· ++ ·) acc).toList = acc.toList ++ (List.replicate k c.toList).flatten
  | 0, acc => by simp
  | k + 1, acc => by
    rw [List.replicate_succ, List.foldl_cons, foldl_list c k]
    simp [List.replicate_succ]
theorem cps_rep (b n : Nat) : (repS ⟨#[b]⟩ n).cps.toList = List.replicate n b := by
  unfold repS
  simp only
  rw [foldl_list]
  induction n with
  | zero => rfl
  | succ n ih => simpa [List.replicate_succ] using ih
theorem len_cps (x : Str) : x.length = x.cps.toList.length := by
  show x.cps.size = _
  simp
end K01
set_option Elab.async false
set_option linter.all false
set_option maxRecDepth 100000
set_option maxHeartbeats 4000000
namespace K01
open PySem DL
/-! ### loops by an invariant -/
/-! ### what is a name -/
/-! ### sorted names -/
theorem strs_map : ∀ (ss : List Str), strsOf (ss.map .str) = some ss
  | [] => rfl
  | s :: r => by
    simp only [List.map_cons, strsOf, strs_map r]
    rfl
theorem sorted_strs (m : Md) (ss : List Str) (h : ss.length < 64) : fSorted [.l m (ss.map .str)] = .ok (.l .fresh ((sortS ss).map .str)) := by
  unfold fSorted
  simp only [asL, bind_ok, strs_map, h, if_true]
end K01
set_option Elab.async false
set_option linter.all false
set_option maxRecDepth 100000
set_option maxHeartbeats 4000000
namespace K01
open PySem DL
noncomputable def Good (m : Nat) (ss : List Str) : Prop := ss.length = m ∧ (∀ s ∈ ss, nmS s = true) ∧ ss.Pairwise fun a b => a.cps.toList < b.cps.toList
end K01
set_option Elab.async false
set_option linter.all false
set_option maxRecDepth 100000
set_option maxHeartbeats 4000000
namespace K01
open PySem DL
theorem ifs_no {b : G Bool} {t u : G O} {env : Ev} (h : b env = .ok false) : gIfS b t u env = u env := by
  unfold gIfS
  rw [h]
  rfl
theorem ifs_yes {b : G Bool} {t u : G O} {env : Ev} (h : b env = .ok true) : gIfS b t u env = t env := by
  unfold gIfS
  rw [h]
  rfl
theorem n1_eq {g : G R} {f : List R → M R} {env : Ev} {r r' : R} (h : g env = .ok r) (hf : f [r] = .ok r') : gN f (gCons g gNil) env = .ok r' := by
  unfold gN gCons
  rw [h]
  exact hf
theorem ret_eq {g : G R} {env : Ev} {r r' : R} (h : g env = .ok r) (h2 : rF r = .ok r') : gRet g env = .ok (.rt r') := by
  unfold gRet
  rw [h, bind_ok, h2]
  rfl
end K01
set_option Elab.async false
set_option linter.all false
set_option maxRecDepth 100000
set_option maxHeartbeats 4000000
namespace K01
open PySem DL
/-! ### worlds -/
noncomputable abbrev dN (k : Nat) : D := .int k
noncomputable abbrev dP (p : Nat × Nat) : D := .tup [.int p.1, .int p.2]
noncomputable def pLt (p q : Nat × Nat) : Prop := p.1 < q.1 ∨ (p.1 = q.1 ∧ p.2 < q.2)
noncomputable def PtsOk (m : Nat) (xs : List Nat) : Prop := xs.length ≤ 8 ∧ xs.Pairwise (· < ·) ∧ ∀ x ∈ xs, x < m
noncomputable def PrsOk (m : Nat) (ps : List (Nat × Nat)) : Prop := ps.length ≤ 64 ∧ ps.Pairwise pLt ∧ ∀ p ∈ ps, p.1 < m ∧ p.2 < m
noncomputable def Tng (ss : List Str) : Prop := ss.length ≤ 3 ∧ (∀ s ∈ ss, nmS s = true) ∧ ss.Pairwise fun a b => a.cps.toList < b.cps.toList
structure Wd where
  m : Nat
  ms : List (Str × List Nat)
  ar : List (Str × List (Nat × Nat))
noncomputable abbrev rowM (r : Str × List Nat) : D := .tup [.str r.1, .tup (r.2.map dN)]
noncomputable abbrev rowA (r : Str × List (Nat × Nat)) : D := .tup [.str r.1, .tup (r.2.map dP)]
noncomputable def Wd.d (w : Wd) : D := .tup [.int w.m, .tup (w.ms.map rowM), .tup (w.ar.map rowA)]
structure Wd.Ok (w : Wd) : Prop where
  lo : 1 ≤ w.m
  hi : w.m ≤ 8
  mn : Tng (w.ms.map Prod.fst)
  an : Tng (w.ar.map Prod.fst)
  mp : ∀ r ∈ w.ms, PtsOk w.m r.2
  ap : ∀ r ∈ w.ar, PrsOk w.m r.2
/-! ### points and pairs by bits -/
end K01
set_option Elab.async false
set_option linter.all false
set_option maxRecDepth 100000
set_option maxHeartbeats 4000000
namespace K01
open PySem DL
theorem Good.sub {m : Nat} {ss ys : List Str} (h : Good m ss) (s : ys.Sublist ss) (hl : ys.length ≤ 3) : Tng ys := ⟨hl, fun x hx => h.2.1 x (s.subset hx), h.2.2.sublist s⟩
end K01
set_option Elab.async false
set_option linter.all false
set_option maxRecDepth 100000
set_option maxHeartbeats 4000000
namespace K01
open PySem DL
end K01
set_option Elab.async false
set_option linter.all false
set_option maxRecDepth 100000
set_option maxHeartbeats 4000000
namespace K01
open PySem DL
/-! ### what comes is small -/
noncomputable def DE (env : Ev) (g : G R) : Prop := ∃ d, g env = .ok (.d d) ∧ Sm d
noncomputable def SmE (env : Ev) (g : G R) : Prop := ∃ r d, g env = .ok r ∧ toD r = .ok d ∧ Sm d
noncomputable def TupE (env : Ev) (g : G R) (n : Nat) : Prop := ∃ xs, g env = .ok (.d (.tup xs)) ∧ xs.length ≤ n ∧ ∀ d ∈ xs, Sm d
section
variable {env : Ev} {g h gi : G R} {gs : G (List D)} {n m : Nat} {i : Int}
theorem DE.e (h : DE env g) : SmE env g := let ⟨d, h1, h2⟩ := h; ⟨.d d, d, h1, rfl, h2⟩
theorem TupE.d (h : TupE env g n) (hn : n ≤ 1000) : DE env g := let ⟨xs, h1, h2, h3⟩ := h; ⟨_, h1, .tup (Nat.le_trans h2 hn) h3⟩
end
end K01
set_option Elab.async false
set_option linter.all false
set_option maxRecDepth 100000
set_option maxHeartbeats 4000000
namespace K01
open PySem DL
end K01
set_option Elab.async false
set_option linter.all false
set_option maxRecDepth 100000
set_option maxHeartbeats 4000000
namespace K01
open PySem DL
/-! ### texts -/
end K01
set_option Elab.async false
set_option linter.all false
set_option maxRecDepth 100000
set_option maxHeartbeats 4000000
namespace K01
open PySem DL
theorem reps_ints {K : PySem.W.Frag} {J : L2.Hp} : ∀ (ns : List Int), Reps K J (ns.map D.int) (ns.map L2.V.int)
  | [] => .nil
  | n :: r => .cons (.int n) (reps_ints r)
end K01
set_option Elab.async false
set_option linter.all false
set_option maxRecDepth 100000
set_option maxHeartbeats 4000000
/-! A field stored on an exception whose class stands below other classes of one's own. -/
namespace DX
open PySem PySem.Spec
open Builtin Builtin.ObjectAttr
/-- classes of one's own that have none of the names ns, then the built-in ones -/
inductive Tail (h : Heap) (ns : List Str) (bmB : List Value) : List Value → Prop
  | base : Tail h ns bmB bmB
  | own {a : Addr} {c0 : Value} {dd : Option Addr} {cd : ClassData} {sl : Array (Option Value)} {m : Str → Option Value} {tl : List Value} : h.get? a = some { cls := c0, dict := dd, data := .cls cd, slots := sl } → h.Ns cd.ns m → (∀ n ∈ ns, m n = none) → Tail h ns bmB tl → Tail h ns bmB (.ref a :: tl)
theorem Tail.has {h : Heap} {ns : List Str} {bmB tl : List Value} (T : Tail h ns bmB tl) {X : String} {b : Bool} (hb : bmB.contains (.type X) = b) : tl.contains (.type X) = b := by
  induction T with
  | base => exact hb
  | own _ _ _ _ ih => rw [List.contains_cons, ih]; rfl
theorem Tail.keeps {h h' : Heap} {ns : List Str} {bmB tl : List Value} (T : Tail h ns bmB tl) (k : ∀ b o, h.get? b = some o → h'.get? b = some o) : Tail h' ns bmB tl := by
  induction T with
  | base => exact .base
  | own a b c _ ih => exact .own (k _ _ a) (b.keeps k) c ih
theorem Tail.old {h : Heap} {ns : List Str} {bmB tl : List Value} (T : Tail h ns bmB tl) (hi : ("__init__" : Str) ∈ ns) : OwnTail h bmB tl := by
  induction T with
  | base => exact .base
  | own a b c _ ih => exact .own a b (c _ hi) ih
theorem Tail.refuse {h : Heap} {ns : List Str} {bmB tl : List Value} (T : Tail h ns bmB tl) {self : Value} {what : Str} (hb : refuseLoop self what bmB = pure ()) : refuseLoop self what tl = pure () := by
  induction T with
  | base => exact hb
  | own _ _ _ _ ih => rw [refuseLoop_ref]; exact ih
section
variable {M : Model} {prog : Program} {w : World} {A : Around} {E : Value → Shared → Prop} {h : Heap} {g : Array GenState} {d : Drawn} {t : Nat} {os : OsState}
variable {nm q : Str} {C N x : Addr} {bs bm bmB : List Value} {hdct : Bool} {sn : List Str} {sub : List Value} {ab : Bool} {col : Option Bool} {dd : Option Addr} {k0 k1 k2 k3 k5 : Option Value} {B newId sa owner : String} {ns : List Str} {mN mA : Str → Option Value} {name : Str} {v : Value}
theorem along_tail {tl : List Value} {n : Str} {y : Option Value} {Q : Option Value → Shared → Prop} (T : Tail h ns bmB tl) (hn : n ∈ ns) (hr : lookupAlong bmB n = pure y) (hq : Q y ⟨h, g, d, t, os⟩) : wpAny M A (lookupAlong tl n) Q E ⟨h, g, d, t, os⟩ := by
  induction T with
  | base => rw [hr]; exact wpAny_pure hq
  | own a b c _ ih =>
    rw [lookupAlong_cons]
    refine wpAny_bind (wpAny_classOwn_cls a b ?_)
    rw [c n hn]
    exact ih
theorem look_tail {n : Str} {y : Option Value} {Q : Option Value → Shared → Prop} (hC : h.get? C = some (excClassObj nm q C N bs bm hdct sn sub ab col dd k0 k1 k2 k3 k5 newId)) (hN : h.Ns N mN) (hm : mN n = none) (T : Tail h ns bmB bm) (hn : n ∈ ns) (hbm : mroOf (.type B) = pure bmB) (hB : typeLookup (.type B) n = pure y)
    (hq : Q y ⟨h, g, d, t, os⟩) : wpAny M A (typeLookup (.ref C) n) Q E ⟨h, g, d, t, os⟩ := by
  have hr : lookupAlong bmB n = pure y := by rw [typeLookup_eq, hbm] at hB; exact hB
  rw [typeLookup_eq]
  refine wpAny_bind (wpAny_mroOf_exc hC ?_)
  rw [lookupAlong_cons]
  refine wpAny_bind (wpAny_classOwn_exc hC hN ?_)
  rw [hm]
  exact along_tail T hn hr hq
/-- what becomes of the heap -/
structure Stored (h h' : Heap) (x : Addr) (o : Obj) (name : Str) (v : Value) (dx : Addr) : Prop where
  new : h.objs.size ≤ dx
  obj : h'.get? x = some { o with dict := some dx }
  dic : h'.Ns1 dx fun y => if y = name then some v else none
  keep : ∀ b u, b ≠ x → h.get? b = some u → h'.get? b = some u
theorem check_saT {o : Obj} {nameV : Value} {Q : Unit → Shared → Prop} (SF : StoreFacts B bmB sa owner) (T : Tail h ns bmB bm) (hC : h.get? C = some (excClassObj nm q C N bs bm hdct sn sub ab col dd k0 k1 k2 k3 k5 newId)) (hx : h.get? x = some o) (hc : o.cls = .ref C) (hq : Q () ⟨h, g, d, t, os⟩) :
    wpAny M A (checkBuiltinCall sa ⟨[.ref x, nameV, v], []⟩) Q E ⟨h, g, d, t, os⟩ := by
  have hcB : (Value.ref C :: bm).contains (.type owner) = true := by simp only [List.contains_cons, T.has SF.hasOwner, Bool.or_true]
  have ha := SF.args (.ref x) nameV v
  simp only [checkBuiltinCall, SF.kind, SF.split]
  refine wpAny_bind ?_
  unfold isInstance
  repeat (first | (with_reducible refine wpAny_loadPart_at hx ?_; rw [hc]) | (with_reducible refine wpAny_isSubtype_exc hC ?_; rw [hcB]) | wp_step)
  cases sg : Manifest.signature? sa with
  | none => exact wpAny_pure hq
  | some sig =>
    simp only [argsOk, sg] at ha
    have h2 : Bind.checkArgs sa sig ⟨[.ref x, nameV, v], []⟩ = pure () := ha
    show wpAny M A (Bind.checkArgs sa sig _) Q E _
    rw [h2]
    exact wpAny_pure hq
theorem store_entryT {tk : Tok} {o : Obj} {Q : Fin → Shared → Prop} (SF : StoreFacts B bmB sa owner) (T : Tail h ns bmB bm) (hC : h.get? C = some (excClassObj nm q C N bs bm true sn sub ab col dd k0 k1 k2 k3 k5 newId)) (hN : h.Ns N mN) (hna : mN name = none) (hin : name ∈ ns)
    (hB : typeLookup (.type B) name = pure none) (hxC : x ≠ C) (hx : h.get? x = some o) (hc : o.cls = .ref C) (hnc : ∀ c, o.data ≠ .cls c) (hdn : o.dict = none) (hq : ∀ h' tk' dx, Stored h h' x o name v dx → Q (.done (.ret .none)) ⟨h', g, d, tk', os⟩) :
    wpAny (model prog w) A (Builtin.«object.__setattr__» ⟨[.ref x, .str name tk, v], []⟩) Q E ⟨h, g, d, t, os⟩ := by
  have hpass : refuseLoop (.ref x) "__setattr__" bm = pure () := T.refuse (SF.passes (.ref x))
  unfold Builtin.«object.__setattr__»
  repeat (first | rw [refuse_eq] | (rw [refuseLoop_ref, hpass]) | (with_reducible refine wpAny_loadPart_at hx ?_; rw [hc]) | with_reducible refine wpAny_mroOf_exc hC ?_ | (with_reducible refine look_tail hC hN hna T hin SF.mro hB ?_) | wp_step)
  rw [hdn, if_neg (by simp [typeHasDict])]
  split
  · rename_i hcd; cases hcd
  split
  · rename_i c hcd; exact absurd hcd (hnc c)
  obtain ⟨oD, qD⟩ : ∃ oD : Obj, oD = { cls := .type "dict", data := .dict #[] } := ⟨_, rfl⟩
  have hx₁ := Heap.get?_push_of_some oD hx
  have hxs : x ≠ h.objs.size := Nat.ne_of_lt (Heap.lt_size hx)
  refine wpAny_bind (wpAny_alloc' (wpAny_bind ?_))
  rw [← qD]
  refine wpAny_update' hx₁ (wpAny_pure ?_)
  have hgd : ((h.push oD).update x fun o => { o with dict := some h.objs.size }).get? h.objs.size = some oD := (Heap.get?_update_ne _ _ _ _ hxs.symm).trans (Heap.get?_push_at rfl (by rw [qD]; rfl))
  have hnd : ((h.push oD).update x fun o => { o with dict := some h.objs.size }).Ns h.objs.size (fun _ => none) := ⟨_, #[], _, hgd, by rw [qD], fun e he => absurd he (by simp), fun _ => rfl⟩
  show wpAny _ _ (storeInDict h.objs.size (.str name tk) name v) _ _ _
  unfold storeInDict newKeyGuard
  refine wpAny_bind (wpAny_pure (wpAny_bind (wpAny_nsSet1 (Heap.Ns1.of_empty hnd) fun h' hn' hs => ?_)))
  obtain ⟨o2, es, ep, ho, hd, hcn⟩ := hn'.count (Within.cons name v Within.nil)
  refine wpAny_bind (wpAny_lookBehind ho (by rw [hd]; exact pastItsLine_dict (Nat.le_trans hcn (by simp only [List.length_cons, List.length_nil, sizeLine_eq]; omega))) ?_)
  wp_walk
  refine hq h' _ h.objs.size ⟨Nat.le_refl _, ?_, hn', fun b u hb hu => ?_⟩
  · refine (hs.2 x hxs).trans (Heap.get?_update_self _ hx₁ ?_)
    have hfr := (Heap.get?_some_iff.mp hx).2
    obtain ⟨oc, od, odt, osl⟩ := o
    cases odt <;> first | rfl | exact hfr
  · exact (hs.2 b (Nat.ne_of_lt (Heap.lt_size hu))).trans ((Heap.get?_update_ne _ _ _ _ hb).trans (Heap.get?_push_of_some _ hu))
/-- x.name = v -/
theorem store_attrT {o : Obj} {Q : Unit → Shared → Prop} (SF : StoreFacts B bmB sa owner) (T : Tail h ns bmB bm) (hC : h.get? C = some (excClassObj nm q C N bs bm true sn sub ab col dd k0 k1 k2 k3 k5 newId)) (hN : h.Ns N mN) (hns : mN "__setattr__" = none) (his : ("__setattr__" : Str) ∈ ns) (hna : mN name = none) (hin : name ∈ ns)
    (hB : typeLookup (.type B) name = pure none) (hxC : x ≠ C) (hx : h.get? x = some o) (hc : o.cls = .ref C) (hnc : ∀ c, o.data ≠ .cls c) (hdn : o.dict = none) (hq : ∀ h' tk' dx, Stored h h' x o name v dx → Q () ⟨h', g, d, tk', os⟩) : wpAny (model prog w) A (setAttr (.ref x) name v) Q E ⟨h, g, d, t, os⟩ := by
  have f3 := SF.slot.bind (.ref x)
  unfold setAttr callSpecial? specialOf
  repeat (any_goals (first | assumption | (with_reducible refine wpAny_loadPart_at hx ?_; rw [hc]) | (with_reducible refine look_tail hC hN hns T his SF.mro SF.slot.lookup ?_) | wp_step))
  refine codeAny_call_builtin SF.slot.plain SF.entry (check_saT SF T hC hx hc (store_entryT SF T hC hN hna hin hB hxC hx hc hnc hdn (fun h' tk' dx st => ?_)))
  repeat (any_goals (first | assumption | wp_step))
  exact hq h' tk' dx st
end
end DX
set_option Elab.async false
set_option linter.all false
set_option maxRecDepth 100000
set_option maxHeartbeats 4000000
/-! The built-in `__init__`, called on an exception that stands already. -/
namespace DX
open PySem PySem.Spec
section
variable {prog : Program} {w : World} {A : Around} {E : Value → Shared → Prop} {h : Heap} {g : Array GenState} {d : Drawn} {t : Nat} {os : OsState}
variable {nm q : Str} {C N e : Addr} {bs bm bmB : List Value} {hdct : Bool} {sn : List Str} {sub : List Value} {ab : Bool} {col : Option Bool} {dd : Option Addr} {k0 k1 k2 k3 k5 : Option Value} {B newId nid initId : String}
theorem init_again {t0 : Addr} {dx : Option Addr} {rest : List Value} {Q : Value → Shared → Prop} (F : ExcBaseFacts B nid initId bmB) (T : OwnTail h bmB bm) (hC : h.get? C = some (excClassObj nm q C N bs bm hdct sn sub ab col dd k0 k1 k2 k3 k5 newId)) (he : h.get? e = some (exO C t0 dx)) (hrest : rest.length ≤ sizeLine)
    (hq : ∀ h' t', h.objs.size ≤ t' → (∀ b u, b ≠ e → h.get? b = some u → h'.get? b = some u) → h'.get? e = some (exO C t' dx) → Q .none ⟨h', g, d, t, os⟩) : wpAny (model prog w) A (call (.builtin initId) (.ref e :: rest)) Q E ⟨h, g, d, t, os⟩ := by
  refine wpAny_call (codeAny_call_builtin F.init.plain F.initEntry (wpAny_check_init_subU F T hC he rfl ?_))
  wp_walk
  refine hq _ h.objs.size (Nat.le_refl _) (fun b u hb hu => ?_) ?_
  · rw [Heap.get?_update_other _ _ (Ne.symm hb)]
    exact Heap.get?_push_of_some _ hu
  · rw [Heap.get?_update_self _ (Heap.get?_push_of_some _ he) rfl]
    rfl
end
end DX
set_option Elab.async false
set_option linter.all false
set_option maxRecDepth 100000
set_option maxHeartbeats 4000000
/-! The two rows of an exception's own `__init__`, upon a tracked new exception. -/
namespace DX
open PySem PySem.Spec PyProof.Rows L2
/-- a new exception, tracked -/
noncomputable abbrev NO (a C : Addr) (dx : Option Addr) : HO := .ext fun h => ∃ t, h.get? a = some (exO C t dx)
theorem no_ok {P : Program} {w : World} {H : Hp} {h : Heap} {a C t : Addr} {dx : Option Addr} (x : h.get? a = some (exO C t dx)) : ObjOk P w H h a (NO a C dx) :=
  ⟨⟨t, x⟩, ⟨_, x⟩, fun _ _ ⟨t, q⟩ k => ⟨t, k _ q⟩⟩
/-- the exception is written anew, all else stands -/
theorem rewrite_no {X : Cx} {pins : List (Addr × Obj)} {σ : L2.St} {H : Hp} {s : Shared} {h' : Heap} {tk : Nat} {x C t : Addr} {dx : Option Addr} (I : L2.Inv X pins σ H s) (hx : H x = some (NO x C dx)) (k : ∀ b u, b ≠ x → s.heap.get? b = some u → h'.get? b = some u) (ht : h'.get? x = some (exO C t dx)) :
    L2.Inv X pins σ H { s with heap := h', toks := tk } := by
  have ne : ∀ b, H b = none → b ≠ x := fun b n z => by rw [z, hx] at n; cases n
  refine I.call' (ch := []) rfl ⟨fun b o hb hn _ _ => k b o (ne b hn) hb, fun b o hb hn _ _ => ⟨o.slots, k b o (ne b hn) hb⟩, fun _ _ _ n _ => n, fun b o hb _ => ?_, fun _ _ q => q, fun _ _ _ q => q, fun _ ps q => ⟨#[], by rw [q]; simp⟩⟩ (fun a o ha => ?_) I.bare (fun b z => by cases z)
  · by_cases z : b = x
    · exact ⟨_, z ▸ ht⟩
    · exact ⟨o, k b o z hb⟩
  · by_cases z : a = x
    · subst z
      rw [hx] at ha
      obtain rfl := Option.some.inj ha
      exact no_ok ht
    · refine (I.hok a o ha).stay (fun b u hb q => k b u (fun y => ?_) q) (fun _ q => q) fun _ _ q => q
      rcases hb with rfl | hb
      · exact z y
      · rw [y, hx] at hb; cases hb
section
variable {X : Cx} {o e : Expr} {es : List Expr} {apos pos : Pos} {t : TA} {m : Str}
/-- Base.__init__(self, ..) -/
noncomputable def tInit (bm : List Value) (K : PySem.W.Frag) (t : TA) : TE := fun σ H Q => t σ H fun vs H1 => ∃ x rest C dx nm q N bs hdct sn sub ab col dd k0 k1 k2 k3 k5 newId, vs = .ref x :: rest ∧ rest.length ≤ sizeLine ∧ H1 x = some (NO x C dx) ∧ K.lookup C = some (excClassObj nm q C N bs bm hdct sn sub ab col dd k0 k1 k2 k3 k5 newId) ∧ Q .non H1
theorem pe_xinit {pl : Sem Bool} {Cb : Addr} {mc : Value} {B nid initId : String} {bm bmB : List Value} (he : PE X o fun _ H Q => Q (.ref Cb) H) (F : ExcBaseFacts B nid initId bmB) (hT : ∀ h, X.K.In h → OwnTail h bmB bm) (hg : PySem.W.specialIn X.K (.ref Cb) "__getattribute__" = some (some (.builtin "type.__getattribute__"))) (hr : PySem.W.readsIn X.K Cb mc = true)
    (hf : PySem.W.findCls X.K (.ref Cb) mc "__init__" = some (.val (.builtin initId))) (hh : PySem.W.handedIn (.builtin initId) = true) (ha : PA X (e :: es) t)
    (hst : starEach (e :: es) X.env = (false, eval e X.env) :: starEach es X.env := by rfl) (hpl : (backTo pos (starEach es X.env)).any (·.1) = false := by rfl)
    (ht : eval (.Call (.Attribute o "__init__" apos) (e :: es) [] pos) X.env = (do
      let ov ← eval o X.env
      standAt apos.atName
      let (f, first) ← holding [ov] (getMethod ov "__init__" pl)
      callWith pos f first (backTo pos (starEach (e :: es) X.env)) (backToKw pos (keywordEach [] X.env))) := by rfl) : PE X (.Call (.Attribute o "__init__" apos) (e :: es) [] pos) (tInit bm X.K t) := by
  intro pins s σ H Q I h
  refine PySem.W.methodCall_KW (pl := pl) (thn (he pins s σ H (fun u H1 => u = .ref Cb ∧ tInit bm X.K t σ H1 Q) I ⟨rfl, h⟩) fun u s1 ⟨v, H1, I1, rv, ev, q⟩ => ?_) ht
  subst ev
  obtain rfl : u = Value.ref Cb := rv
  refine PySem.W.method_cls I1.kIn hg (PySem.W.cls_value I1.kIn hr hf hh ?_)
  have I1' : L2.Inv X pins σ H1 { s1 with toks := s1.toks + 1 } := I1.call' (ch := []) rfl .refl I1.hok I1.bare (fun b z => by cases z)
  refine PyProof.Rows.callWith_builtin1 (thn (ha pos pins _ σ H1 _ I1' q) fun us s2 ⟨vs, H2, I2, r, q2⟩ => ?_) hst hpl
  obtain ⟨x, rest, C, dx, nm, qn, N, bs, hdct, sn, sub, ab, col, dd, k0, k1, k2, k3, k5, newId, ev, hl, hx, lk, q3⟩ := q2
  subst ev
  cases r with
  | cons r1 r2 =>
    obtain rfl : _ = Value.ref x := r1
    obtain ⟨⟨t0, hx0⟩, _⟩ := I2.hok x _ hx
    obtain ⟨hp, gs, dr, tk, os⟩ := s2
    exact init_again F (hT _ I2.kIn) (I2.kIn _ _ lk) hx0 (by rw [← r2.length]; exact hl) fun h' t' _ k ht' => ⟨.non, H2, rewrite_no (s := ⟨hp, gs, dr, tk, os⟩) I2 hx k ht', rfl, q3⟩
end
end DX
set_option Elab.async false
set_option linter.all false
set_option maxRecDepth 100000
set_option maxHeartbeats 4000000
namespace DX
open PySem PySem.Spec PyProof.Rows L2
/-- the field is stored: a dict comes -/
theorem store_no {X : Cx} {pins : List (Addr × Obj)} {σ : L2.St} {H : Hp} {s : Shared} {h' : Heap} {tk : Nat} {x C t d : Addr} {f : Str} {y : V} {u : Value} (I : L2.Inv X pins σ H s) (hx : H x = some (NO x C none)) (hd : H d = none) (nd : s.heap.objs.size ≤ d) (k : ∀ b o, b ≠ x → s.heap.get? b = some o → h'.get? b = some o) (ht : h'.get? x = some (exO C t (some d)))
    (dic : h'.Ns1 d fun z => if z = f then some u else none) (ry : RelV y u) : L2.Inv X pins σ (upd (upd H x (NO x C (some d))) d (.xd [(f, y)])) { s with heap := h', toks := tk } := by
  have xd : x ≠ d := fun z => by rw [z, hd] at hx; cases hx
  have up : ∀ b, b ≠ x → b ≠ d → upd (upd H x (NO x C (some d))) d (.xd [(f, y)]) b = H b := fun b h1 h2 => by rw [upd_ne h2, upd_ne h1]
  have ne : ∀ b, H b = none → b ≠ x := fun b n z => by rw [z, hx] at n; cases n
  have old : ∀ b o, s.heap.get? b = some o → b ≠ d := fun b o hb z => absurd (Nat.lt_of_lt_of_le (Heap.lt_size hb) (z ▸ nd)) (Nat.lt_irrefl _)
  have st : ∀ b o, H b = some o → (∀ φ, o ≠ .ext φ) → upd (upd H x (NO x C (some d))) d (.xd [(f, y)]) b = some o := fun b o hb hn => by
    rw [up b (fun z => by rw [z, hx] at hb; exact hn _ (Option.some.inj hb).symm) (fun z => by rw [z, hd] at hb; cases hb), hb]
  refine I.call' (ch := []) rfl ⟨fun b o hb hn _ _ => k b o (ne b hn) hb, fun b o hb hn _ _ => ⟨o.slots, k b o (ne b hn) hb⟩, fun b o hb n _ => by rw [up b (ne b n) (old b o hb)]; exact n, fun b o hb _ => ?_, fun b xs q => st b _ q (fun φ z => by cases z), fun b o u q => st b _ q (fun φ z => by cases z), fun b ps q => ⟨#[], by rw [st b _ q (fun φ z => by cases z)]; simp⟩⟩ (fun a o ha => ?_) I.bare (fun b z => by cases z)
  · by_cases z : b = x
    · exact ⟨_, z ▸ ht⟩
    · exact ⟨o, k b o z hb⟩
  · by_cases z : a = d
    · subst z
      rw [upd_same] at ha
      obtain rfl := Option.some.inj ha
      refine ⟨_, dic, fun f' => ?_⟩
      by_cases q : f' = f
      · subst q
        simp only [List.lookup, beq_self_eq_true, if_pos]
        exact ry
      · have q' : (f' == f) = false := beq_eq_false_iff_ne.mpr q
        simp only [List.lookup, q', if_neg q]
        trivial
    · by_cases z2 : a = x
      · subst z2
        rw [upd_ne z, upd_same] at ha
        obtain rfl := Option.some.inj ha
        exact no_ok ht
      · rw [up a z2 z] at ha
        refine (I.hok a o ha).stay (fun b u hb q => k b u (fun y => ?_) q) (fun b q => st b _ q (fun φ z => by cases z)) fun b xs q => st b _ q (fun φ z => by cases z)
        rcases hb with rfl | hb
        · exact z2 y
        · rw [y, hx] at hb; cases hb
section
variable {X : Cx} {o value : Expr} {f : Str} {pos pos' : Pos} {ta tv : TE}
/-- self.f = value -/
noncomputable def sXFld (C : Addr) (ta tv : TE) (f : Str) : TS := fun D σ H => tv σ H fun y H1 => ta σ H1 fun x H2 => ∃ a, x = .ref a ∧ H2 a = some (NO a C none) ∧ ∀ d, H2 d = none → D.nx σ (upd (upd H2 a (NO a C (some d))) d (.xd [(f, y)]))
theorem ps_xfld {B sa owner : String} {C N : Addr} {nm q : Str} {bs bm bmB : List Value} {sn : List Str} {sub : List Value} {ab : Bool} {col : Option Bool} {dd : Option Addr} {k0 k1 k2 k3 k5 : Option Value} {newId : String} {ns : List Str} (ha : PE X o ta) (hv : PE X value tv) (SF : StoreFacts B bmB sa owner) (hT : ∀ h, X.K.In h → Tail h ns bmB bm)
    (lk : X.K.lookup C = some (excClassObj nm q C N bs bm true sn sub ab col dd k0 k1 k2 k3 k5 newId)) (hN : ∀ h, X.K.In h → ∃ mN, h.Ns N mN ∧ mN "__setattr__" = none ∧ mN f = none) (his : ("__setattr__" : Str) ∈ ns) (hin : f ∈ ns) (hB : typeLookup (.type B) f = pure none)
    (hs : swapsWith value (some (.Attribute o f pos')) pos.line X.env = pure false) : PS X (.Assign [.Attribute o f pos'] value pos) (sXFld C ta tv f) := by
  intro pins s σ H D I h
  refine plainObj_wpAny_Assign_Attribute (thn (hv pins s σ H _ I h) fun u s1 ⟨y, H1, I1, ry, q1⟩ => thn (ha pins s1 σ H1 _ I1 q1) fun ov s2 ⟨x, H2, I2, rx, a, ex, hx, q2⟩ => ?_) hs
  subst ex
  obtain rfl : ov = Value.ref a := rx
  obtain ⟨⟨t0, hx0⟩, _⟩ := I2.hok a _ hx
  obtain ⟨mN, n1, n2, n3⟩ := hN _ I2.kIn
  have aC : a ≠ C := fun z => by
    have := (I2.bs C _ (I2.ok.mod.kin _ _ lk)).2
    rw [← z, hx] at this
    cases this
  obtain ⟨hp, gs, dr, tk, os⟩ := s2
  refine store_attrT SF (hT _ I2.kIn) (I2.kIn _ _ lk) n1 n2 his n3 hin hB aC hx0 rfl (fun c z => by cases z) rfl fun h' tk' d sd => ?_
  have fd : H2 d = none := I2.hok.fresh sd.new
  exact ⟨σ, _, store_no (s := ⟨hp, gs, dr, tk, os⟩) I2 hx fd sd.new sd.keep sd.obj sd.dic ry, q2 d fd⟩
end
end DX
set_option Elab.async false
set_option linter.all false
set_option maxRecDepth 100000
set_option maxHeartbeats 4000000
/-! What a body wants of exceptions: they leave it as CXX says. -/
namespace DX
open PySem PySem.Spec PyProof.Rows L2
/-- T is none of the frame's own things -/
noncomputable def Apart (X : Cx) (pins : List (Addr × Obj)) (T : Addr) : Prop := (T ∈ X.ex ∨ X.s₀.heap.objs.size ≤ T) ∧ T ≠ X.env.locals ∧ (∀ x c, X.env.cells.lookup x = some c → c ≠ T) ∧ ∀ p ∈ X.pn ++ pins, p.1 ≠ T
theorem apart_new {X : Cx} {pins : List (Addr × Obj)} {σ : L2.St} {H : Hp} {s : Shared} (I : L2.Inv X pins σ H s) {T : Addr} (h : s.heap.objs.size ≤ T) : Apart X pins T := by
  have ne : ∀ b, b < s.heap.objs.size → b ≠ T := fun b hb z => absurd (Nat.lt_of_lt_of_le (z ▸ hb) h) (Nat.lt_irrefl _)
  refine ⟨.inr (Nat.le_trans I.sz h), (ne _ I.lt).symm, fun x c hc => ?_, fun p hp => ne _ (Heap.lt_size (I.pin p hp).1)⟩
  obtain ⟨v, o, hv, _⟩ := I.cell x c hc
  exact ne _ (Heap.lt_size hv)
/-- an exception that stands at the top of this body goes where X.xe wants it -/
noncomputable def Catches (X : Cx) (E : XK) : Prop := ∀ (pins : List (Addr × Obj)) (σ : L2.St) (H' : Hp) (s' : Shared) (e C : Addr) (dx To : Option Addr), L2.Inv X pins σ H' s' → Fl e C dx To s'.heap → X.s₀.heap.objs.size ≤ e → (∀ T ∈ To.toList, X.s₀.heap.objs.size ≤ T ∧ Apart X pins T) →
  H' e = some (XO e C dx) → (∀ T ∈ To.toList, H' T = none) → E (.ref e) dx H' → X.xe (.ref e) s'
theorem Catches.passes {X : Cx} {E : XK} (h : Catches X E) : Passes (CXX X.prog X.w) X E := fun pins σ H s v s' I ⟨e, C, dx, T, H', ev, f⟩ => by
  subst ev
  have I' : L2.Inv X pins σ H' s' := I.call' (ch := []) f.os f.un f.hok f.bare (fun b z => by cases z)
  exact h pins σ H' s' e C dx (some T) I' f.fl (Nat.le_trans I.sz f.newE) (fun T' hT => ⟨Nat.le_trans I.sz (f.newT T' hT), apart_new I (f.newT T' hT)⟩) f.trk f.free f.wish
theorem catches_cx {P : Program} {w : World} {K : PySem.W.Frag} {mg : Str → Option Value} {base : Heap} {N : List Str} {qual : Str} {sc : Scope} {f : Addr} {cd : Value} {A : Around} {outer : List Env} {s : Shared} {H : Hp} {E : XK} :
    Catches (cxOf (CXX P w) P w K mg base N qual sc f cd A outer s H E) E := fun pins σ H' s' e C dx To I fl newE newT trk free wish => by
  have fr := I.ok.frames
  have st := I.stack
  have sf := I.stkFree
  have ss := I.stkSub
  show wpAny _ _ (leaving (envOfC qual sc s.heap.objs.size f cd) (.ref e)) _ _ _
  unfold leaving
  refine wpAny_bind (note_any (A := A.deeper (envOfC qual sc s.heap.objs.size f cd)) fr st rfl fl fun h2 T' lf t0 fy => ?_)
  have fd : Fled P w (frs outer) [] H s E e C dx To H' s' := ⟨I.os, I.bare, I.base, I.hok, fl, newE, fun T hT => (newT T hT).1, trk, free, wish⟩
  exact ⟨e, C, dx, T', H', rfl, fd.left lf t0 fy sf (fun b hb => by
    rcases List.mem_cons.mp (ss b hb) with z | z
    · exact .inr (by rw [z]; exact Nat.le_refl _)
    · exact .inl z) I.sz⟩
end DX
set_option Elab.async false
set_option linter.all false
set_option maxRecDepth 100000
set_option maxHeartbeats 4000000
/-! C(..) of an exception's class of one's own, and its raise. -/
namespace DX
open PySem PySem.Spec PyProof.Rows L2
/-- what the class must have -/
structure XCls (K : PySem.W.Frag) (C f : Addr) : Prop where
  ex : ∃ nm q N bs bm hdct sn sub ab col dd k0 k1 k2 k3 k5 newId Bn inN bmN B nid initId bmB, K.lookup C = some (excClassObj nm q C N bs bm hdct sn sub ab col dd k0 k1 k2 k3 k5 newId) ∧ ExcBaseFacts Bn newId inN bmN ∧ bmB.contains (.type Bn) = true ∧ ExcBaseFacts B nid initId bmB ∧ bm.contains (.type "BaseException") = true ∧
    (∀ h, K.In h → OwnTail h bmB bm ∧ ∃ mN, h.Ns N mN ∧ mN "__init__" = some (.ref f))
  fn : ∃ oI : Obj, K.lookup f = some oI ∧ oI.cls = .type "function"
  kp : PySem.W.keepIn K (.ref C) = true
section
variable {X : Cx} {CX : CXT} {k : Nat} {f C : Addr} {fd : FuncData} {ps : List Str} {sp : Sp} {E : XK} {x : Str} {p pos : Pos} {e : Expr} {es : List Expr} {t : TA}
/-- the value, with what the raise asks of it -/
theorem run_xmake {pins : List (Addr × Obj)} {σ : L2.St} {H : Hp} {s : Shared} {Q : VK} {us : List Value} {vs : List V} (M : XCls X.K C f) (F : FnOk X.prog X.w X.K X.mg X.base CX k f fd ps sp) (hr : Room (k + 1) X.A) (hb : Binds X.K fd ps []) (hx : Passes CX X E) (I : L2.Inv X pins σ H s) (r : Vals vs us) (hl : vs.length ≤ sizeLine)
    (h : ∀ x, s.heap.objs.size ≤ x → sp (.ref x :: vs) (upd H x (NO x C none)) (fun v H2 => v = .non ∧ Q (.ref x) H2) E) : wpAny (model X.prog X.w) X.A (call (.ref C) us) (EP X pins σ Q) X.xe s := by
  obtain ⟨nm, q, N, bs, bm, hdct, sn, sub, ab, col, dd, k0, k1, k2, k3, k5, newId, Bn, inN, bmN, B, nid, initId, bmB, lk, Fn, hBn, FB, _, hK⟩ := M.ex
  obtain ⟨oI, lI, cI⟩ := M.fn
  obtain ⟨T, mN, n1, n2⟩ := hK _ I.kIn
  obtain ⟨hp, gs, dr, tk, os⟩ := s
  refine call_initU Fn hBn FB T (I.kIn _ _ lk) n1 n2 (I.kIn _ _ lI) cI (fun h' a tp md => ?_) (by rw [← r.length]; exact hl)
  have I2 : L2.Inv X pins σ (upd H a (NO a C none)) ⟨h', gs, dr, tk, os⟩ := I.laid md.keep md.new (no_ok md.obj)
  have hq := h a md.new
  have r2 : Vals (V.ref a :: vs) (Value.ref a :: us) := .cons rfl r
  have hln : (Value.ref a :: us ++ []).length = ps.length := by
    rw [List.append_nil, ← r2.length]
    exact F.len _ _ _ _ hq
  have bd := hb ⟨h', gs, dr, tk, os⟩ (Value.ref a :: us) I2.kIn hln
  rw [List.append_nil] at bd
  refine wpAny_call (codeAny_mono (F.run _ X.stack _ _ ⟨Value.ref a :: us, []⟩ (Value.ref a :: us) _ _ E (hr.make C us []) (I2.env0.make C us []) bd r2 hq) fun r s' hq' => ?_)
  cases r with
  | error e => exact hx pins σ _ _ e s' I2 hq'
  | ok fl =>
    cases fl with
    | ret u =>
      obtain ⟨v, H', I3, rv, ev, q3⟩ := I2.after hq'
      subst ev
      exact ⟨rv, ⟨V.ref a, H', I3, rfl, q3⟩⟩
    | next => exact False.elim hq'
    | brk => exact False.elim hq'
    | cont => exact False.elim hq'
end
end DX
set_option Elab.async false
set_option linter.all false
set_option maxRecDepth 100000
set_option maxHeartbeats 4000000
namespace DX
open PySem PySem.Spec PyProof.Rows L2
/-- a new exception, tracked from now on as one that may fly -/
theorem retrack {X : Cx} {pins : List (Addr × Obj)} {σ : L2.St} {H : Hp} {s : Shared} {x C : Addr} {dx : Option Addr} (I : L2.Inv X pins σ H s) (hx : H x = some (NO x C dx)) : L2.Inv X pins σ (upd H x (XO x C dx)) s := by
  have ne : ∀ b, H b = none → b ≠ x := fun b n z => by rw [z, hx] at n; cases n
  have st : ∀ b o, H b = some o → (∀ φ, o ≠ .ext φ) → upd H x (XO x C dx) b = some o := fun b o hb hn => by
    rw [upd_ne (fun z => by rw [z, hx] at hb; exact hn _ (Option.some.inj hb).symm), hb]
  obtain ⟨⟨t0, hx0⟩, _⟩ := I.hok x _ hx
  refine I.call' (ch := []) rfl ⟨fun b o hb _ _ _ => hb, fun b o hb _ _ _ => ⟨o.slots, hb⟩, fun b o hb n _ => by rw [upd_ne (ne b n)]; exact n, fun b o hb _ => ⟨o, hb⟩, fun b xs q => st b _ q (fun φ z => by cases z), fun b o u q => st b _ q (fun φ z => by cases z), fun b ps q => ⟨#[], by rw [st b _ q (fun φ z => by cases z)]; simp⟩⟩ (fun a o ha => ?_) I.bare (fun b z => by cases z)
  by_cases z : a = x
  · subst z
    rw [upd_same] at ha
    obtain rfl := Option.some.inj ha
    exact isx_ok ⟨_, _, hx0, rfl, rfl, rfl⟩
  · rw [upd_ne z] at ha
    exact (I.hok a o ha).stay (fun b u _ q => q) (fun b q => st b _ q (fun φ z => by cases z)) fun b xs q => st b _ q (fun φ z => by cases z)
section
variable {X : Cx} {CX : CXT} {k : Nat} {f C : Addr} {fd : FuncData} {ps : List Str} {sp : Sp} {E E' : XK} {x : Str} {p cpos pos : Pos} {e : Expr} {es : List Expr} {t : TA}
/-- raise C(..) -/
noncomputable def sXRaise (n : Nat) (C : Addr) (sp : Sp) (E E' : XK) (t : TA) : TS := fun D σ H => t σ H fun vs H1 => vs.length ≤ sizeLine ∧ ∀ x, n ≤ x → H1 x = none → sp (.ref x :: vs) (upd H1 x (NO x C none)) (fun v H2 => v = .non ∧ ∃ a dx, V.ref x = .ref a ∧ n ≤ a ∧ H2 a = some (NO a C dx) ∧ E' (.ref a) dx (upd H2 a (XO a C dx))) E
theorem ps_xraise (M : XCls X.K C f) (F : FnOk X.prog X.w X.K X.mg X.base CX k f fd ps sp) (hr : Room (k + 1) X.A) (hg : Gl X x) (hm : X.mg x = some (.ref C)) (hb : Binds X.K fd ps []) (hx : Passes CX X E) (hc : Catches X E') (hcm : X.calm = true) (ha : PA X (e :: es) t) (hdb : (x == ("__debug__" : Str)) = false := by decide)
    (he : starEach (e :: es) X.env = (false, eval e X.env) :: starEach es X.env := by rfl) (hpl : (backTo cpos (starEach es X.env)).any (·.1) = false := by rfl) : PS X (.Raise (some (.Call (.Name x p) (e :: es) [] cpos)) none pos) (sXRaise X.s₀.heap.objs.size C sp E E' t) := by
  intro pins s σ H D I h
  have M' := M
  obtain ⟨nm, q, N, bs, bm, hdct, sn, sub, ab, col, dd, k0, k1, k2, k3, k5, newId, Bn, inN, bmN, B, nid, initId, bmB, lk, Fn, hBn, FB, hbase, hK⟩ := M.ex
  rw [arm_exec_Raise]
  simp only [evalOpt, Option.map]
  refine wpAny_bind (wpAny_standAt (raiseStmt_any (C := C) (nm := nm) (q := q) (N := N) (bs := bs) (bm := bm) (hdct := hdct) (sn := sn) (sub := sub) (ab := ab) (col := col) (dd := dd) (k0 := k0) (k1 := k1) (k2 := k2) (k3 := k3) (k5 := k5) (newId := newId) hbase (I.ok.hd hcm) ?_))
  refine wpAny_bind (wpAny_mono (Q := EP X pins σ fun v H2 => ∃ a dx, v = .ref a ∧ X.s₀.heap.objs.size ≤ a ∧ H2 a = some (NO a C dx) ∧ E' (.ref a) dx (upd H2 a (XO a C dx))) ?_ (fun v s₃ h₃ => wpAny_bind (wpAny_standAt (wpAny_pure ?_))) fun _ _ x => x)
  · refine wpAny_Call_Name_kw (ld_glob I hg hm ?_ hdb)
    refine PySem.W.callWith_K (h₀ := X.base) I.ok.mod.kin M.kp (thn (ha cpos pins s σ H _ I h) fun us s1 ⟨vs, H1, I1, r, hl, q⟩ => ⟨I1.kIn, ?_⟩) he hpl
    exact run_xmake M' F hr hb hx I1 r hl fun a ha => q a (Nat.le_trans I1.sz ha) (I1.hok.fresh ha)
  · obtain ⟨v', H2, I2, rv, a, dx, ev, ha, hx2, hw⟩ := h₃
    subst ev
    obtain rfl : v = Value.ref a := rv
    obtain ⟨⟨t0, hx0⟩, _⟩ := I2.hok a _ hx2
    exact ⟨a, t0, dx, rfl, I2.kIn _ _ lk, hx0, hc pins σ _ s₃ a C dx none (retrack I2 hx2) ⟨t0, hx0⟩ ha (fun T hT => by cases hT) upd_same (fun T hT => by cases hT) hw⟩
end
end DX
set_option Elab.async false
set_option linter.all false
set_option maxRecDepth 100000
set_option maxHeartbeats 4000000
namespace DX
open PySem PySem.Spec PyProof.Rows L2
/-- what an exception's own `__init__` promises -/
noncomputable def spInit (C : Addr) (f : Str) : Sp := fun vs H Q _ => ∃ e y, vs = [.ref e, y] ∧ H e = some (NO e C none) ∧ ∀ d, H d = none → Q .non (upd (upd H e (NO e C (some d))) d (.xd [(f, y)]))
/-- its body, read -/
theorem init_read {C : Addr} {f : Str} {msg : Str} {K : PySem.W.Frag} {bm : List Value} {nm q : Str} {N : Addr} {bs : List Value} {hdct : Bool} {sn : List Str} {sub : List Value} {ab : Bool} {col : Option Bool} {dd : Option Addr} {k0 k1 k2 k3 k5 : Option Value} {newId : String}
    (lk : K.lookup C = some (excClassObj nm q C N bs bm hdct sn sub ab col dd k0 k1 k2 k3 k5 newId)) {vs : List V} {H : Hp} {Q : VK} {E : XK} {p : Str} (h : spInit C f vs H Q E) :
    tSeq (tDrop (tInit bm K (tCons (tVar 0) (tCons (tC (.str msg)) tNil)))) (sXFld C (tVar 0) (tVar 1) f) { nx := fun _ H' => Q .non H', rt := Q } (start ["self", p] vs) H := by
  obtain ⟨e, y, rfl, he, hq⟩ := h
  refine ⟨.ref e, rfl, ?_⟩
  refine ⟨e, [.str msg], C, none, nm, q, N, bs, hdct, sn, sub, ab, col, dd, k0, k1, k2, k3, k5, newId, rfl, (by show 1 ≤ sizeLine; decide), he, lk, ?_⟩
  exact ⟨y, rfl, .ref e, rfl, e, rfl, he, hq⟩
end DX
set_option Elab.async false
set_option linter.all false
set_option maxRecDepth 100000
set_option maxHeartbeats 4000000
/-! Defs that may raise: their promise, their calls. -/
namespace DL
open PySem PySem.Spec PyProof.Rows L2 DX
/-- an exception as data: its class by the name that the text gives it -/
noncomputable def XRep (K : PySem.W.Frag) (J : Hp) (x : Exc) (v : Value) (dx : Option Addr) : Prop :=
  ∃ a C vs, v = .ref a ∧ J a = some (XO a C dx) ∧ PySem.W.nsIn K mainGlobals x.cls = some (some (.ref C)) ∧ XF J dx x.ns vs ∧ Reps K J x.ds vs ∧ ∃ P, GX K P ∧ XE K P C
theorem XRep.mono {K : PySem.W.Frag} {J J' : Hp} (e : Same J J') {x : Exc} {v : Value} {dx : Option Addr} (h : XRep K J x v dx) : XRep K J' x v dx := by
  obtain ⟨a, C, vs, h1, h2, h3, h4, h5, h6⟩ := h
  exact ⟨a, C, vs, h1, e _ _ h2, h3, h4.mono e, h5.mono e, h6⟩
theorem XRep.rep {K : PySem.W.Frag} {J : Hp} {x : Exc} {v : Value} {dx : Option Addr} (h : XRep K J x v dx) : ∃ a, v = .ref a ∧ Rep K J (.exn x.cls x.ns x.ds) (.ref a) := by
  obtain ⟨a, C, vs, h1, h2, h3, h4, h5, h6⟩ := h
  exact ⟨a, h1, .exn h2 h3 h4 h5 h6⟩
/-- what is wanted of an exception, by a wish E, from an entry on -/
noncomputable def XW (K : PySem.W.Frag) (J H : Hp) (E : XK) (x : Exc) : Prop := ∀ v dx J' H', Ext J H J' H' → XRep K J' x v dx → E v dx H'
/-- what a def promises: F upon the arguments, an exception too -/
noncomputable def spX (K : PySem.W.Frag) (n : Nat) (F : List S → M R) : Sp := fun vs H Q E => ∃ J as, Same J H ∧ as.length = n ∧ ARep K J H as vs ∧ wpM (F as) (fun r => ∀ v J' H', Ext J H J' H' → FR K H J' H' r v → Q v H') (XW K J H E)
theorem Fun.okX {P : Program} {w : World} {K : PySem.W.Frag} {mg : Str → Option Value} {base : Heap} {x qual : Str} {st : Stmt} {f : Addr} {fd : FuncData} {N ps : List Str} {k : Nat} {sp : Sp} (F : Fun K x qual st f fd) (S : FnScope N ps (defScope st)) (len : ∀ vs H Q E, sp vs H Q E → vs.length = ps.length)
    (hbody : ∀ (cdv : Value) (A : Around) (outer : List Env) (s : Shared) (H : Hp) (vs : List V) (Q : VK) (E : XK), Room k (A.deeper (envOfC qual (defScope st) s.heap.objs.size f cdv)) → sp vs H Q E →
      ∃ t, PSs (cxOf (CXX P w) P w K mg base N qual (defScope st) f cdv A outer s H E) (defBody st) t ∧ t { nx := fun _ H' => Q .non H', rt := Q } (start N vs) H) : FnOk P w K mg base (CXX P w) (k + 1) f fd ps sp := by
  obtain ⟨oc, od, kV, doc, pm, an, cdv, ct, osl, rfl, lk, hcd⟩ := F.ex
  exact fn_of lk hcd S len fun A outer s H vs Q E hr hsp => hbody cdv A outer s H vs Q E hr hsp
noncomputable abbrev cxX (P : Program) (w : World) (K : PySem.W.Frag) (mg : Str → Option Value) (base : Heap) (N : List Str) (qual : Str) (sc : Scope) (f : Addr) (cd : Value) (A : Around) (outer : List Env) (s : Shared) (H : Hp) (E : XK) : Cx := cxOf (CXX P w) P w K mg base N qual sc f cd A outer s H E
theorem fn_okX {P : Program} {w : World} {K : PySem.W.Frag} {mg : Str → Option Value} {base : Heap} {x qual : Str} {st : Stmt} {f : Addr} {fd : FuncData} {N ps : List Str} {k : Nat} {Fm : List S → M R} (F : Fun K x qual st f fd) (Sc : FnScope N ps (defScope st)) {gB : G O}
    (hb : ∀ (cdv : Value) (A : Around) (outer : List Env) (s : Shared) (H : Hp) (E : XK) (J : Hp), Room k (A.deeper (envOfC qual (defScope st) s.heap.objs.size f cdv)) → PDs (cxX P w K mg base N qual (defScope st) f cdv A outer s H E) ⟨K, H, J, XW K J H E⟩ (defBody st) gB)
    (hF : ∀ as, as.length = ps.length → Fm as ≠ .bad → fin (gB (startE N as)) = Fm as) : FnOk P w K mg base (CXX P w) (k + 1) f fd ps (spX K ps.length Fm) := by
  refine Fun.okX F Sc (fun vs H Q E ⟨J, as, h1, h2, h3, h4⟩ => by rw [h3.length, h2]) (fun cdv A outer s H vs Q E hr ⟨J, as, h1, h2, h3, h4⟩ => ?_)
  refine ⟨_, hb cdv A outer s H E J hr, J, startE N as, sr_start h1 h3, ?_⟩
  have z := hF as h2 (fun q => by rw [q] at h4; exact h4)
  rw [← z] at h4
  have ext : ∀ {J' H' : Hp}, HI ⟨K, H, J, XW K J H E⟩ J' H' → Ext J H J' H' := fun hp => ⟨hp.ent, hp.entJ, hp.sub, hp.frz⟩
  cases qg : gB (startE N as) with
  | bad => rw [qg] at h4; exact h4
  | exc x => rw [qg] at h4; exact h4
  | ok o =>
    rw [qg] at h4
    cases o with
    | bk _ => exact h4.elim
    | ct _ => exact h4.elim
    | nx env => exact fun σ' J' H' _ sr => h4 .non J' H' (ext sr.hp) .non
    | rt r => exact fun v J' H' _ hp rf => h4 v J' H' (ext hp) (by
        cases r with
        | d x => exact rf
        | l m xs => exact rf)
/-- a def's context wants of exceptions what its entry promised -/
noncomputable def XOk (X : Cx) (c : C) : Prop := ∃ E, Catches X E ∧ ∀ x, c.T x → XW c.K c.J0 c.H0 E x
theorem xok_cx {P : Program} {w : World} {K : PySem.W.Frag} {mg : Str → Option Value} {base : Heap} {N : List Str} {qual : Str} {sc : Scope} {f : Addr} {cd : Value} {A : Around} {outer : List Env} {s : Shared} {H J : Hp} {E : XK} : XOk (cxX P w K mg base N qual sc f cd A outer s H E) ⟨K, H, J, XW K J H E⟩ :=
  ⟨E, catches_cx, fun _ h => h⟩
theorem HI.since {c : C} {J H : Hp} (h : HI c J H) : Ext c.J0 c.H0 J H := ⟨h.ent, h.entJ, h.sub, h.frz⟩
noncomputable def gCallX (n : Nat) (F : List S → M R) : List R → M R := fun rs => if rs.length = n then (match F (rs.map toA) with
  | .ok r => .ok (frR r)
  | .exc x => .exc x
  | .bad => .bad) else .bad
section
variable {X : Cx} {c : C} {e : Expr} {es : List Expr} {pos : Pos}
theorem pd_callX {k n : Nat} {f : Addr} {fd : FuncData} {ps : List Str} {F : List S → M R} {x : Str} {p : Pos} {gs : G (List R)} (G : FnOk X.prog X.w X.K X.mg X.base (CXX X.prog X.w) k f fd ps (spX X.K n F)) (hx : XOk X c) (hr : Room k X.A) (hm : X.mg x = some (.ref f)) (hk : PySem.W.keepIn X.K (.ref f) = true)
    (hb : Binds X.K fd ps []) (ha : PAr X c (e :: es) gs) (hT : c.K = X.K := by rfl) (hg : Gl X x := by rfl) (hdb : (x == ("__debug__" : Str)) = false := by decide) (he : starEach (e :: es) X.env = (false, eval e X.env) :: starEach es X.env := by rfl)
    (hpl : (backTo pos (starEach es X.env)).any (·.1) = false := by rfl) : PD X c (.Call (.Name x p) (e :: es) [] pos) (gN (gCallX n F) gs) := by
  obtain ⟨E, hc, hE⟩ := hx
  refine peImp (pe_call (E := E) G hr hg hm hk hb .nil hc.passes ha hdb he hpl) fun σ H Q ⟨J, env, sr, w⟩ => ?_
  refine ⟨J, env, sr, wpM_mono (wpM_bind w) fun rs wr vs J1 H1 e1 r1 => ?_⟩
  unfold gCallX at wr
  split at wr
  · rename_i hl
    have h1 := sr.hp.ext e1
    have ar := r1.args h1
    rw [hT] at ar
    refine ⟨J1, rs.map toA, e1.sub, by simpa using hl, by rw [List.append_nil]; exact ar, ?_⟩
    cases q : F (rs.map toA) with
    | bad => rw [q] at wr; exact wr
    | exc x =>
      rw [q] at wr
      exact fun v dx J' H' e2 xr => hE x wr v dx J' H' (h1.ext e2).since (hT ▸ xr)
    | ok r =>
      rw [q] at wr
      intro v J' H' e2 fr
      refine wr v J' H' (e1.trans e2) ?_
      cases r with
      | d y => exact (show Rep c.K J' y v from hT ▸ fr)
      | l m ys =>
        obtain ⟨a, us, h1, h2, h3, h4, h5⟩ := fr
        exact ⟨a, us, h1, h2, h3, e1.h.free h4, hT ▸ h5⟩
  · exact wr.elim
end
end DL
set_option Elab.async false
set_option linter.all false
set_option maxRecDepth 100000
set_option maxHeartbeats 4000000
/-! raise C(e), upon data. -/
namespace DL
open PySem PySem.Spec PyProof.Rows L2 DX
noncomputable def gRaise (cls fld : Str) (gs : G (List D)) : G O := fun env => gs env >>= fun ds => match ds with
  | [d] => .exc ⟨cls, [fld], [d]⟩
  | _ => .bad
section
variable {X : Cx} {c : C} {k : Nat} {f Ca : Addr} {fd : FuncData} {ps : List Str} {x fld : Str} {p cpos pos : Pos} {e : Expr} {es : List Expr} {gs : G (List D)}
theorem pd1_raise (M : XCls X.K Ca f) (F : FnOk X.prog X.w X.K X.mg X.base CX0 k f fd ps (spInit Ca fld)) (hr : Room (k + 1) X.A) (hg : Gl X x) (hm : X.mg x = some (.ref Ca)) (hns : PySem.W.nsIn c.K mainGlobals x = some (some (.ref Ca))) (hxe : ∃ P, GX c.K P ∧ XE c.K P Ca) (hb : Binds X.K fd ps []) (hx : XOk X c) (hcm : X.calm = true) (ha : PAd X c (e :: es) gs) (hdb : (x == ("__debug__" : Str)) = false := by decide)
    (he : starEach (e :: es) X.env = (false, eval e X.env) :: starEach es X.env := by rfl) (hpl : (backTo cpos (starEach es X.env)).any (·.1) = false := by rfl) : PD1 X c (.Raise (some (.Call (.Name x p) (e :: es) [] cpos)) none pos) (gRaise x fld gs) := by
  obtain ⟨E', hc, hE⟩ := hx
  refine psImp (ps_xraise (E := E0) M F hr hg hm hb pass0 hc hcm ha hdb he hpl) fun D0 σ H ⟨J, env, sr, w⟩ => ?_
  refine ⟨J, env, sr, wpM_mono (wpM_bind w) fun ds wr vs J1 H1 e1 rs => ?_⟩
  match ds, wr, rs with
  | [], wr, _ => exact wr.elim
  | _ :: _ :: _, wr, _ => exact wr.elim
  | [d0], wr, rs =>
    have wr : c.T ⟨x, [fld], [d0]⟩ := wr
    cases rs with
    | cons r0 rn =>
      cases rn
      rename_i v
      refine ⟨by show 1 ≤ sizeLine; decide, fun a han hn => ⟨a, v, rfl, upd_same, fun dd hd => ?_⟩⟩
      have da : dd ≠ a := fun z => by rw [z, upd_same] at hd; cases hd
      have hd1 : H1 dd = none := by rw [upd_ne da] at hd; exact hd
      have hp := sr.hp.ext e1
      have ja : J1 a = none := by
        cases q : J1 a with
        | none => rfl
        | some o => rw [hp.sub a o q] at hn; cases hn
      have jd : J1 dd = none := by
        cases q : J1 dd with
        | none => rfl
        | some o => rw [hp.sub dd o q] at hd1; cases hd1
      refine ⟨rfl, a, some dd, rfl, han, by rw [upd_ne (Ne.symm da), upd_same], ?_⟩
      have old : ∀ b, H1 b ≠ none → b ≠ a ∧ b ≠ dd := fun b hb => ⟨fun z => hb (z ▸ hn), fun z => hb (z ▸ hd1)⟩
      refine hE _ wr (.ref a) (some dd) (upd (upd J1 a (XO a Ca (some dd))) dd (.xd [(fld, v)])) _ (hp.since.trans ⟨fun b o hb => ?_, fun b o hb => ?_, fun b o hb => ?_, fun b hb hj => ?_⟩) ⟨a, Ca, [v], rfl, by rw [upd_ne (Ne.symm da), upd_same], hns, .inr ⟨dd, rfl, rfl, upd_same⟩, .cons (r0.mono fun b o hb => ?_) .nil, hxe⟩
      · obtain ⟨n1, n2⟩ := old b (by rw [hb]; intro z; cases z)
        rw [upd_ne n1, upd_ne n2, upd_ne n1, upd_ne n1]
        exact hb
      · have n1 : b ≠ a := fun z => by rw [z, ja] at hb; cases hb
        have n2 : b ≠ dd := fun z => by rw [z, jd] at hb; cases hb
        rw [upd_ne n2, upd_ne n1]
        exact hb
      · by_cases z1 : b = dd
        · subst z1
          rw [upd_same] at hb
          rw [upd_ne da, upd_same]
          exact hb
        · rw [upd_ne z1] at hb
          by_cases z2 : b = a
          · subst z2
            rw [upd_same] at hb
            rw [upd_same]
            exact hb
          · rw [upd_ne z2] at hb
            rw [upd_ne z2, upd_ne z1, upd_ne z2, upd_ne z2]
            exact hp.sub b o hb
      · obtain ⟨n1, n2⟩ := old b hb
        rw [upd_ne n2, upd_ne n1]
        exact hj
      · have n1 : b ≠ a := fun z => by rw [z, ja] at hb; cases hb
        have n2 : b ≠ dd := fun z => by rw [z, jd] at hb; cases hb
        rw [upd_ne n2, upd_ne n1]
        exact hb
end
end DL
set_option Elab.async false
set_option linter.all false
set_option maxRecDepth 100000
set_option maxHeartbeats 4000000
namespace DX
open PySem PySem.Spec PyProof.Rows L2
/-- the catching frame is noted: it stands as it stood -/
theorem note_inv {X : Cx} {pins : List (Addr × Obj)} {σ : L2.St} {H : Hp} {s : Shared} {e C : Addr} {dx To : Option Addr} {Q : Unit → Shared → Prop} {E : Value → Shared → Prop} (hst : X.stack = X.env :: X.outer) (hf : X.env.frame = some X.env.locals) (I : L2.Inv X pins σ H s) (fl : Fl e C dx To s.heap) (ap : ∀ T ∈ To.toList, Apart X pins T) (fr : ∀ T ∈ To.toList, H T = none)
    (trk : H e = some (XO e C dx)) (h : ∀ h' T', L2.Inv X pins σ H { s with heap := h' } → Fly e C dx T' h' → s.heap.objs.size ≤ T' → Q () { s with heap := h' }) : wpAny (model X.prog X.w) X.A (noteFrame (.ref e) X.env) (fun _ s' => wpAny (model X.prog X.w) X.A (setFlight (.ref e) none) Q E s') E s := by
  have fs := I.ok.frames
  have sk := I.stack
  have sf := I.stkFree
  rw [hst] at fs sk sf
  refine note_any fs sk hf fl fun h' T' lf t0 fy => h h' T' ?_ fy t0
  have ne : ∀ b, H b = none → b ≠ e := fun b n z => by rw [z, trk] at n; cases n
  refine I.call' (ch := To.toList) rfl ⟨fun b o hb hn hfs hx => ?_, fun b o hb hn _ hx => ?_, fun _ _ _ n _ => n, fun b o hb hx => ?_, fun _ _ q => q, fun _ _ _ q => q, fun _ ps q => ⟨#[], by rw [q]; simp⟩⟩ (fun a o ha => ?_) I.bare ap
  · rw [hst] at hfs
    exact lf.keep b o hb (fun z => (List.mem_cons.mp z).elim (ne b hn) hx) hfs
  · exact lf.slot b o hb fun z => (List.mem_cons.mp z).elim (ne b hn) hx
  · by_cases z : b = e
    · obtain ⟨oe, _, q, _⟩ := fy.is
      exact ⟨oe, z ▸ q⟩
    · obtain ⟨sl, q⟩ := lf.slot b o hb fun y => (List.mem_cons.mp y).elim z hx
      exact ⟨_, q⟩
  · by_cases z : a = e
    · subst z
      rw [trk] at ha
      obtain rfl := Option.some.inj ha
      exact isx_ok fy.is
    · refine (I.hok a o ha).stay (fun b u hb q => ?_) (fun _ q => q) fun _ _ q => q
      have tr : H b ≠ none := by
        rcases hb with rfl | hb
        · rw [ha]; intro z; cases z
        · rw [hb]; intro z; cases z
      refine lf.keep b u q (fun hm => ?_) fun hm => tr (sf b hm)
      rcases List.mem_cons.mp hm with y | y
      · rcases hb with rfl | hb
        · exact z y
        · rw [y, trk] at hb; cases hb
      · exact tr (fr b y)
end DX
set_option Elab.async false
set_option linter.all false
set_option maxRecDepth 100000
set_option maxHeartbeats 4000000
namespace DX
open PySem PySem.Spec PyProof.Rows L2
section
variable {M : Model} {A : Around} {E : Value → Shared → Prop} {h : Heap} {g : Array GenState} {d : Drawn} {t : Nat} {os : OsState}
variable {nm q nb qb : Str} {C N Cb Nb e : Addr} {bs bm bsb bmb : List Value} {hdct hdctb : Bool} {sn snb : List Str} {sub subb : List Value} {ab abb : Bool} {col colb : Option Bool} {dd ddb : Option Addr} {k0 k1 k2 k3 k5 j0 j1 j2 j3 j5 : Option Value} {newId newIdb : String}
/-- the handler names a class above the exception's -/
theorem matches_above {oe : Obj} {Q : Bool → Shared → Prop} (hC : h.get? C = some (excClassObj nm q C N bs bm hdct sn sub ab col dd k0 k1 k2 k3 k5 newId)) (hB : h.get? Cb = some (excClassObj nb qb Cb Nb bsb bmb hdctb snb subb abb colb ddb j0 j1 j2 j3 j5 newIdb)) (he : h.get? e = some oe) (hc : oe.cls = .ref C) (hbase : bmb.contains (.type "BaseException") = true) (hin : bm.contains (.ref Cb) = true)
    (hq : Q true ⟨h, g, d, t, os⟩) : wpAny M A (excMatches (.ref e) (.ref Cb)) Q E ⟨h, g, d, t, os⟩ := by
  have a1 : (Value.ref Cb :: bmb).contains (.type "BaseException") = true := by simp only [List.contains_cons, hbase, Bool.or_true]
  have a2 : (Value.ref C :: bm).contains (.ref Cb) = true := by simp only [List.contains_cons, hin, Bool.or_true]
  have f := tc_notTuple
  unfold excMatches
  repeat (first | (with_reducible refine wpAny_loadPart_at he ?_; rw [hc]) | with_reducible refine wpAny_loadPart_at hB ?_ | (with_reducible refine wpAny_isSubtype_exc hB ?_; rw [a1]) | (with_reducible refine wpAny_isSubtype_exc hC ?_; rw [a2]) | wp_step)
  exact hq
end
/-- the flight's field is written again: nothing else -/
theorem flight_inv {X : Cx} {pins : List (Addr × Obj)} {σ : L2.St} {H : Hp} {s : Shared} {e C T : Addr} {dx : Option Addr} {M : Model} {A : Around} {Q : Unit → Shared → Prop} {E : Value → Shared → Prop} (I : L2.Inv X pins σ H s) (fy : Fly e C dx T s.heap) (ap : Apart X pins T) (ft : H T = none)
    (h : ∀ h', L2.Inv X pins σ H { s with heap := h' } → Fly e C dx T h' → Q () { s with heap := h' }) : wpAny M A (setFlight (.ref e) none) Q E s := by
  obtain ⟨oe, vs, oT, ts, he, hc, hx, hd, h1, hTe, hT, hdT, h3⟩ := fy
  unfold setFlight
  refine wpAny_bind (wpAny_field he hd h1 ?_)
  rw [if_pos (show (Value.ref T != Value.none) = true from by simp)]
  have l3 := (Array.getElem?_eq_some_iff.mp h3).1
  refine wpAny_setField hT hdT l3 (h _ ?_ ?_)
  · have ot : ∀ b, b ≠ T → (s.heap.update T (Obj.mapFields (·.setIfInBounds 3 Value.none))).get? b = s.heap.get? b := fun b hb => Heap.get?_update_other _ _ (Ne.symm hb)
    refine I.call' (ch := [T]) rfl ⟨fun b o hb hn _ hx => ?_, fun b o hb hn _ hx => ⟨o.slots, ?_⟩, fun _ _ _ n _ => n, fun b o hb hx => ⟨o, ?_⟩, fun _ _ q => q, fun _ _ _ q => q, fun _ ps q => ⟨#[], by rw [q]; simp⟩⟩ (fun a o ha => ?_) I.bare (fun b hb => by rw [List.mem_singleton.mp hb]; exact ap)
    · exact (ot b fun z => hx (by simp [z])).trans hb
    · exact (ot b fun z => hx (by simp [z])).trans hb
    · exact (ot b fun z => hx (by simp [z])).trans hb
    · refine (I.hok a o ha).stay (fun b u hb q => ?_) (fun _ q => q) fun _ _ q => q
      refine (ot b fun z => ?_).trans q
      rcases hb with rfl | hb
      · rw [z, ft] at ha; cases ha
      · rw [z, ft] at hb; cases hb
  · exact ⟨oe, vs, _, _, (Heap.get?_update_other _ _ hTe).trans he, hc, hx, hd, h1, hTe, Heap.get?_update_self _ hT (Obj.isFreed_of_fields (Obj.data_mapFields hdT _)), Obj.data_mapFields hdT _, by simp [l3]⟩
end DX
set_option Elab.async false
set_option linter.all false
set_option maxRecDepth 100000
set_option maxHeartbeats 4000000
namespace DX
open PySem PySem.Spec PyProof.Rows L2
/-- the body of a handler: the exception v is being handled -/
noncomputable abbrev mk (X : Cx) (v : Value) (E : Value → Shared → Prop) : Cx := { X with A := X.A.mark (some v), calm := false, xe := E }
theorem mark_inv {X : Cx} {pins : List (Addr × Obj)} {σ : L2.St} {H : Hp} {s : Shared} (I : L2.Inv X pins σ H s) (v : Value) (E : Value → Shared → Prop) : L2.Inv (mk X v E) pins σ H s :=
  ⟨⟨I.ok.mod, I.ok.kind, I.ok.glob, I.ok.blt, I.ok.above, I.ok.inj, I.ok.has, I.ok.cab, (fun z => by cases z), I.ok.frames, I.ok.stk, I.ok.exf, I.ok.bs, I.ok.bsz, I.ok.noex, I.ok.exfs, I.ok.funs, I.ok.frf⟩, I.os, I.bare, I.base, I.loc, I.cell, I.free, I.freeC, I.pin, I.hok, I.len⟩
theorem unmark_inv {X : Cx} {pins : List (Addr × Obj)} {σ σ' : L2.St} {H H' : Hp} {s s' : Shared} {v : Value} {E : Value → Shared → Prop} (I0 : L2.Inv X pins σ' H' s') (I : L2.Inv (mk X v E) pins σ H s) : L2.Inv X pins σ H s :=
  ⟨I0.ok, I.os, I.bare, I.base, I.loc, I.cell, I.free, I.freeC, I.pin, I.hok, I.len⟩
end DX
set_option Elab.async false
set_option linter.all false
set_option maxRecDepth 100000
set_option maxHeartbeats 4000000
/-! try: the body's calls, at the names' values as they stand. -/
namespace DX
open PySem PySem.Spec PyProof.Rows L2
noncomputable def PassesAt (CX : CXT) (X : Cx) (E : XK) (σ : L2.St) : Prop := ∀ (pins : List (Addr × Obj)) (H : Hp) (s : Shared) (e : Value) (s' : Shared), L2.Inv X pins σ H s → CX X.stack H s E e s' → X.xe e s'
noncomputable def CatchesAt (X : Cx) (E : XK) (σ : L2.St) : Prop := ∀ (pins : List (Addr × Obj)) (H' : Hp) (s' : Shared) (e C : Addr) (dx To : Option Addr), L2.Inv X pins σ H' s' → Fl e C dx To s'.heap → X.s₀.heap.objs.size ≤ e → (∀ T ∈ To.toList, X.s₀.heap.objs.size ≤ T ∧ Apart X pins T) →
  H' e = some (XO e C dx) → (∀ T ∈ To.toList, H' T = none) → E (.ref e) dx H' → X.xe (.ref e) s'
theorem CatchesAt.passes {X : Cx} {E : XK} {σ : L2.St} (h : CatchesAt X E σ) : PassesAt (CXX X.prog X.w) X E σ := fun pins H s v s' I ⟨e, C, dx, T, H', ev, f⟩ => by
  subst ev
  have J : L2.Inv X pins σ H' s' := I.call' (ch := []) f.os f.un f.hok f.bare (fun b z => by cases z)
  exact h pins H' s' e C dx (some T) J f.fl (Nat.le_trans I.sz f.newE) (fun U hU => ⟨Nat.le_trans I.sz (f.newT U hU), apart_new I (f.newT U hU)⟩) f.trk f.free f.wish
section
variable {X : Cx} {CX : CXT} {k : Nat} {f : Addr} {fd : FuncData} {ps : List Str} {sp : Sp} {dvs : List V} {ds : List Value} {E : XK} {x : Str} {p pos : Pos} {e : Expr} {es : List Expr} {t : TA}
theorem run_fnT {pins : List (Addr × Obj)} {σ : L2.St} {H : Hp} {s : Shared} {Q : VK} {us : List Value} {vs : List V} (F : FnOk X.prog X.w X.K X.mg X.base CX k f fd ps sp) (hr : Room k X.A) (hb : Binds X.K fd ps ds) (hd : Vals dvs ds) (hx : PassesAt CX X E σ)
    (I : L2.Inv X pins σ H s) (r : Vals vs us) (h : sp (vs ++ dvs) H Q E) : wpAny (model X.prog X.w) X.A (call (.ref f) us) (EP X pins σ Q) X.xe s := by
  have rr : Vals (vs ++ dvs) (us ++ ds) := r.append hd
  have ll : (us ++ ds).length = ps.length := by rw [← rr.length]; exact F.len _ _ _ _ h
  refine wpAny_call (codeAny_mono (F.run X.A X.stack s H ⟨us, []⟩ (us ++ ds) (vs ++ dvs) Q E hr I.env0 (hb s us I.kIn ll) rr h) fun r s1 hq => ?_)
  match r, hq with
  | .error e, hq => exact hx pins H s e s1 I hq
  | .ok (.ret u), hq => exact I.after hq
  | .ok .next, hq => exact False.elim hq
  | .ok .brk, hq => exact False.elim hq
  | .ok .cont, hq => exact False.elim hq
theorem pe_callT (F : FnOk X.prog X.w X.K X.mg X.base CX k f fd ps sp) (hr : Room k X.A) (hg : Gl X x) (hm : X.mg x = some (.ref f)) (hk : PySem.W.keepIn X.K (.ref f) = true) (hb : Binds X.K fd ps ds) (hd : Vals dvs ds)
    (ha : PA X (e :: es) t) (hdb : (x == ("__debug__" : Str)) = false := by decide) (he : starEach (e :: es) X.env = (false, eval e X.env) :: starEach es X.env := by rfl) (hpl : (backTo pos (starEach es X.env)).any (·.1) = false := by rfl) :
    PE X (.Call (.Name x p) (e :: es) [] pos) (fun σ H Q => ∃ E, PassesAt CX X E σ ∧ tCall sp dvs E t σ H Q) := by
  intro pins s σ H Q I ⟨E, hx, h⟩
  refine wpAny_Call_Name_kw (ld_glob I hg hm ?_ hdb)
  exact PySem.W.callWith_K (h₀ := X.base) I.ok.mod.kin hk (thn (ha pos pins s σ H _ I h) fun us s1 ⟨vs, H1, I1, r, q⟩ => ⟨I1.kIn, run_fnT F hr hb hd hx I1 r q⟩) he hpl
end
/-- the body of a try -/
noncomputable abbrev tb (X : Cx) (pn : List (Addr × Obj)) (xe : Value → Shared → Prop) : Cx := { X with pn := pn, xe := xe }
theorem ok_tb {X : Cx} {pn : List (Addr × Obj)} {xe : Value → Shared → Prop} (o : X.Ok) : (tb X pn xe).Ok :=
  ⟨o.mod, o.kind, o.glob, o.blt, o.above, o.inj, o.has, o.cab, o.hd, o.frames, o.stk, o.exf, o.bs, o.bsz, o.noex, o.exfs, o.funs, o.frf⟩
theorem try_in {X : Cx} {pins : List (Addr × Obj)} {σ : L2.St} {H : Hp} {s : Shared} (I : L2.Inv X pins σ H s) (xe : Value → Shared → Prop) : L2.Inv (tb X (X.pn ++ pins) xe) [] σ H s :=
  ⟨ok_tb I.ok, I.os, I.bare, I.base, I.loc, I.cell, I.free, I.freeC, fun p hp => I.pin p (by simpa using hp), I.hok, I.len⟩
theorem try_out {X : Cx} {pins pins' : List (Addr × Obj)} {σ : L2.St} {H : Hp} {s : Shared} {xe : Value → Shared → Prop} (o : X.Ok) (I : L2.Inv (tb X (X.pn ++ pins) xe) pins' σ H s) : L2.Inv X pins σ H s :=
  ⟨o, I.os, I.bare, I.base, I.loc, I.cell, I.free, I.freeC, fun p hp => I.pin p (List.mem_append_left _ hp), I.hok, I.len⟩
theorem sp_out {X : Cx} {pins : List (Addr × Obj)} {D : Ends} {f : Flow} {s : Shared} {xe : Value → Shared → Prop} (o : X.Ok) (h : SP (tb X (X.pn ++ pins) xe) [] D f s) : SP X pins D f s := by
  cases f with
  | next => obtain ⟨σ, H, I, q⟩ := h; exact ⟨σ, H, try_out o I, q⟩
  | brk => obtain ⟨σ, H, I, q⟩ := h; exact ⟨σ, H, try_out o I, q⟩
  | cont => obtain ⟨σ, H, I, q⟩ := h; exact ⟨σ, H, try_out o I, q⟩
  | ret u => obtain ⟨v, σ, H, I, r, q⟩ := h; exact ⟨v, σ, H, try_out o I, r, q⟩
end DX
set_option Elab.async false
set_option linter.all false
set_option maxRecDepth 100000
set_option maxHeartbeats 4000000
/-! try: the handler. -/
namespace DX
open PySem PySem.Spec PyProof.Rows L2
/-- behind the handler its name is gone -/
theorem gone_ok {X : Cx} {pins : List (Addr × Obj)} {σ : L2.St} {H : Hp} {s : Shared} {M : Model} {A : Around} {E : Value → Shared → Prop} {i : Nat} {x : Str} {pos : Pos} {Q : Unit → Shared → Prop} (I : L2.Inv X pins σ H s) (hN : X.N.Nodup) (hi : X.N[i]? = some x) (hk : X.env.scope.names.lookup x = some .local)
    (h : ∀ s', L2.Inv X pins (σ.set i none) H s' → Q () s') : wpAny M A (do bindName X.env x .none; unbindBehindTheSuite X.env x pos) Q E s := by
  obtain ⟨m, hn, hl⟩ := id I.loc
  have cne := I.cne
  refine wpAny_nameGoes_keeps hk hn (by rw [I.ok.kind]; rfl) fun h' v hn' hs => h _ ?_
  obtain ⟨oL, _, _, hoL, _⟩ := id hn
  have hok : HOk X.prog X.w H h' := fun b ob e => by
    refine (I.hok b ob e).stay (fun c w' hc q => (hs.2 c ?_).trans q) (fun _ q => q) fun _ _ q => q
    intro z
    subst z
    have fr := I.free
    rcases hc with z | hc
    · rw [← z] at e; rw [fr] at e; cases e
    · rw [fr] at hc; cases hc
  have old : ∀ b o, X.s₀.heap.get? b = some o → b ≠ X.env.locals := fun b o e => Nat.ne_of_lt (Nat.lt_of_lt_of_le (Heap.lt_size e) I.ok.above)
  refine ⟨I.ok, I.os, I.bare, ⟨fun b o e n hb hx => (hs.2 b (old b o e)).trans (I.base.keep b o e n hb hx), fun b o e n hb hx => ?_, I.base.free, fun b o e hx => ?_, I.base.tups, I.base.frzs, I.base.tbls⟩, ⟨_, hn', fun j y w' e1 e2 e3 => ?_⟩, fun y c e => ?_, I.free, I.freeC, fun p hp => ?_, hok, by simpa using I.len⟩
  · obtain ⟨sl, e1⟩ := I.base.slot b o e n hb hx
    exact ⟨sl, (hs.2 b (old b o e)).trans e1⟩
  · obtain ⟨o', e1⟩ := I.base.there b o e hx
    exact ⟨o', (hs.2 b (old b o e)).trans e1⟩
  · by_cases hj : j = i
    · subst hj
      rw [List.getElem?_set] at e2
      simp at e2
    · rw [List.getElem?_set_ne (Ne.symm hj)] at e2
      obtain ⟨u', r', q⟩ := hl j y w' e1 e2 e3
      refine ⟨u', r', ?_⟩
      rcases q with ⟨k, e⟩ | ⟨k, c, e, z⟩
      · have ny : y ≠ x := fun e => hj (nodup_ix hN e1 (e ▸ hi))
        exact .inl ⟨k, by simp [ny, e]⟩
      · exact .inr ⟨k, c, e, z.sameBut hs (cne y c e)⟩
  · obtain ⟨w', z⟩ := I.cell y c e
    exact ⟨w', z.sameBut hs (cne y c e)⟩
  · obtain ⟨e, n, ne, nf, d⟩ := I.pin p hp
    exact ⟨(hs.2 p.1 ne).trans e, n, ne, nf, d⟩
/-- C is a class of exceptions, and Cb above it -/
structure Below (K : PySem.W.Frag) (C Cb : Addr) : Prop where
  ex : ∃ nm q N bs bm hdct sn sub ab col dd k0 k1 k2 k3 k5 newId nb qb Nb bsb bmb hdctb snb subb abb colb ddb j0 j1 j2 j3 j5 newIdb, K.lookup C = some (excClassObj nm q C N bs bm hdct sn sub ab col dd k0 k1 k2 k3 k5 newId) ∧
    K.lookup Cb = some (excClassObj nb qb Cb Nb bsb bmb hdctb snb subb abb colb ddb j0 j1 j2 j3 j5 newIdb) ∧ bmb.contains (.type "BaseException") = true ∧ bm.contains (.ref Cb) = true
section
variable {X : Cx} {pins : List (Addr × Obj)} {σ : L2.St} {H : Hp} {s : Shared} {e C Cb T : Addr} {dx : Option Addr} {D : Ends} {i j : Nat} {n y B : Str} {p1 p2 p3 pos pos2 : Pos}
/-- except B as n: y = n -/
theorem handle_ok (I : L2.Inv X pins σ H s) (fy : Fly e C dx T s.heap) (ap : Apart X pins T) (ft : H T = none) (hb : Below X.K C Cb) (hg : Gl X B) (hm : X.mg B = some (.ref Cb)) (hdb : (B == ("__debug__" : Str)) = false) (hN : X.N.Nodup) (hi : X.N[i]? = some n) (hj : X.N[j]? = some y)
    (hn : X.env.scope.names.lookup n = some .local) (hy : X.env.scope.names.lookup y = some .local) (hs : swapsWith (.Name n p2) (some (.Name y p1)) pos2.line X.env = pure false) (hd : (n == ("__debug__" : Str)) = false) (hcd : (n == ("__classdict__" : Str)) = false)
    (h : D.nx (((σ.set i (some (.ref e))).set j (some (.ref e))).set i none) H) :
    wpAny (model X.prog X.w) X.A (handleBy (.ref e) X.env [.ExceptHandler (some (.Name B p3)) (some n) [.Assign [.Name y p1] (.Name n p2) pos2] pos]) (SP X pins D) X.xe s := by
  obtain ⟨nm, q, N, bs, bm, hdct, sn, sub, ab, col, dd, k0, k1, k2, k3, k5, newId, nb, qb, Nb, bsb, bmb, hdctb, snb, subb, abb, colb, ddb, j0, j1, j2, j3, j5, newIdb, lC, lB, hbase, hin⟩ := hb.ex
  refine wpAny_handleBy_cons (codeAny_handlers_test ?_) (by intro q; cases q)
  refine ld_glob (X := mk X (.ref e) fun _ _ => False) (mark_inv I _ _) hg hm ?_ hdb
  obtain ⟨oe, vs, oT, ts, he, hc, hrest⟩ := id fy
  have kI := I.kIn
  obtain ⟨hp, gs, dr, tk, os⟩ := s
  refine matches_above (kI _ _ lC) (kI _ _ lB) he hc hbase hin ?_
  show codeAny _ _ _ _ _
  refine codeAny_handlers_suite_as ?_
  refine flight_inv I fy ap ft fun h' I1 fy1 => ?_
  refine store_ok (X := mk X (.ref e) fun _ _ => False) (v := .ref e) (mark_inv I1 _ _) hN hi (.inl hn) rfl (fun s2 I2 => ?_) (.inr hn)
  have st := pss_one (ps_set (X := mk X (.ref e) fun _ _ => False) (pos := pos2) (pos' := p1) hN hj (.inl hy) (pe_var (X := mk X (.ref e) fun _ _ => False) (i := i) (x := n) (pos := p2) hi (.inl hn) hd hcd) hs (.inr hy))
  have hil : i < σ.length := by rw [I.len]; exact (List.getElem?_eq_some_iff.mp hi).1
  refine wpAny_mono (st pins s2 (σ.set i (some (.ref e))) H { nx := fun σ' H' => σ' = (σ.set i (some (.ref e))).set j (some (.ref e)) ∧ H' = H, rt := fun _ _ => False } I2 ⟨.ref e, by simp [hil], rfl, rfl⟩) (fun f s3 h3 => ?_) (fun _ _ z => z.elim)
  cases f with
  | next =>
    obtain ⟨σ', H', I3, rfl, rfl⟩ := h3
    refine gone_ok (X := X) (unmark_inv I I3) hN hi hn fun s4 I4 => ?_
    exact ⟨_, _, I4, h⟩
  | brk => obtain ⟨_, _, _, z⟩ := h3; exact z.elim
  | cont => obtain ⟨_, _, _, z⟩ := h3; exact z.elim
  | ret u => obtain ⟨_, _, _, _, _, z⟩ := h3; exact z.elim
end
end DX
set_option Elab.async false
set_option linter.all false
set_option maxRecDepth 100000
set_option maxHeartbeats 4000000
/-! try, upon data. -/
namespace DL
open PySem PySem.Spec PyProof.Rows L2 DX
noncomputable abbrev C.wT (c : C) (T : Exc → Prop) : C := { c with T := T }
theorem SR.wT {c : C} {J H : Hp} {σ : L2.St} {env : Ev} (h : SR c J H σ env) (T : Exc → Prop) : SR (c.wT T) J H σ env := ⟨⟨h.hp.sub, h.hp.ent, h.hp.entJ, h.hp.frz⟩, h.len, h.at_, h.sep⟩
theorem SR.unT {c : C} {J H : Hp} {σ : L2.St} {env : Ev} {T : Exc → Prop} (h : SR (c.wT T) J H σ env) : SR c J H σ env := ⟨⟨h.hp.sub, h.hp.ent, h.hp.entJ, h.hp.frz⟩, h.len, h.at_, h.sep⟩
theorem HI.unT {c : C} {J H : Hp} {T : Exc → Prop} (h : HI (c.wT T) J H) : HI c J H := ⟨h.sub, h.ent, h.entJ, h.frz⟩
theorem oP.wT {c : C} {J : Hp} {E : Ends} {T : Exc → Prop} : ∀ {o : O}, oP c J E o → oP (c.wT T) J E o
  | .nx _, h => fun σ' J' H' q r => h σ' J' H' q r.unT
  | .rt r, h => fun v J' H' q r1 r2 => h v J' H' q r1.unT (by cases r <;> exact r2)
  | .bk _, h => fun σ' J' H' q r => h σ' J' H' q r.unT
  | .ct _, h => fun σ' J' H' q r => h σ' J' H' q r.unT
/-- the body of a try, as it begins -/
noncomputable def TBd (c : C) (g : G O) (σ0 : L2.St) (Jt Ht : Hp) (T : Exc → Prop) : TS := fun D σ H => σ = σ0 ∧ ∃ J env, Ext Jt Ht J H ∧ SR (c.wT T) J H σ env ∧ wpM (g env) (oP (c.wT T) J D) T
noncomputable def TBe (c : C) (g : G R) (σ0 : L2.St) (Jt Ht : Hp) (T : Exc → Prop) : TE := fun σ H Q => σ = σ0 ∧ ∃ J env, Ext Jt Ht J H ∧ SR (c.wT T) J H σ env ∧ wpM (g env) (fun r => ∀ v J' H', Ext J H J' H' → RR (c.wT T) H J' H' r v → Q v H') T
structure QTry (X : Cx) (c : C) (sts : List Stmt) (g : G O) : Prop where
  h : ∀ (pn : List (Addr × Obj)) (xe : Value → Shared → Prop) (T : Exc → Prop) (σ0 : L2.St) (E : XK) (Jt Ht : Hp), PassesAt (CXX X.prog X.w) (tb X pn xe) E σ0 → (∀ x J H, T x → Ext Jt Ht J H → XW c.K J H E x) → PSs (tb X pn xe) sts (TBd c g σ0 Jt Ht T)
structure QTry1 (X : Cx) (c : C) (st : Stmt) (g : G O) : Prop where
  h : ∀ (pn : List (Addr × Obj)) (xe : Value → Shared → Prop) (T : Exc → Prop) (σ0 : L2.St) (E : XK) (Jt Ht : Hp), PassesAt (CXX X.prog X.w) (tb X pn xe) E σ0 → (∀ x J H, T x → Ext Jt Ht J H → XW c.K J H E x) → PS (tb X pn xe) st (TBd c g σ0 Jt Ht T)
structure QTryE (X : Cx) (c : C) (e : Expr) (g : G R) : Prop where
  h : ∀ (pn : List (Addr × Obj)) (xe : Value → Shared → Prop) (T : Exc → Prop) (σ0 : L2.St) (E : XK) (Jt Ht : Hp), PassesAt (CXX X.prog X.w) (tb X pn xe) E σ0 → (∀ x J H, T x → Ext Jt Ht J H → XW c.K J H E x) → PE (tb X pn xe) e (TBe c g σ0 Jt Ht T)
section
variable {X : Cx} {c : C} {e : Expr} {es : List Expr} {pos : Pos} {g : G R}
theorem qtry_one {st : Stmt} {t : G O} (h : QTry1 X c st t) : QTry X c [st] t := ⟨fun pn xe T σ0 E Jt Ht a b => pss_one (h.h pn xe T σ0 E Jt Ht a b)⟩
theorem qtry_set (i : Nat) {x : Str} {pos' : Pos} (hN : X.N.Nodup) (h : QTryE X c e g) (hi : X.N[i]? = some x := by rfl) (hx : Loc X.env.scope x := by first | exact Or.inl rfl | exact Or.inr rfl) (hs : swapsWith e (some (.Name x pos')) pos.line X.env = pure false := by rfl)
    (hf : X.fn x = true ∨ X.env.scope.names.lookup x = some .local := by first | exact .inl rfl | exact .inr rfl) : QTry1 X c (.Assign [.Name x pos'] e pos) (gSet i g) :=
  ⟨fun pn xe T σ0 E Jt Ht a b => psImp (ps_set (X := tb X pn xe) hN hi hx (h.h pn xe T σ0 E Jt Ht a b) hs hf) fun D σ H ⟨es, J, env, ex, sr, w⟩ => by
    refine ⟨es, J, env, ex, sr, wpM_mono (wpM_bind w) fun r wr v J1 H1 e1 r1 => ?_⟩
    obtain ⟨x, q, wr⟩ := wpM_toS wr
    exact wr (σ.set i (some v)) J1 H1 e1.j (sr.set e1 r1 q)⟩
theorem qtry_call {k n : Nat} {f : Addr} {fd : FuncData} {ps : List Str} {F : List S → M R} {x : Str} {p : Pos} {gs : G (List R)} (G : FnOk X.prog X.w X.K X.mg X.base (CXX X.prog X.w) k f fd ps (spX X.K n F)) (hr : Room k X.A) (hm : X.mg x = some (.ref f)) (hk : PySem.W.keepIn X.K (.ref f) = true)
    (hb : Binds X.K fd ps []) (ha : ∀ pn xe T, PAr (tb X pn xe) (c.wT T) (e :: es) gs) (hT : c.K = X.K := by rfl) (hg : Gl X x := by rfl) (hdb : (x == ("__debug__" : Str)) = false := by decide) (he : starEach (e :: es) X.env = (false, eval e X.env) :: starEach es X.env := by rfl)
    (hpl : (backTo pos (starEach es X.env)).any (·.1) = false := by rfl) : QTryE X c (.Call (.Name x p) (e :: es) [] pos) (gN (gCallX n F) gs) := ⟨fun pn xe T σ0 E Jt Ht hp hE => by
  refine peImp (pe_callT (X := tb X pn xe) (CX := CXX X.prog X.w) G hr hg hm hk hb .nil (ha pn xe T) hdb he hpl) fun σ H Q ⟨es, J, env, ex, sr, w⟩ => ?_
  subst es
  refine ⟨E, hp, J, env, sr, wpM_mono (wpM_bind w) fun rs wr vs J1 H1 e1 r1 => ?_⟩
  unfold gCallX at wr
  split at wr
  · rename_i hl
    have h1 := sr.hp.ext e1
    have ar := r1.args h1
    have ar : ARep c.K J1 H1 (rs.map toA) vs := ar
    rw [hT] at ar
    refine ⟨J1, rs.map toA, e1.sub, by simpa using hl, by rw [List.append_nil]; exact ar, ?_⟩
    cases q : F (rs.map toA) with
    | bad => rw [q] at wr; exact wr
    | exc x => rw [q] at wr; exact hT ▸ hE x J1 H1 wr (ex.trans e1)
    | ok r =>
      rw [q] at wr
      intro v J' H' e2 fr
      refine wr v J' H' (e1.trans e2) ?_
      cases r with
      | d y => exact (show Rep c.K J' y v from hT ▸ fr)
      | l m ys =>
        obtain ⟨a, us, h1, h2, h3, h4, h5⟩ := fr
        exact ⟨a, us, h1, h2, h3, e1.h.free h4, hT ▸ h5⟩
  · exact wr.elim⟩
/-- except B as n: y = n; L: the names of the classes below B -/
noncomputable def gTry (i j : Nat) (L : List Str) (g : G O) : G O := fun env => match g env with
  | .exc x => if L.contains x.cls = true then .ok (.nx ((env.set j (some (.d (.exn x.cls x.ns x.ds)))).set i none)) else .bad
  | .ok o => .ok o
  | .bad => .bad
theorem SR.caught {J H : Hp} {σ : L2.St} {env : Ev} (sr : SR c J H σ env) {i j : Nat} (hij : i ≠ j) {d : D} {v u : V} (r : Rep c.K J d v) : SR c J H (((σ.set i (some u)).set j (some v)).set i none) ((env.set j (some (.d d))).set i none) := by
  refine ⟨sr.hp, by simpa using sr.len, fun k x q => ?_, fun k l xs ys w hkl q1 q2 q3 q4 => ?_⟩
  · by_cases ki : k = i
    · subst ki
      rw [List.getElem?_set] at q
      simp at q
    · rw [List.getElem?_set_ne (Ne.symm ki)] at q ⊢
      rcases set_at q with ⟨rfl, hl, rfl⟩ | ⟨kj, q⟩
      · exact ⟨v, by rw [List.getElem?_set_self (by simpa using sr.len ▸ hl)], r⟩
      · obtain ⟨w, h1, h2⟩ := sr.at_ k x q
        exact ⟨w, by rw [List.getElem?_set_ne (Ne.symm kj), List.getElem?_set_ne (Ne.symm ki)]; exact h1, h2⟩
  · have f : ∀ (k : Nat) (ys : List D), ((env.set j (some (.d d))).set i none)[k]? = some (some (.own ys)) → k ≠ i ∧ k ≠ j ∧ env[k]? = some (some (.own ys)) := fun k ys q => by
      by_cases ki : k = i
      · subst ki
        rw [List.getElem?_set] at q
        simp at q
      · rw [List.getElem?_set_ne (Ne.symm ki)] at q
        rcases set_at q with ⟨rfl, hl, z⟩ | ⟨kj, q⟩
        · cases z
        · exact ⟨ki, kj, q⟩
    obtain ⟨a1, a2, a3⟩ := f k xs q1
    obtain ⟨b1, b2, b3⟩ := f l ys q2
    rw [List.getElem?_set_ne (Ne.symm a1), List.getElem?_set_ne (Ne.symm a2), List.getElem?_set_ne (Ne.symm a1)] at q3
    rw [List.getElem?_set_ne (Ne.symm b1), List.getElem?_set_ne (Ne.symm b2), List.getElem?_set_ne (Ne.symm b1)] at q4
    exact sr.sep k l xs ys w hkl a3 b3 q3 q4
theorem pd1_try {i j : Nat} {n y B : Str} {L : List Str} {body : List Stmt} {t : G O} {p1 p2 p3 pos2 hpos : Pos} {Cb : Addr} (hb : QTry X c body t) (hbl : ∀ cls ∈ L, ∀ C, PySem.W.nsIn c.K mainGlobals cls = some (some (.ref C)) → Below X.K C Cb) (hm : X.mg B = some (.ref Cb)) (hN : X.N.Nodup)
    (hst : X.stack = X.env :: X.outer) (hfr : X.env.frame = some X.env.locals) (hg : Gl X B := by rfl) (hi : X.N[i]? = some n := by rfl) (hj : X.N[j]? = some y := by rfl) (hij : i ≠ j := by decide) (hn : X.env.scope.names.lookup n = some .local := by rfl) (hy : X.env.scope.names.lookup y = some .local := by rfl)
    (hs : swapsWith (.Name n p2) (some (.Name y p1)) pos2.line X.env = pure false := by rfl) (hdb : (B == ("__debug__" : Str)) = false := by decide) (hd : (n == ("__debug__" : Str)) = false := by decide) (hcd : (n == ("__classdict__" : Str)) = false := by decide) :
    PD1 X c (.Try body [.ExceptHandler (some (.Name B p3)) (some n) [.Assign [.Name y p1] (.Name n p2) pos2] hpos] [] [] pos) (gTry i j L t) := by
  intro pins s σ H D I ⟨J, env, sr, w⟩
  refine wpAny_Try_except ?_
  have key : ∀ (T : Exc → Prop), (∀ x, T x → L.contains x.cls = true ∧ oP c J D (.nx ((env.set j (some (.d (.exn x.cls x.ns x.ds)))).set i none))) → wpM (t env) (oP c J D) T →
      wpAny (model X.prog X.w) X.A (execs body X.env) (fun f s₁ => match f with | .next => wpAny (model X.prog X.w) X.A (execs [] X.env) (SP X pins D) X.xe s₁ | f => SP X pins D f s₁)
        (fun e s₁ => wpAny (model X.prog X.w) X.A (noteFrame e X.env) (fun _ s₂ => wpAny (model X.prog X.w) X.A (setFlight e none) (fun _ s₃ => wpAny (model X.prog X.w) X.A (handleBy e X.env [.ExceptHandler (some (.Name B p3)) (some n) [.Assign [.Name y p1] (.Name n p2) pos2] hpos]) (SP X pins D) X.xe s₃) X.xe s₂) X.xe s₁) s := by
    intro T hT wt
    let xe : Value → Shared → Prop := fun e s₁ => wpAny (model X.prog X.w) X.A (noteFrame e X.env) (fun _ s₂ => wpAny (model X.prog X.w) X.A (setFlight e none) (fun _ s₃ => wpAny (model X.prog X.w) X.A (handleBy e X.env [.ExceptHandler (some (.Name B p3)) (some n) [.Assign [.Name y p1] (.Name n p2) pos2] hpos]) (SP X pins D) X.xe s₃) X.xe s₂) X.xe s₁
    let E : XK := fun v dx H' => ∃ x J', T x ∧ Ext J H J' H' ∧ XRep c.K J' x v dx
    have ca : CatchesAt (tb X (X.pn ++ pins) xe) E σ := fun pins' H' s' e C dx To I' fl nw ap trk fr ⟨x, J', hx, ex, a, C', vs, ev, ha, hns, xf, rs, hxe⟩ => by
      cases ev
      have I2 := try_out I.ok I'
      have e1 : XO e C dx = XO e C' dx := by
        have := ex.sub _ _ ha
        rw [trk] at this
        exact Option.some.inj this
      have ap2 : ∀ T ∈ To.toList, Apart X pins T := fun T hT => ⟨(ap T hT).2.1, (ap T hT).2.2.1, (ap T hT).2.2.2.1, fun p hp => (ap T hT).2.2.2.2 p (List.mem_append_left _ hp)⟩
      refine note_inv hst hfr I2 fl ap2 fr trk fun h' T' I3 fy t0 => ?_
      -- the class
      have isx : IsExc e C' dx h' := by
        have z := fy.is
        have e2 : IsExc e C dx = IsExc e C' dx := HO.ext.inj e1
        rw [e2] at z
        exact z
      have cc : C = C' := by
        obtain ⟨oe, _, q1, q2, _⟩ := isx
        obtain ⟨oe', _, q1', q2', _⟩ := fy.is
        rw [q1] at q1'
        cases q1'
        rw [q2] at q2'
        cases q2'
        rfl
      subst cc
      obtain ⟨hL, hw⟩ := hT x hx
      have hbw := hbl x.cls (List.contains_iff_mem.mp hL) C hns
      refine handle_ok (i := i) (j := j) I3 fy (apart_new I2 t0) (I2.hok.fresh t0) hbw hg hm hdb hN hi hj hn hy hs hd hcd ?_
      have rp : Rep c.K J' (.exn x.cls x.ns x.ds) (.ref e) := .exn ha hns xf rs hxe
      exact hw _ J' H' ex.j ((sr.ext ex).caught hij rp)
    have hXW : ∀ x J1 H1, T x → Ext J H J1 H1 → XW c.K J1 H1 E x := fun x J1 H1 hx e1 v dx J2 H2 e2 xr => ⟨x, J2, hx, e1.trans e2, xr⟩
    refine wpAny_mono (hb.h (X.pn ++ pins) xe T σ E J H ca.passes hXW [] s σ H D (try_in I xe) ⟨rfl, J, env, Ext.refl sr.hp.sub, sr.wT T, wpM_mono wt fun o q => q.wT⟩) (fun f s1 h1 => ?_) (fun _ _ z => z)
    have h2 := sp_out I.ok h1
    cases f with
    | next => exact (pss_nil pins s1 _ _ D h2.choose_spec.choose_spec.1 h2.choose_spec.choose_spec.2)
    | brk => exact h2
    | cont => exact h2
    | ret u => exact h2
  unfold gTry at w
  cases q : t env with
  | bad => rw [q] at w; exact w.elim
  | ok o =>
    rw [q] at w
    exact key (fun _ => False) (fun x h => h.elim) (by rw [q]; exact w)
  | exc x =>
    rw [q] at w
    by_cases hc : L.contains x.cls = true
    · simp only [hc, if_true] at w
      exact key (fun x' => x' = x) (fun x' h => by subst h; exact ⟨hc, w⟩) (by rw [q]; exact rfl)
    · simp only [hc, if_false] at w
      exact w.elim
end
end DL
set_option Elab.async false
set_option linter.all false
set_option maxRecDepth 100000
set_option maxHeartbeats 4000000
namespace DX
open PySem PySem.Spec PyProof.Rows L2
/-- an exception's own `__init__` of two rows keeps its promise -/
theorem init_ok {P : Program} {w : World} {K : PySem.W.Frag} {mg : Str → Option Value} {base : Heap} {qual : Str} {st : Stmt} {fI : Addr} {fd : FuncData} {k : Nat} {p bname fld msg : Str} {j : Nat} {p1 p2 p3 p4 p5 p6 apos cpos epos pos : Pos} {C Cb N : Addr} {mc : Value} {nm q : Str} {bs bm bmB : List Value} {sn : List Str} {sub : List Value} {ab : Bool} {col : Option Bool} {dd : Option Addr} {k0 k1 k2 k3 k5 : Option Value} {newId B nid initId sa owner : String} {ns : List Str}
    (F : Fun K "__init__" qual st fI fd) (Sc : FnScope ["self", p] ["self", p] (defScope st))
    (hst : defBody st = [.Expr (.Call (.Attribute (.Name bname p1) "__init__" apos) [.Name "self" p2, .Constant (.str msg) j p3] [] cpos) epos, .Assign [.Attribute (.Name "self" p4) fld p5] (.Name p p6) pos])
    (hcall : ∀ env : Env, ∃ pl : Sem Bool, eval (.Call (.Attribute (.Name bname p1) "__init__" apos) [.Name "self" p2, .Constant (.str msg) j p3] [] cpos) env = (do
      let ov ← eval (.Name bname p1) env
      standAt apos.atName
      let (f, first) ← holding [ov] (getMethod ov "__init__" pl)
      callWith cpos f first (backTo cpos (starEach [.Name "self" p2, .Constant (.str msg) j p3] env)) (backToKw cpos (keywordEach [] env))))
    (hgl : ∀ (cdv : Value) (A : Around) (outer : List Env) (s : Shared) (H : Hp) (E : XK), Gl (cxOf CX0 P w K mg base ["self", p] qual (defScope st) fI cdv A outer s H E).nox bname) (hm : mg bname = some (.ref Cb)) (v0 : Vis (defScope st) "self") (v1 : Vis (defScope st) p)
    (FB : ExcBaseFacts B nid initId bmB) (SF : StoreFacts B bmB sa owner) (lk : K.lookup C = some (excClassObj nm q C N bs bm true sn sub ab col dd k0 k1 k2 k3 k5 newId)) (hT : ∀ h, K.In h → Tail h ns bmB bm) (hN : ∀ h, K.In h → ∃ mN, h.Ns N mN ∧ mN "__setattr__" = none ∧ mN fld = none)
    (hi0 : ("__init__" : Str) ∈ ns) (his : ("__setattr__" : Str) ∈ ns) (hin : fld ∈ ns) (hB : typeLookup (.type B) fld = pure none) (hga : PySem.W.specialIn K (.ref Cb) "__getattribute__" = some (some (.builtin "type.__getattribute__"))) (hr : PySem.W.readsIn K Cb mc = true)
    (hf : PySem.W.findCls K (.ref Cb) mc "__init__" = some (.val (.builtin initId))) (hh : PySem.W.handedIn (.builtin initId) = true) (hd1 : (bname == ("__debug__" : Str)) = false) (hd2 : (p == ("__debug__" : Str)) = false) (hd3 : (p == ("__classdict__" : Str)) = false) : FnOk P w K mg base CX0 (k + 1) fI fd ["self", p] (spInit C fld) := by
  refine F.ok Sc (fun vs H Q E ⟨e, y, h, _⟩ => by rw [h]; rfl) fun cdv A outer s H vs Q E hr0 h => ?_
  rw [hst]
  obtain ⟨pl, hc⟩ := hcall (cxOf CX0 P w K mg base ["self", p] qual (defScope st) fI cdv A outer s H E).nox.env
  refine ⟨_, pss_cons (ps_expr (pe_xinit (bm := bm) (pe_glob (v := .ref Cb) (hgl cdv A outer s H E) hm rfl hd1) FB (fun h hk => (hT h hk).old hi0) hga hr hf hh (pa_cons (pe_var (i := 0) rfl v0) (pa_cons pe_str pa_nil)) rfl rfl hc)) (pss_one (ps_xfld (pe_var (i := 0) rfl v0) (pe_var (i := 1) rfl v1 hd2 hd3) SF hT lk hN his hin hB rfl)), init_read lk h⟩
end DX
set_option Elab.async false
set_option linter.all false
set_option maxRecDepth 100000
set_option maxHeartbeats 4000000
namespace DX
open PySem PySem.Spec PyProof.Rows L2
section
variable {K : PySem.W.Frag} {P C : Addr}
theorem below_of (G : GX K P) (X : XE K P C) : Below K C P := by
  obtain ⟨nm, q, N, bs, sn, sub, ab, col, dd, k0, k1, k2, k3, k5, l⟩ := X.lk
  obtain ⟨nm', q', N', bs', sn', sub', ab', col', dd', k0', k1', k2', k3', k5', l', _⟩ := G.lk
  exact ⟨nm, q, N, bs, _, true, sn, sub, ab, col, dd, k0, k1, k2, k3, k5, _, nm', q', N', bs', _, true, sn', sub', ab', col', dd', k0', k1', k2', k3', k5', _, l, l', by decide, by simp⟩
theorem tail_of (G : GX K P) (h : Heap) (X : K.In h) : Tail h quiet vbm (.ref P :: vbm) := by
  obtain ⟨nm, q, N, bs, sn, sub, ab, col, dd, k0, k1, k2, k3, k5, l, hN⟩ := G.lk
  obtain ⟨m, h1, h2⟩ := hN h X
  exact .own (X _ _ l) h1 h2 .base
end
end DX
set_option Elab.async false
set_option linter.all false
set_option maxRecDepth 100000
set_option maxHeartbeats 4000000
/-! A caught exception as a value: isinstance, a field. -/
namespace DL
open PySem PySem.Spec PyProof.Rows L2 DX
/-- isinstance(d, ..): L the names of the classes of exceptions, T which of them are below -/
noncomputable def tX (L : List Str) (T : Str → Bool) : D → Option Bool
  | .exn cls _ _ => if L.contains cls = true then some (T cls) else none
  | _ => some false
section
variable {X : Cx} {c : C} {e a : Expr} {ga g : G R} {pos : Pos} {L : List Str} {T : Str → Bool}
theorem call_isX {cv : Value} {vc : V} (hv : ∀ u, RelV vc u → u = cv) (h0 : ∀ t ∈ ["NoneType", "bool", "int", "str", "tuple", "list", "dict"], PySem.W.kitOne X.K (.type t) cv = some false)
    (hX : ∀ cls ∈ L, ∀ C, PySem.W.nsIn X.K mainGlobals cls = some (some (.ref C)) → ∃ P, GX X.K P ∧ XE X.K P C ∧ PySem.W.kitOne X.K (.ref C) cv = some (T cls)) :
    CallR X (.builtin "isinstance") (fun xs H Q => ∃ d x b, xs = [x, vc] ∧ Rep X.K H d x ∧ tX L T d = some b ∧ Q (.bl b) H) := by
  intro pins s σ H xs us Q I r h
  obtain ⟨d, x, b, rfl, hd, hb, q⟩ := h
  obtain ⟨u, w', rfl, rx, ry⟩ := vals2 r
  cases hv w' ry
  have fin : ∀ tk, EP X pins σ Q (.bool b) { s with toks := tk } := fun tk => ⟨.bl _, H, I.tok tk, rfl, q⟩
  have F := hf_self I
  cases hd with
  | non => cases rx; cases hb; exact PySem.W.kia_one PySem.W.kitx_none I.kIn True.intro (h0 _ (by decide)) (fun z => nomatch z) fin
  | bl y => cases rx; cases hb; exact PySem.W.kia_one PySem.W.kitx_bool I.kIn True.intro (h0 _ (by decide)) (fun z => nomatch z) fin
  | int i => obtain ⟨t, rfl⟩ := rx; cases hb; exact PySem.W.kia_one PySem.W.kitx_int I.kIn True.intro (h0 _ (by decide)) (fun z => nomatch z) fin
  | str y => obtain ⟨t, rfl⟩ := rx; cases hb; exact PySem.W.kia_one PySem.W.kitx_str I.kIn True.intro (h0 _ (by decide)) (fun z => nomatch z) fin
  | tup h hs =>
    cases rx; cases hb
    obtain ⟨its, r, o, h1, h2, _⟩ := F.t _ _ h
    exact PySem.W.kia_one PySem.W.kitx_tuple I.kIn ⟨o, h1, h2⟩ (h0 _ (by decide)) (fun z => nomatch z) fin
  | lst h hs =>
    cases rx; cases hb
    obtain ⟨its, r, o, h1, h2, _⟩ := F.l _ _ h
    exact PySem.W.kia_one PySem.W.kitx_list I.kIn ⟨o, h1, h2⟩ (h0 _ (by decide)) (fun z => nomatch z) fin
  | emp h =>
    cases rx; cases hb
    obtain ⟨o, h1, h2⟩ := F.e _ h
    exact PySem.W.kia_one PySem.W.kitx_dict I.kIn ⟨o, h1, h2⟩ (h0 _ (by decide)) (fun z => nomatch z) fin
  | exn h1 h2 h3 hs hx =>
    cases rx
    rename_i cls ns vs ds
    by_cases hL : L.contains cls = true
    · have hb : (if L.contains cls = true then some (T cls) else none) = some b := hb
      rw [if_pos hL] at hb
      obtain rfl := Option.some.inj hb
      obtain ⟨P, G, XEc, hk⟩ := hX _ (List.contains_iff_mem.mp hL) _ h2
      obtain ⟨ox, od, J, _⟩ := exn_inst I h1 h3
      exact PySem.W.kia_one (kitx_exn G XEc) I.kIn ⟨ox, od, J⟩ hk (fun z => nomatch z) fin
    · have hb : (if L.contains cls = true then some (T cls) else none) = some b := hb
      rw [if_neg hL] at hb
      cases hb
noncomputable def gIsX (L : List Str) (T : Str → Bool) (g : G R) : G R := fun env => g env >>= fun r => match tX L T r.dat with
  | some b => .ok (.d (.bl b))
  | none => .bad
/-- isinstance(e, C), C a class of one's own -/
theorem pd_isX {Cs : Str} {Ca : Addr} {p p2 : Pos} (hm1 : X.mg Cs = some (.ref Ca)) (h0 : ∀ t ∈ ["NoneType", "bool", "int", "str", "tuple", "list", "dict"], PySem.W.kitOne X.K (.type t) (.ref Ca) = some false)
    (hX : ∀ cls ∈ L, ∀ C, PySem.W.nsIn X.K mainGlobals cls = some (some (.ref C)) → ∃ P, GX X.K P ∧ XE X.K P C ∧ PySem.W.kitOne X.K (.ref C) (.ref Ca) = some (T cls))
    (h : PD X c a g) (hm : X.mg "isinstance" = none) (hK : X.K = c.K := by rfl) (hg : Gl X "isinstance" := by rfl) (hgT : Gl X Cs := by rfl) (hdT : (Cs == ("__debug__" : Str)) = false := by decide)
    (he : starEach [a, .Name Cs p2] X.env = (false, eval a X.env) :: starEach [.Name Cs p2] X.env := by rfl) (he2 : starEach [.Name Cs p2] X.env = (false, eval (.Name Cs p2) X.env) :: starEach [] X.env := by rfl)
    (hpl : (backTo pos (starEach [.Name Cs p2] X.env)).any (·.1) = false := by rfl) : PD X c (.Call (.Name "isinstance" p) [a, .Name Cs p2] [] pos) (gIsX L T g) :=
  peImp (pe_callB (call_isX (vc := .ref Ca) (fun _ h => h) h0 hX) hg hm (by decide +kernel) (pa_cons h (pa_cons (pe_glob (v := .ref Ca) hgT hm1 rfl hdT) pa_nil he2) he) (by decide) (by decide) he hpl) fun σ H Q ⟨J, env, sr, w⟩ => by
    refine ⟨J, env, sr, wpM_mono (wpM_bind w) fun r wr v J1 H1 e1 r1 => ?_⟩
    cases q : tX L T r.dat with
    | none => rw [q] at wr; exact wr.elim
    | some b =>
      rw [q] at wr
      exact ⟨r.dat, v, b, rfl, by rw [hK]; exact r1.dat (sr.hp.ext e1), q, wr _ J1 H1 e1 (.bl _)⟩
/-- isinstance(e, ValueError) -/
theorem pd_isV {p p2 : Pos} (hX : ∀ cls ∈ L, ∀ C, PySem.W.nsIn X.K mainGlobals cls = some (some (.ref C)) → ∃ P, GX X.K P ∧ XE X.K P C)
    (h : PD X c a g) (mT : X.mg "ValueError" = none) (hm : X.mg "isinstance" = none) (hK : X.K = c.K := by rfl) (hg : Gl X "isinstance" := by rfl) (hgT : Gl X "ValueError" := by rfl)
    (he : starEach [a, .Name "ValueError" p2] X.env = (false, eval a X.env) :: starEach [.Name "ValueError" p2] X.env := by rfl) (he2 : starEach [.Name "ValueError" p2] X.env = (false, eval (.Name "ValueError" p2) X.env) :: starEach [] X.env := by rfl)
    (hpl : (backTo pos (starEach [.Name "ValueError" p2] X.env)).any (·.1) = false := by rfl) : PD X c (.Call (.Name "isinstance" p) [a, .Name "ValueError" p2] [] pos) (gIsX L (fun _ => true) g) :=
  peImp (pe_callB (call_isX (vc := .ty "ValueError") (T := fun _ => true) (fun _ h => h) kit_notV fun cls hc C hn => let ⟨P, G, E⟩ := hX cls hc C hn; ⟨P, G, E, kit_val E⟩) hg hm (by decide +kernel) (pa_cons h (pa_cons (pe_bltn hgT mT (by decide +kernel) (v := .ty "ValueError") rfl (by decide) (by decide)) pa_nil he2) he) (by decide) (by decide) he hpl) fun σ H Q ⟨J, env, sr, w⟩ => by
    refine ⟨J, env, sr, wpM_mono (wpM_bind w) fun r wr v J1 H1 e1 r1 => ?_⟩
    cases q : tX L (fun _ => true) r.dat with
    | none => rw [q] at wr; exact wr.elim
    | some b =>
      rw [q] at wr
      exact ⟨r.dat, v, b, rfl, by rw [hK]; exact r1.dat (sr.hp.ext e1), q, wr _ J1 H1 e1 (.bl _)⟩
end
end DL
set_option Elab.async false
set_option linter.all false
set_option maxRecDepth 100000
set_option maxHeartbeats 4000000
/-! A field of a caught exception. -/
namespace DL
open PySem PySem.Spec PyProof.Rows L2 DX
theorem zip_look {K : PySem.W.Frag} {J : Hp} {f : Str} : ∀ {ns : List Str} {ds : List D} {vs : List V} {d : D}, Reps K J ds vs → (ns.zip ds).lookup f = some d → ∃ v, (ns.zip vs).lookup f = some v ∧ Rep K J d v
  | [], _, _, _, _, h => by simp at h
  | _ :: _, _, _, _, .nil, h => by simp at h
  | n :: ns, _, _, d, .cons r rs, h => by
    rw [List.zip_cons_cons, List.lookup_cons] at h ⊢
    cases q : f == n with
    | true => rw [q] at h; cases h; exact ⟨_, rfl, r⟩
    | false => rw [q] at h; exact zip_look rs h
theorem look_of {o : Obj} {es : Array DictEntry} {ep : Nat} {f : Str} {u : Value} (hd : o.data = .dict es ep) (h : nsFind es f = some u) : PySem.W.lookIn f o = some (some u) := by
  unfold PySem.W.lookIn
  rw [hd]
  unfold nsFind findBy at h
  obtain ⟨e, h1, h2⟩ := Option.map_eq_some_iff.mp h
  rw [← Array.find?_toList] at h1
  dsimp only
  rw [h1]
  exact congrArg (fun x => some (some x)) h2
theorem fo_value {K : PySem.W.Frag} {P C : Addr} {o : Obj} {f : Str} {u : Value} (E : XE K P C) (hf : PySem.W.findIn K (.ref C) f = some none) (h : PySem.W.lookIn f o = some (some u)) : PySem.W.findObj K C (some o) f = some (.value u) := by
  obtain ⟨cd, hc, _, hd, _⟩ := cls_of E
  unfold PySem.W.findObj
  rw [hc, Option.bind_some, hf, Option.bind_some]
  simp [PySem.W.ownOf, hd, h]
theorem handed_rep {K : PySem.W.Frag} {J : Hp} {d : D} {v : V} {u : Value} (h : Rep K J d v) (r : RelV v u) : PySem.W.handedIn u = true := by
  cases h with
  | non => cases r; rfl
  | bl b => cases r; rfl
  | int i => obtain ⟨t, rfl⟩ := r; rfl
  | str x => obtain ⟨t, rfl⟩ := r; rfl
  | emp _ => cases r; rfl
  | tup _ _ => cases r; rfl
  | lst _ _ => cases r; rfl
  | exn _ _ _ _ _ => cases r; rfl
/-- e.f; L: the classes whose f is asked -/
noncomputable def fXF (L : List Str) (f : Str) : D → Option D
  | .exn cls ns ds => if L.contains cls = true then (ns.zip ds).lookup f else none
  | _ => none
theorem fXF_exn {L : List Str} {f : Str} {r : R} {d : D} (h : fXF L f r.dat = some d) : ∃ cls ns ds, r = .d (.exn cls ns ds) := by
  cases r with
  | l m xs => cases h
  | d x =>
    cases x with
    | exn cls ns ds => exact ⟨cls, ns, ds, rfl⟩
    | _ => cases h
noncomputable def gXF (L : List Str) (f : Str) (g : G R) : G R := fun env => g env >>= fun r => match fXF L f r.dat with
  | some d => .ok (.d d)
  | none => .bad
section
variable {X : Cx} {c : C} {e : Expr} {g : G R} {pos : Pos} {L : List Str} {f : Str}
theorem pd_xfld (hX : ∀ cls ∈ L, ∀ C, PySem.W.nsIn X.K mainGlobals cls = some (some (.ref C)) → ∃ P, XE X.K P C ∧ PySem.W.findIn X.K (.ref C) f = some none) (h : PD X c e g) (hK : X.K = c.K := by rfl) (hb : attributeBase e f X.env (eval e X.env) = eval e X.env := by rfl) :
    PD X c (.Attribute e f pos) (gXF L f g) := by
  intro pins s σ H Q I ⟨J, env, sr, w⟩
  refine attr_of hb (thn (h pins s σ H (fun v H1 => ∃ J1 r, Ext J H J1 H1 ∧ RR c H J1 H1 r v ∧ wpM (match fXF L f r.dat with | some d => .ok (.d d) | none => .bad) (fun r => ∀ v J' H', Ext J H J' H' → RR c H J' H' r v → Q v H') c.T) I ⟨J, env, sr, wpM_mono (wpM_bind w) fun r wr v J1 H1 e1 r1 => ⟨J1, r, e1, r1, wr⟩⟩) fun u s1 ⟨x, H1, I1, rx, J1, r, e1, r1, wr⟩ => ?_)
  cases q : fXF L f r.dat with
  | none => rw [q] at wr; exact wr.elim
  | some d =>
    rw [q] at wr
    obtain ⟨cls, ns, ds, rfl⟩ := fXF_exn q
    · have r1 : Rep c.K J1 (.exn cls ns ds) x := r1
      have q : (if L.contains cls = true then (ns.zip ds).lookup f else none) = some d := q
      by_cases hL : L.contains cls = true
      · rw [if_pos hL] at q
        cases r1 with
        | exn h1 h2 h3 hs hx =>
          obtain rfl : u = Value.ref _ := rx
          obtain ⟨P, E, hf⟩ := hX cls (List.contains_iff_mem.mp hL) _ (by rw [hK]; exact h2)
          obtain ⟨ox, od, IA, _, hod⟩ := exn_inst I1 (e1.sub _ _ h1) (h3.mono e1.sub)
          obtain ⟨v, lk, rv⟩ := zip_look hs q
          rcases h3 with ⟨_, z, _⟩ | ⟨dd, rfl, _, hd⟩
          · subst z; simp at q
          · obtain ⟨o, rfl, ho⟩ := hod dd rfl
            obtain ⟨m, ⟨o', es, ep, k1, k2, k3, k4, k5⟩, k6⟩ := I1.hok dd _ (e1.sub _ _ hd)
            rw [ho] at k1
            cases k1
            have k7 := k6 f
            rw [lk] at k7
            cases mf : m f with
            | none => rw [mf] at k7; exact k7.elim
            | some u' =>
              rw [mf] at k7
              exact get_field I1.kIn IA E.ga E.gt (by rw [mro_of E]; simp) (fo_value E hf (look_of k2 ((k5 f).trans mf))) (handed_rep rv k7) ⟨v, H1, I1.tok _, k7, wr v J1 H1 e1 rv⟩
      · rw [if_neg hL] at q
        cases q
end
end DL
set_option Elab.async false
set_option linter.all false
set_option maxRecDepth 100000
set_option maxHeartbeats 4000000
/-! raise C("..") of a class without `__init__`. -/
namespace DX
open PySem PySem.Spec PyProof.Rows L2
open Sem (wp)
section
variable {prog : Program} {w : World} {A : Around} {E : Value → Shared → Prop} {h : Heap} {g : Array GenState} {d : Drawn} {t : Nat} {os : OsState}
variable {nm q : Str} {C N : Addr} {bs bm bmB : List Value} {hdct : Bool} {sn : List Str} {sub : List Value} {ab : Bool} {col : Option Bool} {dd : Option Addr} {k0 k1 k2 k3 k5 : Option Value} {B Bn newId nid initId inN : String} {bmN : List Value}
end
section
variable {X : Cx} {C : Addr} {E' : XK} {x : Str} {p cpos pos : Pos} {e : Expr} {es : List Expr} {t : TA}
end
end DX
namespace DL
open PySem PySem.Spec PyProof.Rows L2 DX
section
variable {X : Cx} {c : C} {Ca : Addr} {x : Str} {p cpos pos : Pos} {e : Expr} {es : List Expr} {gs : G (List D)}
end
end DL
set_option Elab.async false
set_option linter.all false
set_option maxRecDepth 100000
set_option maxHeartbeats 4000000
/-! Defs that may raise, sealed. -/
namespace DL
open PySem PySem.Spec PyProof.Rows L2 DX
noncomputable def CalX (P : Program) (w : World) (K : PySem.W.Frag) (mg : Str → Option Value) (base : Heap) (k n : Nat) (x : Str) (Fm : List S → M R) : Prop :=
  ∃ f fd ps, FnOk P w K mg base (CXX P w) k f fd ps (spX K n Fm) ∧ mg x = some (.ref f) ∧ PySem.W.keepIn K (.ref f) = true ∧ Binds K fd ps []
theorem qcalX_of {P : Program} {w : World} {K : PySem.W.Frag} {mg : Str → Option Value} {base : Heap} {x qual : Str} {st : Stmt} {f : Addr} {fd : FuncData} {N ps : List Str} {k : Nat} {Fm : List S → M R} (F : Fun K x qual st f fd) (hm : mg x = some (.ref f)) (Sc : FnScope N ps (defScope st))
    (hbi : ∀ (kV doc pm : Value) (an : Option Addr) (cdv ct : Value) (us : List Value), us.length = ps.length → bindArgs (PySem.W.fnOf x qual (defArgs st) (defBody st) (defScope st) .none kV doc pm an cdv ct) ⟨us, []⟩ = pure (ps.zip us)) {gB : G O}
    (hb : ∀ (cdv : Value) (A : Around) (outer : List Env) (s : Shared) (H : Hp) (E : XK) (J : Hp), Room k (A.deeper (envOfC qual (defScope st) s.heap.objs.size f cdv)) →
      QDs (cxX P w K mg base N qual (defScope st) f cdv A outer s H E) ⟨K, H, J, XW K J H E⟩ (defBody st) gB)
    (hF : ∀ as, as.length = ps.length → Fm as ≠ .bad → fin (gB (startE N as)) = Fm as) : CalX P w K mg base (k + 1) ps.length x Fm :=
  ⟨f, fd, ps, fn_okX F Sc (fun cdv A outer s H E J hr => (hb cdv A outer s H E J hr).h) hF, hm, F.kp, F.binds hbi⟩
/-- a class of exceptions with its own `__init__`, of one field -/
noncomputable def RCls (P : Program) (w : World) (K : PySem.W.Frag) (mg : Str → Option Value) (base : Heap) (k : Nat) (x fld : Str) : Prop :=
  ∃ Ca f fd ps, XCls K Ca f ∧ FnOk P w K mg base CX0 k f fd ps (spInit Ca fld) ∧ mg x = some (.ref Ca) ∧ PySem.W.nsIn K mainGlobals x = some (some (.ref Ca)) ∧ Binds K fd ps [] ∧ ∃ P, GX K P ∧ XE K P Ca
/-- what the text tells of the classes of exceptions -/
structure XAll (K : PySem.W.Frag) (mg : Str → Option Value) (L : List Str) : Prop where
  ex : ∃ P, GX K P ∧ mg "PickError" = some (.ref P) ∧ (∀ cls ∈ L, ∃ C, PySem.W.nsIn K mainGlobals cls = some (some (.ref C)) ∧ XE K P C ∧ mg cls = some (.ref C) ∧ C ≠ P) ∧
    ∀ c1 ∈ L, ∀ c2 ∈ L, ∀ C, PySem.W.nsIn K mainGlobals c1 = some (some (.ref C)) → PySem.W.nsIn K mainGlobals c2 = some (some (.ref C)) → c1 = c2
section
variable {X : Cx} {c : C} {e a : Expr} {es : List Expr} {pos : Pos} {g : G R} {L : List Str}
theorem qpd_calX {k k' n : Nat} {F : List S → M R} {x : Str} {p : Pos} {gs : G (List R)} (G : CalX X.prog X.w X.K X.mg X.base k n x F) (hx : XOk X c) (hr : Room k' X.A) (ha : QAr X c (e :: es) gs) (hk : k ≤ k' := by decide) (hT : c.K = X.K := by rfl) (hg : Gl X x := by rfl) (hdb : (x == ("__debug__" : Str)) = false := by decide)
    (he : starEach (e :: es) X.env = (false, eval e X.env) :: starEach es X.env := by rfl) (hpl : (backTo pos (starEach es X.env)).any (·.1) = false := by rfl) : QD X c (.Call (.Name x p) (e :: es) [] pos) (gN (gCallX n F) gs) := by
  obtain ⟨f, fd, ps, h1, h2, h3, h4⟩ := G
  exact ⟨pd_callX h1 hx (hr.mono hk) h2 h3 h4 ha.h hT hg hdb he hpl⟩
theorem qtry_cal {k k' n : Nat} {F : List S → M R} {x : Str} {p : Pos} {gs : G (List R)} (G : CalX X.prog X.w X.K X.mg X.base k n x F) (hr : Room k' X.A) (ha : ∀ pn xe T, QAr (tb X pn xe) (c.wT T) (e :: es) gs) (hk : k ≤ k' := by decide) (hT : c.K = X.K := by rfl) (hg : Gl X x := by rfl) (hdb : (x == ("__debug__" : Str)) = false := by decide)
    (he : starEach (e :: es) X.env = (false, eval e X.env) :: starEach es X.env := by rfl) (hpl : (backTo pos (starEach es X.env)).any (·.1) = false := by rfl) : QTryE X c (.Call (.Name x p) (e :: es) [] pos) (gN (gCallX n F) gs) := by
  obtain ⟨f, fd, ps, h1, h2, h3, h4⟩ := G
  exact qtry_call h1 (hr.mono hk) h2 h3 h4 (fun pn xe T => (ha pn xe T).h) hT hg hdb he hpl
theorem qpd1_rse {k k' : Nat} {x fld : Str} {p cpos : Pos} {gs : G (List D)} (R : RCls X.prog X.w X.K X.mg X.base k x fld) (hx : XOk X c) (hr : Room k' X.A) (ha : QAd X c (e :: es) gs) (hk : k + 1 ≤ k' := by decide) (hT : c.K = X.K := by rfl) (hcm : X.calm = true := by rfl) (hg : Gl X x := by rfl) (hdb : (x == ("__debug__" : Str)) = false := by decide)
    (he : starEach (e :: es) X.env = (false, eval e X.env) :: starEach es X.env := by rfl) (hpl : (backTo cpos (starEach es X.env)).any (·.1) = false := by rfl) : QD1 X c (.Raise (some (.Call (.Name x p) (e :: es) [] cpos)) none pos) (gRaise x fld gs) := by
  obtain ⟨Ca, f, fd, ps, h1, h2, h3, h4, h5, h6⟩ := R
  exact ⟨pd1_raise h1 h2 (hr.mono hk) hg h3 (by rw [hT]; exact h4) (by rw [hT]; exact h6) h5 hx hcm ha.h hdb he hpl⟩
theorem qpd1_try {i j : Nat} {n y : Str} {body : List Stmt} {t : G O} {p1 p2 p3 pos2 hpos : Pos} (A : XAll X.K X.mg L) (hb : QTry X c body t) (hN : X.N.Nodup) (hT : c.K = X.K := by rfl)
    (hst : X.stack = X.env :: X.outer := by rfl) (hfr : X.env.frame = some X.env.locals := by rfl) (hg : Gl X "PickError" := by rfl) (hi : X.N[i]? = some n := by rfl) (hj : X.N[j]? = some y := by rfl) (hij : i ≠ j := by decide) (hn : X.env.scope.names.lookup n = some .local := by rfl) (hy : X.env.scope.names.lookup y = some .local := by rfl)
    (hs : swapsWith (.Name n p2) (some (.Name y p1)) pos2.line X.env = pure false := by rfl) (hd : (n == ("__debug__" : Str)) = false := by decide) (hcd : (n == ("__classdict__" : Str)) = false := by decide) :
    QD1 X c (.Try body [.ExceptHandler (some (.Name "PickError" p3)) (some n) [.Assign [.Name y p1] (.Name n p2) pos2] hpos] [] [] pos) (gTry i j L t) := by
  obtain ⟨P, G, hm, hA, _⟩ := A.ex
  refine ⟨pd1_try hb (fun cls hc C hn => ?_) hm hN hst hfr hg hi hj hij hn hy hs (by decide) hd hcd⟩
  obtain ⟨C', h1, h2, _⟩ := hA cls hc
  rw [hT] at hn
  rw [h1] at hn
  cases hn
  exact below_of G h2
/-- isinstance(e, C) of one of the classes -/
theorem qpd_isC {Cs : Str} {p p2 : Pos} (A : XAll X.K X.mg L) (hC : Cs ∈ L) (h : QD X c a g) (hm : X.mg "isinstance" = none) (hK : X.K = c.K := by rfl) (hg : Gl X "isinstance" := by rfl) (hgT : Gl X Cs := by rfl) (hdT : (Cs == ("__debug__" : Str)) = false := by decide)
    (he : starEach [a, .Name Cs p2] X.env = (false, eval a X.env) :: starEach [.Name Cs p2] X.env := by rfl) (he2 : starEach [.Name Cs p2] X.env = (false, eval (.Name Cs p2) X.env) :: starEach [] X.env := by rfl)
    (hpl : (backTo pos (starEach [.Name Cs p2] X.env)).any (·.1) = false := by rfl) : QD X c (.Call (.Name "isinstance" p) [a, .Name Cs p2] [] pos) (gIsX L (fun x => x == Cs) g) := by
  obtain ⟨P, G, hP, hA, hU⟩ := A.ex
  obtain ⟨D, d1, d2, d3, d4⟩ := hA Cs hC
  obtain ⟨cd, e1, _, _, e2⟩ := cls_of d2
  have s1 : (PySem.W.clsIn X.K D).isSome = true := by rw [e1]; rfl
  refine ⟨pd_isX d3 (kit_not s1 e2) (fun cls hc C hn => ?_) h.h hm hK hg hgT hdT he he2 hpl⟩
  obtain ⟨C', h1, h2, _⟩ := hA cls hc
  rw [h1] at hn
  cases hn
  refine ⟨P, G, h2, (kit_sub h2 s1 e2).trans ?_⟩
  have pd : (P == D) = false := by simpa using Ne.symm d4
  rw [pd, Bool.or_false]
  by_cases q : cls = Cs
  · subst q
    rw [h1] at d1
    cases d1
    simp
  · have : C ≠ D := fun z => q (hU cls hc Cs hC C h1 (z ▸ d1))
    rw [beq_eq_false_iff_ne.mpr this, beq_eq_false_iff_ne.mpr q]
theorem qpd_isV {p p2 : Pos} (A : XAll X.K X.mg L) (h : QD X c a g) (mT : X.mg "ValueError" = none) (hm : X.mg "isinstance" = none) (hK : X.K = c.K := by rfl) (hg : Gl X "isinstance" := by rfl) (hgT : Gl X "ValueError" := by rfl)
    (he : starEach [a, .Name "ValueError" p2] X.env = (false, eval a X.env) :: starEach [.Name "ValueError" p2] X.env := by rfl) (he2 : starEach [.Name "ValueError" p2] X.env = (false, eval (.Name "ValueError" p2) X.env) :: starEach [] X.env := by rfl)
    (hpl : (backTo pos (starEach [.Name "ValueError" p2] X.env)).any (·.1) = false := by rfl) : QD X c (.Call (.Name "isinstance" p) [a, .Name "ValueError" p2] [] pos) (gIsX L (fun _ => true) g) := by
  obtain ⟨P, G, hP, hA, hU⟩ := A.ex
  refine ⟨pd_isV (fun cls hc C hn => ?_) h.h mT hm hK hg hgT he he2 hpl⟩
  obtain ⟨C', h1, h2, _⟩ := hA cls hc
  rw [h1] at hn
  cases hn
  exact ⟨P, G, h2⟩
/-- a field: L the class whose field it is -/
noncomputable def XFl (K : PySem.W.Frag) (cls f : Str) : Prop := ∃ C P, PySem.W.nsIn K mainGlobals cls = some (some (.ref C)) ∧ XE K P C ∧ PySem.W.findIn K (.ref C) f = some none
theorem qpd_xfld {cls f : Str} (A : XFl X.K cls f) (h : QD X c e g) (hK : X.K = c.K := by rfl) (hb : attributeBase e f X.env (eval e X.env) = eval e X.env := by rfl) : QD X c (.Attribute e f pos) (gXF [cls] f g) := by
  obtain ⟨C, P, h1, h2, h3⟩ := A
  refine ⟨pd_xfld (fun x hx C' hn => ?_) h.h hK hb⟩
  obtain rfl := List.mem_singleton.mp hx
  rw [h1] at hn
  cases hn
  exact ⟨P, h2, h3⟩
end
end DL
set_option Elab.async false
set_option linter.all false
set_option maxRecDepth 100000
set_option maxHeartbeats 4000000
/-! The classes of errors.py from the text's part. -/
namespace DL
open PySem PySem.Spec PyProof.Rows L2 DX
noncomputable abbrev XL : List Str := ["NoWorld", "NoTongue", "NoSaying", "NoMore", "NoName", "NoLetter", "TooMany", "NoCount", "NoPoint", "NoRow"]
section
variable {K : PySem.W.Frag} {mg : Str → Option Value} {P C N : Addr} {nm q : Str} {bs : List Value} {sn : List Str} {sub : List Value} {ab : Bool} {col : Option Bool} {dd : Option Addr} {k0 k1 k2 k3 k5 : Option Value}
theorem xe_mk (l : K.lookup C = some (excClassObj nm q C N bs (.ref P :: vbm) true sn sub ab col dd k0 k1 k2 k3 k5 "ValueError.__new__")) (g : PySem.W.findIn K (.ref C) "__getattribute__" = some (some (.builtin "BaseException.__getattribute__"))) (h : PySem.W.findIn K (.ref C) "__getattr__" = some none)
    (k : PySem.W.findIn K (.ref C) "__class__" = some (some (.builtin "object.__class__"))) : XE K P C := ⟨⟨nm, q, N, bs, sn, sub, ab, col, dd, k0, k1, k2, k3, k5, l⟩, g, h, k⟩
theorem gx_mk {c : Value} {d : Option Addr} {es : Array DictEntry} {ep : Nat} {sl : Array (Option Value)} (l : K.lookup P = some (excClassObj nm q P N bs vbm true sn sub ab col dd k0 k1 k2 k3 k5 "ValueError.__new__")) (ln : K.lookup N = some ⟨c, d, .dict es ep, sl⟩) (hs : strK es = true) (hq : (quiet.all fun n => (nsFind es n).isNone) = true)
    (gt : PySem.W.specialIn K (.builtin "object.__class__") "__get__" = some (some (.builtin "getset_descriptor.__get__"))) (tk : PySem.W.takesIn K (.builtin "object.__class__") = some true) : GX K P :=
  ⟨gt, tk, nm, q, N, bs, sn, sub, ab, col, dd, k0, k1, k2, k3, k5, l, fun h X => ⟨_, ns_of ln hs X, fun n hn => Option.isNone_iff_eq_none.mp (List.all_eq_true.mp hq n hn)⟩⟩
theorem nodup_inj : ∀ {ps : List (Str × Addr)} {a b : Str} {C : Addr}, (ps.map (·.2)).Nodup → (a, C) ∈ ps → (b, C) ∈ ps → a = b
  | [], _, _, _, _, h, _ => by cases h
  | p :: ps, a, b, C, nd, h1, h2 => by
    rw [List.map_cons, List.nodup_cons] at nd
    have no : ∀ x, (x, C) ∈ ps → p.2 ≠ C := fun x hx z => nd.1 (z ▸ List.mem_map.mpr ⟨_, hx, rfl⟩)
    rcases List.mem_cons.mp h1 with e1 | h1 <;> rcases List.mem_cons.mp h2 with e2 | h2
    · rw [← e1] at e2; exact (congrArg (·.1) e2).symm
    · exact absurd (by rw [← e1]) (no b h2)
    · exact absurd (by rw [← e2]) (no a h1)
    · exact nodup_inj nd.2 h1 h2
theorem xall_mk (G : GX K P) (hm : mg "PickError" = some (.ref P)) {ps : List (Str × Addr)} (h : ∀ p ∈ ps, PySem.W.nsIn K mainGlobals p.1 = some (some (.ref p.2)) ∧ XE K P p.2 ∧ mg p.1 = some (.ref p.2)) (nd : (P :: ps.map (·.2)).Nodup) : XAll K mg (ps.map (·.1)) := by
  rw [List.nodup_cons] at nd
  refine ⟨P, G, hm, fun cls hc => ?_, fun c1 h1 c2 h2 C n1 n2 => ?_⟩
  · obtain ⟨p, hp, rfl⟩ := List.mem_map.mp hc
    obtain ⟨a, b, c⟩ := h p hp
    exact ⟨p.2, a, b, c, fun z => nd.1 (z ▸ List.mem_map.mpr ⟨p, hp, rfl⟩)⟩
  · obtain ⟨p1, hp1, rfl⟩ := List.mem_map.mp h1
    obtain ⟨p2, hp2, rfl⟩ := List.mem_map.mp h2
    have a1 := (h p1 hp1).1
    have a2 := (h p2 hp2).1
    rw [n1] at a1
    rw [n2] at a2
    cases Value.ref.inj (Option.some.inj (Option.some.inj a1))
    have e : p1.2 = p2.2 := Value.ref.inj (Option.some.inj (Option.some.inj a2))
    exact nodup_inj nd.2 (C := p1.2) hp1 (e ▸ hp2)
theorem xfl_mk {cls f : Str} (n : PySem.W.nsIn K mainGlobals cls = some (some (.ref C))) (E : XE K P C) (h : PySem.W.findIn K (.ref C) f = some none) : XFl K cls f := ⟨C, P, n, E, h⟩
/-- a class with its own `__init__` of two rows -/
theorem rcls_mk {Pg : Program} {w : World} {base : Heap} {x qual p fld msg : Str} {j : Nat} {p1 p2 p3 p4 p5 p6 apos cpos epos pos : Pos} {st : Stmt} {fI : Addr} {fd : FuncData} {mc : Value} {c : Value} {d : Option Addr} {es : Array DictEntry} {ep : Nat} {sl : Array (Option Value)} (G : GX K P) (E : XE K P C) (hP : mg "PickError" = some (.ref P)) (hx : mg x = some (.ref C))
    (nx : PySem.W.nsIn K mainGlobals x = some (some (.ref C))) (l : K.lookup C = some (excClassObj nm q C N bs (.ref P :: vbm) true sn sub ab col dd k0 k1 k2 k3 k5 "ValueError.__new__")) (ln : K.lookup N = some ⟨c, d, .dict es ep, sl⟩) (hs : strK es = true) (hi : nsFind es "__init__" = some (.ref fI)) (hsa : nsFind es "__setattr__" = none) (hf : nsFind es fld = none)
    (F : Fun K "__init__" qual st fI fd) (kp : PySem.W.keepIn K (.ref C) = true) (fn : ∃ oI : Obj, K.lookup fI = some oI ∧ oI.cls = .type "function") (Sc : FnScope ["self", p] ["self", p] (defScope st))
    (hst : defBody st = [.Expr (.Call (.Attribute (.Name "PickError" p1) "__init__" apos) [.Name "self" p2, .Constant (.str msg) j p3] [] cpos) epos, .Assign [.Attribute (.Name "self" p4) fld p5] (.Name p p6) pos])
    (hcall : ∀ env : Env, ∃ pl : Sem Bool, eval (.Call (.Attribute (.Name "PickError" p1) "__init__" apos) [.Name "self" p2, .Constant (.str msg) j p3] [] cpos) env = (do
      let ov ← eval (.Name "PickError" p1) env
      standAt apos.atName
      let (f, first) ← holding [ov] (getMethod ov "__init__" pl)
      callWith cpos f first (backTo cpos (starEach [.Name "self" p2, .Constant (.str msg) j p3] env)) (backToKw cpos (keywordEach [] env))))
    (hgl : ∀ (cdv : Value) (A : Around) (outer : List Env) (s : Shared) (H : Hp) (E : XK), Gl (cxOf CX0 Pg w K mg base ["self", p] qual (defScope st) fI cdv A outer s H E).nox "PickError") (v0 : Vis (defScope st) "self") (v1 : Vis (defScope st) p)
    (hfq : fld ∈ quiet) (hB : typeLookup (.type "ValueError") fld = pure none) (hga : PySem.W.specialIn K (.ref P) "__getattribute__" = some (some (.builtin "type.__getattribute__"))) (hr : PySem.W.readsIn K P mc = true) (hfc : PySem.W.findCls K (.ref P) mc "__init__" = some (.val (.builtin "ValueError.__init__")))
    (hd2 : (p == ("__debug__" : Str)) = false) (hd3 : (p == ("__classdict__" : Str)) = false)
    (hbi : ∀ (kV doc pm : Value) (an : Option Addr) (cdv ct : Value) (us : List Value), us.length = 2 → bindArgs (PySem.W.fnOf "__init__" qual (defArgs st) (defBody st) (defScope st) .none kV doc pm an cdv ct) ⟨us, []⟩ = pure ((["self", p] : List Str).zip us)) :
    RCls Pg w K mg base 1 x fld := by
  refine ⟨C, fI, fd, ["self", p], ⟨⟨nm, q, N, bs, _, true, sn, sub, ab, col, dd, k0, k1, k2, k3, k5, _, "ValueError", "ValueError.__init__", vbm, "ValueError", "ValueError.__new__", "ValueError.__init__", vbm, l, PySem.F.excBase_ValueError, by decide, PySem.F.excBase_ValueError, by simp, fun h X => ⟨(tail_of G h X).old (by decide), _, ns_of ln hs X, hi⟩⟩, fn, kp⟩, ?_, hx, nx, F.binds hbi, P, G, E⟩
  exact init_ok (k := 0) F Sc hst hcall hgl hP v0 v1 PySem.F.excBase_ValueError PySem.F.store_ValueError l (fun h X => tail_of G h X) (fun h X => ⟨_, ns_of ln hs X, hsa, hf⟩) (by decide) (by decide) hfq hB hga hr hfc (by decide +kernel) (by decide) hd2 hd3
end
end DL
set_option Elab.async false
set_option linter.all false
set_option maxRecDepth 100000
set_option maxHeartbeats 4000000
namespace DL
open PySem PySem.Spec PyProof.Rows L2 DX
/-! ### a def whose last parameter has None put in where it is left out -/
structure FunD (K : PySem.W.Frag) (x qual : Str) (st : Stmt) (f : Addr) (fd : FuncData) : Prop where
  ex : ∃ (oc : Value) (od : Option Addr) (T : Addr) (o : Obj) (n : Nat) (kV doc pm : Value) (an : Option Addr) (cdv ct : Value) (osl : Array (Option Value)),
    fd = PySem.W.fnOf x qual (defArgs st) (defBody st) (defScope st) (.ref T) kV doc pm an cdv ct ∧ K.lookup f = some ⟨oc, od, .func fd, osl⟩ ∧ PySem.W.codeIn K cdv qual = true ∧ K.lookup T = some o ∧ o.data = .seq #[.none] n
  kp : PySem.W.keepIn K (.ref f) = true
theorem arep_non {K : PySem.W.Frag} {J H : Hp} : ∀ {as : List S} {vs : List V}, ARep K J H as vs → ARep K J H (as ++ [.d .non]) (vs ++ [.non])
  | [], _, h => by
    cases h
    exact ⟨.non, [], rfl, .non, rfl⟩
  | a :: as, _, h => by
    obtain ⟨v, us, rfl, h1, h2⟩ := h
    exact ⟨v, us ++ [.non], rfl, h1, arep_non h2⟩
section
variable {P : Program} {w : World} {K : PySem.W.Frag} {mg : Str → Option Value} {base : Heap}
theorem fn_okXD {x qual : Str} {st : Stmt} {f : Addr} {fd : FuncData} {N ps : List Str} {k : Nat} {Fm : List S → M R} (F : FunD K x qual st f fd) (Sc : FnScope N ps (defScope st)) {gB : G O}
    (hb : ∀ (cdv : Value) (A : Around) (outer : List Env) (s : Shared) (H : Hp) (E : XK) (J : Hp), Room k (A.deeper (envOfC qual (defScope st) s.heap.objs.size f cdv)) → PDs (cxX P w K mg base N qual (defScope st) f cdv A outer s H E) ⟨K, H, J, XW K J H E⟩ (defBody st) gB)
    (hF : ∀ as, as.length = ps.length → Fm as ≠ .bad → fin (gB (startE N as)) = Fm as) : FnOk P w K mg base (CXX P w) (k + 1) f fd ps (spX K ps.length Fm) := by
  obtain ⟨oc, od, T, o, n, kV, doc, pm, an, cdv, ct, osl, rfl, lk, hcd, lT, dT⟩ := F.ex
  refine fn_of lk hcd Sc (fun vs H Q E ⟨J, as, h1, h2, h3, h4⟩ => by rw [h3.length, h2]) fun A outer s H vs Q E hr ⟨J, as, h1, h2, h3, h4⟩ => ?_
  refine ⟨_, hb cdv A outer s H E J hr, J, startE N as, sr_start h1 h3, ?_⟩
  have z := hF as h2 (fun q => by rw [q] at h4; exact h4)
  rw [← z] at h4
  have ext : ∀ {J' H' : Hp}, HI ⟨K, H, J, XW K J H E⟩ J' H' → Ext J H J' H' := fun hp => ⟨hp.ent, hp.entJ, hp.sub, hp.frz⟩
  cases qg : gB (startE N as) with
  | bad => rw [qg] at h4; exact h4
  | exc x => rw [qg] at h4; exact h4
  | ok o =>
    rw [qg] at h4
    cases o with
    | bk _ => exact h4.elim
    | ct _ => exact h4.elim
    | nx env => exact fun σ' J' H' _ sr => h4 .non J' H' (ext sr.hp) .non
    | rt r => exact fun v J' H' _ hp rf => h4 v J' H' (ext hp) (by
        cases r with
        | d x => exact rf
        | l m xs => exact rf)
/-- called with one argument fewer -/
noncomputable def CalD (P : Program) (w : World) (K : PySem.W.Frag) (mg : Str → Option Value) (base : Heap) (k n : Nat) (x : Str) (Fm : List S → M R) : Prop :=
  ∃ f fd ps, FnOk P w K mg base (CXX P w) k f fd ps (spX K (n + 1) Fm) ∧ mg x = some (.ref f) ∧ PySem.W.keepIn K (.ref f) = true ∧ Binds K fd ps [.none]
theorem FunD.bindsAll {x qual : Str} {st : Stmt} {f : Addr} {fd : FuncData} {ps : List Str} (F : FunD K x qual st f fd)
    (h : ∀ (T : Addr) (kV doc pm : Value) (an : Option Addr) (cdv ct : Value) (us : List Value), us.length = ps.length → ∃ k : Option (Array Value) → Sem (List (Str × Value)),
      bindArgs (PySem.W.fnOf x qual (defArgs st) (defBody st) (defScope st) (.ref T) kV doc pm an cdv ct) ⟨us, []⟩ = seqItems? (.ref T) >>= k ∧ k (some #[.none]) = pure (ps.zip us)) : Binds K fd ps [] := by
  obtain ⟨oc, od, T, o, n, kV, doc, pm, an, cdv, ct, osl, rfl, lk, hcd, lT, dT⟩ := F.ex
  intro s us hK hl
  rw [List.append_nil] at hl ⊢
  obtain ⟨k, h1, h2⟩ := h T kV doc pm an cdv ct us hl
  exact .of_defaults (T := T) (items := #[.none]) rfl (hK _ _ lT) dT h1 h2
theorem FunD.bindsOne {x qual : Str} {st : Stmt} {f : Addr} {fd : FuncData} {ps : List Str} (F : FunD K x qual st f fd)
    (h : ∀ (T : Addr) (kV doc pm : Value) (an : Option Addr) (cdv ct : Value) (us : List Value), us.length + 1 = ps.length → ∃ k : Option (Array Value) → Sem (List (Str × Value)),
      bindArgs (PySem.W.fnOf x qual (defArgs st) (defBody st) (defScope st) (.ref T) kV doc pm an cdv ct) ⟨us, []⟩ = seqItems? (.ref T) >>= k ∧ k (some #[.none]) = pure (ps.zip (us ++ [.none]))) : Binds K fd ps [.none] := by
  obtain ⟨oc, od, T, o, n, kV, doc, pm, an, cdv, ct, osl, rfl, lk, hcd, lT, dT⟩ := F.ex
  intro s us hK hl
  obtain ⟨k, h1, h2⟩ := h T kV doc pm an cdv ct us (by simpa using hl)
  exact .of_defaults (T := T) (items := #[.none]) rfl (hK _ _ lT) dT h1 h2
end
section
variable {X : Cx} {c : C} {e : Expr} {es : List Expr} {pos : Pos}
end
end DL
set_option Elab.async false
set_option linter.all false
set_option maxRecDepth 100000
set_option maxHeartbeats 4000000
namespace DL
open PySem PySem.Spec PyProof.Rows L2 DX
/-! ### *a, b = t -/
section
variable {prog : Program} {w : World} {A : Around} {E : Value → Shared → Prop} {s : Shared}
theorem star0T {l : Addr} {items : Array Value} {Q : List Value → Shared → Prop} (hl : IsTup s.heap l items) (hh : A.handled = none) (h1 : 1 ≤ items.size) (hz : items.size ≤ 2000)
    (h : ∀ (h' : Heap) (tk : Nat), (∀ b o, s.heap.get? b = some o → h'.get? b = some o) → Q (.ref h'.objs.size :: items.toList.drop (items.size - 1)) { s with heap := h'.push (seqObj "list" (items.toList.take (items.size - 1)).toArray 0), toks := tk }) :
    wpAny (model prog w) A (unpackItems (.ref l) 2 (some 0)) Q E s := by
  have la : l < s.heap.objs.size := by obtain ⟨o, ho, _⟩ := hl; exact Heap.lt_size ho
  unfold unpackItems
  refine (wpAny_bind ?_)
  unfold notIterableAtAll
  refine wpAny_bind ((wpAny_specialOf hl.typeIs slot_tuple_iter.lookup ?_))
  refine (wpAny_pure ?_)
  simp only [Bool.false_eq_true, if_false]
  refine wpAny_bind ((wpAny_holding (iter_tuple hl ?_)))
  refine wpAny_bind (wpAny_holding (show wpAny _ _ (pure []) _ _ _ from wpAny_pure ?_))
  rw [if_neg (by simp)]
  have hit : IsTupIter (s.heap.push { cls := .type "tuple_iterator", data := .fields #[.ref l, .int 0 0] }) s.heap.objs.size l 0 := ⟨_, Heap.get?_push_size _ rfl, rfl, rfl⟩
  have hl1 := hl.push { cls := .type "tuple_iterator", data := .fields #[.ref l, .int 0 0] }
  have z0 : s.heap.objs.size < (s.heap.push { cls := .type "tuple_iterator", data := .fields #[.ref l, .int 0 0] }).objs.size := by obtain ⟨o, ho, _⟩ := hit; exact Heap.lt_size ho
  refine wpAny_bind (wpAny_holding (PySem.W.kun_collect (s := { s with heap := s.heap.push { cls := .type "tuple_iterator", data := .fields #[.ref l, .int 0 0] } }) (T := "tuple_iterator") (.inr (.inr (.inr rfl))) (Walks.tuple (A := A.in1) hh s.heap.objs.size l (Nat.ne_of_lt la) items) (fun j u st => st.1.typeIs) (k := 0)
    (Nat.zero_le _) ⟨hit, hl1⟩ z0 (Nat.lt_trans la z0) (fun h2 tk hk => ?_) (by rw [sizeLine_eq]; omega)))
  rw [List.drop_zero]
  have hrl : items.toList.length = items.size := Array.length_toList
  show wpAny _ _ (if items.toList.length < 2 - 1 - 0 then _ else _) _ _ _
  rw [if_neg (by rw [hrl]; omega)]
  show wpAny _ _ (newList (items.toList.take (items.toList.length - (2 - 1 - 0))) >>= fun d => pure ([] ++ [d] ++ items.toList.drop (items.toList.length - (2 - 1 - 0)))) _ _ _
  rw [hrl]
  refine wpAny_bind (wpAny_newList (wpAny_pure (h h2 tk fun b o e => hk b o (Nat.ne_of_lt (Heap.lt_size e)) (Heap.get?_push_of_some _ e))) ?_)
  rw [List.length_take, hrl, sizeLine_eq]; omega
end
section
variable {X : Cx} {c : C} {e : Expr} {g : G R} {pos : Pos}
theorem vals_last {z : V} : ∀ {xs : List V} {us : List Value}, Vals (xs ++ [z]) us → ∃ u us', us = us' ++ [u] ∧ Vals xs us' ∧ RelV z u
  | [], _, h => by
    cases h with
    | cons q r => cases r; exact ⟨_, [], rfl, .nil, q⟩
  | x :: xs, _, h => by
    cases h with
    | cons q r =>
      obtain ⟨u, us', rfl, h1, h2⟩ := vals_last r
      exact ⟨u, _ :: us', rfl, .cons q h1, h2⟩
noncomputable def gStarT (K : PySem.W.Frag) (t : TGs) : TG := fun v σ H Q => ∃ a xs z, v = .ref a ∧ SqT K H a (xs ++ [z]) ∧ xs.length ≤ 1000 ∧ ∀ p, H p = none → t [.ref p, z] σ (upd H p (.lst xs)) Q
theorem pg_star {es es' : List Expr} {k : Nat} {t : TGs} (hc : X.calm = true) (h : PGs X es' t) (hn : (assignEach es X.env).length = 2 := by rfl) (hst : (assignEach es X.env).findIdx? (·.1) = some 0 := by rfl)
    (hm : (assignEach es X.env).map (·.2) = (assignEach es' X.env).map (·.2) := by rfl) : PG X (.Tuple es k pos) (gStarT X.K t) := by
  intro pins s σ H v u Q I r ⟨a, xs, z, e1, hq, hl, hw⟩
  subst e1
  cases r
  obtain ⟨its, rv, ht, hz⟩ := I.tuple hq
  obtain ⟨u, us, rfl, r1, r2⟩ := vals_last rv
  have lu : us.length = xs.length := r1.length.symm
  rw [assign_Tuple]
  refine wpAny_bind ((wpAny_standAt ?_))
  unfold unpack
  rw [hn, hst]
  refine wpAny_bind (wpAny_holding (star0T ht (I.ok.hd hc) (by simp) (by simp; omega) fun h' tk kp => ?_))
  have I1 : Inv X pins σ H { s with heap := h', toks := tk } := I.kept (t' := tk) kp
  have fr : H h'.objs.size = none := I1.hok.fresh (Nat.le_refl _)
  have e1 : (us ++ [u]).toArray.toList.drop ((us ++ [u]).toArray.size - 1) = [u] := by simp
  have e2 : (us ++ [u]).toArray.toList.take ((us ++ [u]).toArray.size - 1) = us := by simp
  rw [e1, e2, hm]
  have I2 := I1.laid (a := h'.objs.size) (o := .lst xs) (h' := h'.push (seqObj "list" us.toArray 0)) (t' := tk) (fun _ _ q => Heap.get?_push_of_some _ q) (Nat.le_refl _) (show ObjOk X.prog X.w _ _ _ (.lst xs) from ⟨by rw [sizeLine_eq]; omega, us, 0, r1, by simpa [seqObj] using Heap.get?_push_size h' (o := seqObj "list" us.toArray 0) rfl⟩)
  exact h pins _ σ _ _ _ Q I2 (.cons (show RelV (.ref h'.objs.size) (.ref h'.objs.size) from rfl) (.cons r2 .nil)) (hw _ fr)
noncomputable def gStar (t : GTs) (g : G R) : G O := fun env => g env >>= fun r => toD r >>= fun d => match d with
  | .tup xs => match xs.getLast? with
    | some z => if xs.length ≤ 1000 then t [.lst xs.dropLast, z] env >>= fun e => .ok (.nx e) else .bad
    | none => .bad
  | _ => .bad
theorem reps_last {K : PySem.W.Frag} {J : Hp} : ∀ {ds : List D} {vs : List V} {z : D}, ds.getLast? = some z → Reps K J ds vs → ∃ xs v, vs = xs ++ [v] ∧ Reps K J ds.dropLast xs ∧ Rep K J z v
  | [], _, _, h, _ => by simp at h
  | [d], _, _, h, .cons q .nil => by
    simp at h
    subst h
    exact ⟨[], _, rfl, .nil, q⟩
  | d :: d' :: ds, _, z, h, .cons q rs => by
    obtain ⟨xs, v, rfl, h1, h2⟩ := reps_last (ds := d' :: ds) (by simpa using h) rs
    exact ⟨_ :: xs, v, rfl, .cons q h1, h2⟩
theorem pd1_star {es es' : List Expr} {k : Nat} {pos' : Pos} {t : GTs} (h : PD X c e g) (ht : PTgs X c es' t) (hcm : X.calm = true := by rfl) (hK : X.K = c.K := by rfl) (hn : (assignEach es X.env).length = 2 := by rfl) (hst : (assignEach es X.env).findIdx? (·.1) = some 0 := by rfl)
    (hm : (assignEach es X.env).map (·.2) = (assignEach es' X.env).map (·.2) := by rfl) (hs : swapsWithSole [.Tuple es k pos'] e pos.line X.env = pure false := by rfl) (hw : swappedStores [.Tuple es k pos'] e X.env = pure none := by rfl)
    (h1 : (assignEach [.Tuple es k pos'] X.env).map (·.2) = [assign (.Tuple es k pos') X.env] := by rfl) : PD1 X c (.Assign [.Tuple es k pos'] e pos) (gStar t g) := psImp (ps_asg h (pg_star hcm ht hn hst hm) hs hw h1) fun E σ H ⟨J, env, sr, w⟩ => by
  refine ⟨J, env, sr, wpM_mono (wpM_bind w) fun r wr v J1 H1 e1 r1 => ?_⟩
  obtain ⟨d, q, wr⟩ := wpM_toD wr
  obtain ⟨J1', e1', s1, rd⟩ := freeze e1 r1 q
  split at wr
  · rename_i xs
    split at wr
    · rename_i z hz
      split at wr
      · rename_i hl
        cases rd with
        | tup h1 hs =>
          obtain ⟨vs, vz, rfl, k1, k2⟩ := reps_last hz hs
          have sr1 := sr.ext e1'
          have ln : vs.length ≤ 1000 := by
            have := hs.length
            rw [List.length_append] at this
            simp at this
            omega
          refine ⟨_, vs, vz, rfl, by rw [hK]; exact sameT sr1.hp.sub h1, ln, fun p hp => ?_⟩
          have e2 : Ext J1' H1 (upd J1' p (.lst vs)) (upd H1 p (.lst vs)) := Ext.newJ sr1.hp.sub hp _
          refine ⟨_, env, _, sr1.ext e2, .cons (.lst (.inl (.inl upd_same)) (k1.mono e2.j)) (.cons (k2.mono e2.j) .nil), wpM_mono (wpM_bind wr) fun ev w2 σ' sr' _ => ?_⟩
          exact w2 σ' _ _ (e1'.j.trans e2.j) sr'
      · exact wr.elim
    · exact wr.elim
  · exact wr.elim
end
end DL
set_option Elab.async false
set_option linter.all false
set_option maxRecDepth 100000
set_option maxHeartbeats 4000000
namespace DL
open PySem PySem.Spec PyProof.Rows L2
/-! ### < of data -/
noncomputable def LtAt (A : Around) (s : Shared) (y x : Value) (b : Bool) : Prop :=
  ∀ (prog : Program) (w : World) (E : Value → Shared → Prop) (Q : Value → Shared → Prop), Q (.bool b) s → wpAny (model prog w) A (richCompare .Lt y x) Q E s
inductive PairsAt (A : Around) (s : Shared) (fin : Bool) : List (Value × Value) → Bool → Prop
  | nil : PairsAt A s fin [] fin
  | yes {x y : Value} {r : List (Value × Value)} {b : Bool} : SeqAt.EqAt A s x y true → PairsAt A s fin r b → PairsAt A s fin ((x, y) :: r) b
  | no {x y : Value} {r : List (Value × Value)} {b : Bool} : SeqAt.EqAt A s x y false → LtAt A s x y b → PairsAt A s fin ((x, y) :: r) b
section
open PySem.SeqAt
open PySem.AutoSeq1 (wpAny_loadPart')
open PySem.MeetsSeq PySem.MeetsSeq2 PySem.MeetsSeq3
theorem tuple_ltP (l b : Addr) (items items2 : Array Value) (n n2 : Nat) (dd dd2 : Option Addr) (sl sl2 : Array (Option Value)) (ans : Bool) :
    Meets (Builtin.«tuple.__lt__» ⟨[.ref l, .ref b], []⟩)
      (fun A R s => s.heap.get? l = some { cls := .type "tuple", dict := dd, data := .seq items n, slots := sl } ∧ s.heap.get? b = some { cls := .type "tuple", dict := dd2, data := .seq items2 n2, slots := sl2 } ∧
        PairsAt A.in1 s (decide (items.size < items2.size)) (items.toList.zip items2.toList) ans ∧ R (.ok (.ret (.bool ans))) s) :=
  .of_wp fun prog w A R s h => by
    obtain ⟨hp, g, d, tk, os⟩ := s; obtain ⟨hl, hb, hP, h⟩ := h
    have f2 := AutoSeq1.sub_tuple_tuple
    wp_walk using wpAny_loadPart' hl, wpAny_loadPart' hb, wpAny_forIn_list _ (fun rest b s' => b.1 = none ∧ s' = ⟨hp, g, d, tk, os⟩ ∧ PairsAt A.in1 ⟨hp, g, d, tk, os⟩ (decide (items.size < items2.size)) rest ans) _
    case turn =>
      rintro ⟨y, x⟩ rest b s' ⟨hb', rfl, hq⟩
      cases hq with
      | yes he hr =>
        refine wpAny_bind (he prog w _ _ ?_)
        wp_walk
        exact ⟨rfl, rfl, hr⟩
      | no he hlt =>
        refine wpAny_bind (he prog w _ _ ?_)
        have hri := hlt prog w
        wp_walk using hri
        exact ⟨_, rfl, by simpa using h⟩
    case fin =>
      rintro ⟨b1, b2⟩ s' ⟨hb', rfl, hq⟩
      simp only at hb'
      subst hb'
      cases hq
      wp_walk
      exact ⟨_, rfl, by simpa [Builtin.Tuple.tupleCompareSizes] using h⟩
    case h =>
      exact ⟨rfl, rfl, hP⟩
end
section
variable {K : PySem.W.Frag} {J : Hp} {s : Shared}
theorem lt_tupP {A : Around} {l b : Addr} {items items2 : Array Value} {ans : Bool} (hl : s.heap.IsTuple l items) (hb : s.heap.IsTuple b items2) (hP : PairsAt A.in1 s (decide (items.size < items2.size)) (items.toList.zip items2.toList) ans)
    (hu : A.units < cLine) : LtAt A s (.ref l) (.ref b) ans := fun prog w E Q h => by
  obtain ⟨⟨cls, dd, data, sl⟩, ho, hc, n, hd⟩ := id hl
  obtain ⟨⟨cls2, dd2, data2, sl2⟩, ho2, hc2, n2, hd2⟩ := id hb
  simp only at hc hd hc2 hd2
  subst hc hd hc2 hd2
  exact richCompare_meets_room (op := .Lt) ⟨_, ho, rfl⟩ ⟨_, ho2, rfl⟩ PySem.F.slot_tuple_lt PySem.F.entry_tuple_lt (PySem.F.args_tuple_lt_2 _ _) (tuple_ltP l b items items2 n n2 dd dd2 sl sl2 ans)
    ⟨ho, ho2, hP, show Value.bool ans ≠ Value.notImplemented ∧ Q (.bool ans) s from ⟨(fun x => nomatch x), h⟩⟩ hu
end
end DL
set_option Elab.async false
set_option linter.all false
set_option maxRecDepth 100000
set_option maxHeartbeats 4000000
namespace DL
open PySem PySem.Spec PyProof.Rows L2
section
variable {K : PySem.W.Frag} {J : Hp} {s : Shared}
mutual
noncomputable def ltD : D → D → Option Bool
  | .bl p, y => match y with
    | .bl q => some (!p && q)
    | _ => none
  | .int i, y => match y with
    | .int j => some (decide (i < j))
    | _ => none
  | .str x, y => match y with
    | .str z => some (decide (x.cps.toList < z.cps.toList))
    | _ => none
  | .tup xs, y => match y with
    | .tup ys => ltDs xs ys
    | _ => none
  | _, _ => none
noncomputable def ltDs : List D → List D → Option Bool
  | [], ys => some (!ys.isEmpty)
  | x :: xs, ys => match ys with
    | [] => some false
    | y :: ys => if eqD x y = true then ltDs xs ys else ltD x y
end
theorem ltAt_bl (A : Around) {p : Bool} {e : D} {w : V} {u' : Value} {b : Bool} (h : ltD (.bl p) e = some b) (re : Rep K J e w) (rw' : RelV w u') : LtAt A s (.bool p) u' b := by
  unfold ltD at h
  cases e with
  | bl q =>
    cases re
    cases rw'
    simp only [Option.some.injEq] at h
    subst h
    intro prog w E Q hq
    refine (lt_bool (p := p) (q := q) ?_ : wpAny (model prog w) A (compareOp .Lt (.bool p) (.bool q)) Q E s)
    cases p <;> cases q <;> exact hq
  | _ => cases h
theorem ltAt_int (A : Around) {p : Int} {t : Tok} {e : D} {w : V} {u' : Value} {b : Bool} (h : ltD (.int p) e = some b) (re : Rep K J e w) (rw' : RelV w u') : LtAt A s (.int p t) u' b := by
  unfold ltD at h
  cases e with
  | int q =>
    cases re
    obtain ⟨t', rfl⟩ := rw'
    simp only [Option.some.injEq] at h
    subst h
    intro prog w E Q hq
    exact (PyProof.Rows.lt_int hq : wpAny (model prog w) A (compareOp .Lt (.int p t) (.int q t')) Q E s)
  | _ => cases h
theorem ltAt_str (A : Around) {p : Str} {t : Tok} {e : D} {w : V} {u' : Value} {b : Bool} (h : ltD (.str p) e = some b) (re : Rep K J e w) (rw' : RelV w u') : LtAt A s (.str p t) u' b := by
  unfold ltD at h
  cases e with
  | str q =>
    cases re
    obtain ⟨t', rfl⟩ := rw'
    simp only [Option.some.injEq] at h
    subst h
    intro prog w E Q hq
    exact (PyProof.Rows.lt_str hq : wpAny (model prog w) A (compareOp .Lt (.str p t) (.str q t')) Q E s)
  | _ => cases h
noncomputable def LtOk (K : PySem.W.Frag) (J : Hp) (s : Shared) (d : D) : Prop := ∀ {e : D} {v w : V} {u u' : Value} {b : Bool} (A : Around), ltD d e = some b → Rep K J d v → Rep K J e w → RelV v u → RelV w u' → A.units + dep d < cLine → dep d ≤ 1000 → dep e ≤ 1000 → LtAt A s u u' b
noncomputable def LtOks (K : PySem.W.Frag) (J : Hp) (s : Shared) (ds : List D) : Prop := ∀ {es : List D} {vs ws : List V} {us us' : List Value} {b : Bool} {n1 n2 : Nat} (A : Around), ltDs ds es = some b → Reps K J ds vs → Reps K J es ws → Vals vs us → Vals ws us' → A.units + deps ds < cLine → deps ds ≤ 1000 → deps es ≤ 1000 →
    us.length + n2 = us'.length + n1 → PairsAt A s (decide (n1 < n2)) (us.zip us') b
theorem ltOk_tup (F : HF K J s) {ds : List D} (ih : LtOks K J s ds) : LtOk K J s (.tup ds) := by
  intro e v w u u' b A h rd re rv rw' hu k1 k2
  unfold ltD at h
  cases e with
  | tup es =>
    simp only at h
    cases rd with
    | tup h1 hs =>
      cases re with
      | tup h2 hs' =>
        cases rv; cases rw'
        obtain ⟨its, r, p⟩ := F.t _ _ h1
        obtain ⟨its', r', p'⟩ := F.t _ _ h2
        refine lt_tupP p p' ?_ (by unfold dep at hu; omega)
        have := ih A.in1 (n1 := its.length) (n2 := its'.length) h hs hs' r r' (by rw [in1_units]; unfold dep at hu; omega) (by unfold dep at k1; omega) (by unfold dep at k2; omega) (by omega)
        simpa using this
  | _ => cases h
theorem ltOks_nil : LtOks K J s [] := by
  intro es vs ws us us' b n1 n2 A h rd re rv rw' hu k1 k2 hl
  cases rd; cases rv
  cases re with
  | nil =>
    cases rw'
    simp only [ltDs, List.isEmpty_nil, Bool.not_true, Option.some.injEq] at h
    subst h
    have : decide (n1 < n2) = false := decide_eq_false (by simp at hl; omega)
    rw [this]
    exact .nil
  | cons _ _ =>
    cases rw'
    simp only [ltDs, List.isEmpty_cons, Bool.not_false, Option.some.injEq] at h
    subst h
    have : decide (n1 < n2) = true := decide_eq_true (by simp at hl; omega)
    rw [this]
    exact .nil
theorem ltOks_cons (F : HF K J s) {x : D} {xs : List D} (ix : LtOk K J s x) (ih : LtOks K J s xs) : LtOks K J s (x :: xs) := by
  intro es vs ws us us' b n1 n2 A h rd re rv rw' hu k1 k2 hl
  cases rd with
  | cons q1 r1 =>
    cases rv with
    | cons t1 u1 =>
      cases re with
      | nil =>
        cases rw'
        simp only [ltDs, Option.some.injEq] at h
        subst h
        have : decide (n1 < n2) = false := decide_eq_false (by simp at hl; omega)
        rw [this]
        exact .nil
      | cons q2 r2 =>
        cases rw' with
        | cons t2 u2 =>
          unfold deps at hu k1 k2
          rename_i y v' ys ws' u0 us0
          have he := eqAt_D F A q1 q2 t1 t2 (by omega) (by omega) (by omega)
          simp only [ltDs] at h
          cases z : eqD x y with
          | true =>
            rw [z, if_pos rfl] at h
            rw [z] at he
            exact .yes he (ih A h r1 r2 u1 u2 (by omega) (by omega) (by omega) (by simp at hl; omega))
          | false =>
            rw [z, if_neg Bool.false_ne_true] at h
            rw [z] at he
            exact .no he (ix A h q1 q2 t1 t2 (by omega) (by omega) (by omega))
mutual
theorem ltOk (F : HF K J s) : ∀ d : D, LtOk K J s d
  | .bl p => fun A h rd re rv rw' _ _ _ => by cases rd; cases rv; exact ltAt_bl A h re rw'
  | .int p => fun A h rd re rv rw' _ _ _ => by cases rd; obtain ⟨t, rfl⟩ := rv; exact ltAt_int A h re rw'
  | .str p => fun A h rd re rv rw' _ _ _ => by cases rd; obtain ⟨t, rfl⟩ := rv; exact ltAt_str A h re rw'
  | .tup ds => ltOk_tup F (ltOks F ds)
  | .non => fun A h _ _ _ _ _ _ _ => by unfold ltD at h; cases h
  | .lst _ => fun A h _ _ _ _ _ _ _ => by unfold ltD at h; cases h
  | .emp => fun A h _ _ _ _ _ _ _ => by unfold ltD at h; cases h
  | .exn _ _ _ => fun A h _ _ _ _ _ _ _ => by unfold ltD at h; cases h
theorem ltOks (F : HF K J s) : ∀ ds : List D, LtOks K J s ds
  | [] => ltOks_nil
  | x :: xs => ltOks_cons F (ltOk F x) (ltOks F xs)
end
end
end DL
set_option Elab.async false
set_option linter.all false
set_option maxRecDepth 100000
set_option maxHeartbeats 4000000
namespace DL
open PySem PySem.Spec PyProof.Rows L2
open PySem.W (KasT kas_sort kas_asc kas_desc kas_rev kas_tail3 kas_descPart kas_count kas_place kas_bin)
/-! ### the questions of a sort, answered by a function -/
noncomputable def runT {α : Type} (q : Nat → Nat → Bool) : KasT α → α
  | .ret a => a
  | .ask i j k => runT q (k (q i j))
inductive AskB (n : Nat) {α : Type} (P : α → Prop) : KasT α → Prop
  | ret {a : α} : P a → AskB n P (.ret a)
  | ask {i j : Nat} {k : Bool → KasT α} : i < n → j < n → (∀ b, AskB n P (k b)) → AskB n P (.ask i j k)
theorem AskB.bind {n : Nat} {α β : Type} {P : α → Prop} {R : β → Prop} {f : α → KasT β} {t : KasT α} (h : AskB n P t) (hf : ∀ a, P a → AskB n R (f a)) : AskB n R (t.bind f) := by
  induction h with
  | ret p => exact hf _ p
  | ask h1 h2 _ ih => exact .ask h1 h2 ih
theorem AskB.run {n : Nat} {α : Type} {P : α → Prop} {t : KasT α} (q : Nat → Nat → Bool) (h : AskB n P t) : P (runT q t) := by
  induction h with
  | ret p => exact p
  | ask _ _ _ ih => exact ih _
theorem AskB.wp {n : Nat} {α : Type} {P : α → Prop} {t : KasT α} {q : Nat → Nat → Bool} {cmp : Nat → Nat → (Bool → Shared → Prop) → Shared → Prop} {s : Shared} {G : α → Shared → Prop} (h : AskB n P t)
    (hc : ∀ i j C, i < n → j < n → C (q i j) s → cmp i j C s) (hG : G (runT q t) s) : t.kasWp cmp G s := by
  induction h with
  | ret p => exact hG
  | ask h1 h2 _ ih => exact hc _ _ _ h1 h2 (ih _ hG)
/-- an order of the first n numbers -/
noncomputable def IsO (n : Nat) (p : Array Nat) : Prop := p.Perm (List.range n).toArray
theorem IsO.lt {n : Nat} {p : Array Nat} (h : IsO n p) (hn : 0 < n) (k : Nat) : p.getD k 0 < n := by
  by_cases hk : k < p.size
  · have e : p.getD k 0 = p[k] := by simp [Array.getD, hk]
    rw [e]
    have hm : p[k] ∈ p := Array.getElem_mem hk
    have := (Array.Perm.mem_iff h).mp hm
    simpa using this
  · have e : p.getD k 0 = 0 := by simp [Array.getD, hk]
    rw [e]; exact hn
theorem IsO.rev {n : Nat} {p : Array Nat} (h : IsO n p) (i j : Nat) : IsO n (kas_rev p i j) := (mirror_perm _ _ _ _).trans h
theorem IsO.bub {n : Nat} {p : Array Nat} (h : IsO n p) (i j : Nat) : IsO n (bubble p i j) := (bubble_perm _ _ _).trans h
variable {n : Nat}
theorem b_asc {p : Array Nat} (hn : 0 < n) (h : IsO n p) : ∀ f m, AskB n (fun _ : Nat => True) (kas_asc p f m)
  | 0, m => .ret trivial
  | f + 1, m => .ask (h.lt hn _) (h.lt hn _) fun b => by cases b with
    | true => exact .ret trivial
    | false => exact b_asc hn h f (m + 1)
theorem b_desc (hn : 0 < n) : ∀ f {p : Array Nat} m q, IsO n p → AskB n (fun r : Array Nat × Nat × Nat => IsO n r.1) (kas_desc f p m q)
  | 0, p, m, q, h => .ret h
  | f + 1, p, m, q, h => .ask (h.lt hn _) (h.lt hn _) fun b => by
    cases b with
    | true =>
      simp only [if_true]
      by_cases hq : q > 0
      · rw [if_pos hq]; exact b_desc hn f _ _ (h.rev _ _)
      · rw [if_neg hq]; exact b_desc hn f _ _ h
    | false =>
      simp only [Bool.false_eq_true, if_false]
      refine .ask (h.lt hn _) (h.lt hn _) fun b => ?_
      cases b with
      | true => exact .ret h
      | false => exact b_desc hn f _ _ h
theorem b_tail (hn : 0 < n) {p : Array Nat} (h : IsO n p) (m k : Nat) : AskB n (fun r : Nat × Array Nat => IsO n r.2) (kas_tail3 m k p) := (b_asc hn (h.rev 0 m) _ _).bind fun a _ => .ret (h.rev _ _)
theorem b_descP (hn : 0 < n) {p : Array Nat} (h : IsO n p) (m k : Nat) : AskB n (fun r : Nat × Array Nat => IsO n r.2) (kas_descPart m k p) := (b_desc hn _ _ _ h).bind fun r hr => by
  split
  · exact b_tail hn (hr.rev _ _) _ _
  · exact b_tail hn hr _ _
theorem b_count (hn : 0 < n) {p : Array Nat} (h : IsO n p) (k : Nat) : AskB n (fun r : Nat × Array Nat => IsO n r.2) (kas_count k p) := (b_asc hn h _ _).bind fun m _ => by
  split
  · exact .ret h
  · split
    · refine .ask (h.lt hn _) (h.lt hn _) fun b => ?_
      cases b with
      | true => exact .ret h
      | false => exact b_descP hn (h.rev _ _) _ _
    · exact b_descP hn h _ _
theorem b_place (hn : 0 < n) {p : Array Nat} (h : IsO n p) (k : Nat) : ∀ f l r, AskB n (fun _ : Nat => True) (kas_place p k f l r)
  | 0, l, r => .ret trivial
  | f + 1, l, r => by
    unfold kas_place
    split
    · exact .ret trivial
    · refine .ask (h.lt hn _) (h.lt hn _) fun b => ?_
      cases b with
      | true => exact b_place hn h k f _ _
      | false => exact b_place hn h k f _ _
theorem b_bin (hn : 0 < n) : ∀ f {p : Array Nat} k, IsO n p → AskB n (IsO n) (kas_bin f p k)
  | 0, p, k, h => .ret h
  | f + 1, p, k, h => (b_place hn h k _ _ _).bind fun l _ => b_bin hn f _ (h.bub _ _)
theorem b_sort (hn : 0 < n) : AskB n (IsO n) (kas_sort n) := (b_count hn (show IsO n _ from Array.Perm.refl _) n).bind fun r hr => by
  split
  · exact b_bin hn _ _ hr
  · exact .ret hr
end DL
set_option Elab.async false
set_option linter.all false
set_option maxRecDepth 100000
set_option maxHeartbeats 4000000
namespace DL
open PySem PySem.Spec PyProof.Rows L2
open PySem.W (KasT kas_sort kas_ask kas_item kat_run kat_snds KatLex kat_cons kat_yes kat_no kat_lt kat_one KatTups kat_kind Looks)
section
variable {prog : Program} {w : World} {A : Around} {E : Value → Shared → Prop} {s : Shared}
/-- the items in their order, the questions answered by q -/
noncomputable def outP (q : Nat → Nat → Bool) (vs : List Value) : List Value := (runT q (kas_sort vs.length)).toList.map fun i => vs.getD i Value.none
theorem outP_len (q : Nat → Nat → Bool) {vs : List Value} (h : 0 < vs.length) : (outP q vs).length = vs.length := by
  unfold outP
  rw [List.length_map, Array.length_toList]
  have := ((b_sort h).run q : IsO _ _).size_eq
  simpa using this
theorem list_sortP {a : Addr} {vs : List Value} {n : Nat} {κ : SortKind} {q : Nat → Nat → Bool} {P : PySem.Fin → Shared → Prop} (ho : s.heap.get? a = some (seqObj "list" vs.toArray n)) (h2 : 2 ≤ vs.length) (h64 : vs.length < 64)
    (hk : ∀ h' C, (∀ b o, b ≠ a → s.heap.get? b = some o → h'.get? b = some o) → C κ { s with heap := h' } → wpAny (model prog w) A (keyKind' vs.toArray) C (fun _ _ => False) { s with heap := h' })
    (hc : ∀ h', (∀ b o, b ≠ a → s.heap.get? b = some o → h'.get? b = some o) → ∀ i j C, i < vs.length → j < vs.length → C (q i j) { s with heap := h' } → kas_ask prog w A κ vs i j C { s with heap := h' })
    (h : P (.done (.ret .none)) { s with heap := sortedHeap s.heap a vs (outP q vs).toArray }) : wpAny (model prog w) A (Builtin.«list.sort» ⟨[.ref a], []⟩) P E s := by
  have la : a < s.heap.objs.size := Heap.lt_size ho
  have sl : vs.length ≤ sizeLine := by rw [sizeLine_eq]; omega
  obtain ⟨e1, g1⟩ : ∃ e1, (s.heap.update a (Obj.mapSeq fun _ => (#[] : Array Value))).get? a = some (seqObj "list" #[] e1) := ⟨_, (get?_update_seq ho fun _ => #[])⟩
  have z1 : (s.heap.update a (Obj.mapSeq fun _ => (#[] : Array Value))).objs.size = s.heap.objs.size := (Heap.size_update _ _ _)
  have g3 : (((s.heap.update a (Obj.mapSeq fun _ => (#[] : Array Value))).push (seqObj "tuple" vs.toArray 0)).push (seqObj "list" #[] 0)).get? a = some (seqObj "list" #[] e1) := (Heap.get?_push_of_some _ ((Heap.get?_push_of_some _ g1)))
  have kp : ∀ b o, b ≠ a → s.heap.get? b = some o → (((s.heap.update a (Obj.mapSeq fun _ => (#[] : Array Value))).push (seqObj "tuple" vs.toArray 0)).push (seqObj "list" #[] 0)).get? b = some o := fun b o nb q =>
    Heap.get?_push_of_some _ (Heap.get?_push_of_some _ (by rw [Heap.get?_update_ne _ _ _ _ nb]; exact q))
  rw [list_sort_plain]
  refine wpAny_bind ((listItems_at ho rfl ?_))
  refine wpAny_bind (listUpdate_at ho rfl ?_ (by rw [List.size_toArray]; exact sl) (Nat.zero_le _))
  refine wpAny_bind ((seqEpoch_at g1 rfl ?_))
  refine wpAny_bind (wpAny_newTuple ?_ (show vs.length ≤ _ from sl))
  refine wpAny_bind ((wpAny_newList ?_ (Nat.zero_le _)))
  refine (wpAny_holding ?_)
  dsimp only
  have n2 : ¬ vs.toArray.size < 2 := by (rw [List.size_toArray]); omega
  rw [if_neg n2, if_neg n2]
  refine wpAny_bind (wpAny_mono (hk _ (fun k s' => k = κ ∧ s' = _) kp ⟨rfl, rfl⟩) ?_ fun _ _ x => x.elim)
  rintro _ _ ⟨rfl, rfl⟩
  refine wpAny_bind (wpAny_mono (kat_run (E := E) (Q := fun st' s' => ∃ p : Array Nat, p.size = vs.length ∧ arrOf st' = p.map (kas_item (vs.toArray.zip vs.toArray)) ∧ failedOf st' = none ∧ p = runT q (kas_sort vs.length) ∧ s' = _)
    rfl h2 h64 (fun p' st' s' a1 a2 a3 a4 => ⟨p', a1, a2, a3, a4⟩) ((b_sort (by omega)).wp (q := q) (hc _ kp) ⟨rfl, rfl⟩)) ?_ fun _ _ e => e)
  rintro ⟨⟨⟩, st'⟩ s' ⟨p, hp, har, hf, rfl, rfl⟩
  dsimp only
  have ou : (arrOf st').map (·.2) = (outP q vs).toArray := kat_snds rfl har
  rw [ou]
  refine wpAny_bind ((seqEpoch_at g3 rfl ?_))
  refine wpAny_bind (listUpdate_at g3 rfl ?_ (Nat.zero_le _) (Nat.le_trans (Nat.le_of_eq (List.size_toArray.trans (outP_len q (Nat.lt_of_lt_of_le Nat.zero_lt_two h2)))) (Nat.le_succ_of_le sl)))
  rw [hf]
  simp only [bne_self_eq_false, Bool.false_eq_true, if_false]
  exact wpAny_pure h
theorem sortedP {l : Addr} {vs : List Value} {κ : SortKind} {q : Nat → Nat → Bool} {Q : Value → Shared → Prop} (hl : s.heap.IsList l vs.toArray) (h2 : 2 ≤ vs.length) (h64 : vs.length < 64)
    (hk : ∀ h' C, (∀ b o, s.heap.get? b = some o → h'.get? b = some o) → C κ { s with heap := h' } → wpAny (model prog w) A.in1.in1 (keyKind' vs.toArray) C (fun _ _ => False) { s with heap := h' })
    (hc : ∀ h', (∀ b o, s.heap.get? b = some o → h'.get? b = some o) → ∀ i j C, i < vs.length → j < vs.length → C (q i j) { s with heap := h' } → kas_ask prog w A.in1.in1 κ vs i j C { s with heap := h' })
    (h : Q (.ref (s.heap.objs.size + 1)) { s with heap := sortedAll s.heap vs (outP q vs).toArray }) : wpAny (model prog w) A (call (.builtin "sorted") [.ref l]) Q E s := by
  have sl : vs.length ≤ sizeLine := by rw [sizeLine_eq]; omega
  refine (Calls.call_function_entry kind_sorted plain_sorted entry_sorted (args_sorted1 _) ?_)
  unfold Builtin.«sorted»
  refine wpAny_bind (m := checkCount "sorted" 1 1 _) ((wpAny_pure ?_))
  refine wpAny_bind (collect_list hl ?_ sl)
  refine wpAny_bind (wpAny_newList ?_ sl)
  have z : ((s.heap.push (seqObj "list" #[] 0)).update s.heap.objs.size (Obj.mapSeq (· ++ vs.toArray))).objs.size = s.heap.objs.size + 1 := (by rw [Heap.size_update, size_push'])
  have gL : (((s.heap.push (seqObj "list" #[] 0)).update s.heap.objs.size (Obj.mapSeq (· ++ vs.toArray))).push (seqObj "list" vs.toArray 0)).get? (s.heap.objs.size + 1) = some (seqObj "list" vs.toArray 0) := (by rw [← z]; exact Heap.get?_push_size _ rfl)
  have kp : ∀ b o, s.heap.get? b = some o → b ≠ s.heap.objs.size + 1 ∧ (((s.heap.push (seqObj "list" #[] 0)).update s.heap.objs.size (Obj.mapSeq (· ++ vs.toArray))).push (seqObj "list" vs.toArray 0)).get? b = some o := fun b o e => by
    have lb : b < s.heap.objs.size := Heap.lt_size e
    refine ⟨Nat.ne_of_lt (Nat.lt_succ_of_lt lb), ?_⟩
    rw [Heap.get?_push_ne _ _ _ (z ▸ Nat.ne_of_lt (Nat.lt_succ_of_lt lb)), Heap.get?_update_ne _ _ _ _ (Nat.ne_of_lt lb), Heap.get?_push_ne _ _ _ ((Nat.ne_of_lt lb))]
    exact e
  dsimp only
  rw [z]
  refine wpAny_bind (wpAny_holding (wpAny_call_entry slot_list_sort ⟨_, gL, rfl⟩ entry_list_sort (list_sortP (κ := κ) (q := q) gL h2 h64 (fun h' C k c => ?_) (fun h' k i j C hi hj c => ?_) ⟨_, rfl, ?_⟩) (args_list_sort _)))
  · exact hk h' C (fun b o e => k b o (kp b o e).1 (kp b o e).2) c
  · exact hc h' (fun b o e => k b o (kp b o e).1 (kp b o e).2) i j C hi hj c
  · exact wpAny_pure ⟨_, rfl, h⟩
end
end DL
set_option Elab.async false
set_option linter.all false
set_option maxRecDepth 100000
set_option maxHeartbeats 4000000
namespace DL
open PySem PySem.Spec PyProof.Rows L2
open PySem.W (KasT kas_sort kas_ask KatLex kat_nil kat_cons kat_yes kat_no kat_lt kat_one KatTups kat_kind Looks)
section
variable {prog : Program} {w : World} {A : Around} {E : Value → Shared → Prop} {s : Shared} {K : PySem.W.Frag} {J : Hp}
theorem katLex_of {fin ans : Bool} {Q : Bool → Shared → Prop} {zs : List (Value × Value)} {b : Bool} (h : PairsAt A s fin zs ans) (hq : Q ans s) : ∀ {i : Nat}, (b && i == 0) = false → KatLex prog w A b fin Q zs i s := by
  induction h with
  | nil => intro i _; exact kat_nil hq
  | yes he _ ih => intro i _; exact kat_cons (he prog w _ _ (kat_yes (ih hq (by cases b <;> rfl))))
  | no he hl =>
    intro i hb
    refine kat_cons (he prog w _ _ (kat_no ?_))
    rw [hb]
    exact kat_one _ _ (hl prog w _ _ hq)
theorem katHead {fin ans e : Bool} {Q : Bool → Shared → Prop} {u u' : Value} {zs : List (Value × Value)} (he : SeqAt.EqAt A s u u' e) (h1 : e = true → PairsAt A s fin zs ans)
    (h2 : e = false → wpAny (model prog w) A (oneLt' true u u') Q (fun _ _ => False) s) (hq : Q ans s) : KatLex prog w A true fin Q ((u, u') :: zs) 0 s := by
  cases e with
  | true => exact kat_cons (he prog w _ _ (kat_yes (katLex_of (h1 rfl) hq rfl)))
  | false => exact kat_cons (he prog w _ _ (kat_no (h2 rfl)))
/-- whether these are tuples of one kind at their head, for the first question's way -/
inductive Hd where
  | t | i | x
noncomputable def hdOf : D → Option Hd
  | .tup (.tup _ :: _) => some .t
  | .tup (.int _ :: _) => some .i
  | .tup (.str _ :: _) => some .x
  | _ => none
noncomputable def Hd.flag : Hd → Bool
  | .t => false
  | _ => true
noncomputable def Hd.ty : Hd → Value
  | .t => .type "tuple"
  | .i => .type "int"
  | .x => .type "str"
/-- what the first question asks of two heads -/
theorem oneLt_hd {x y : D} {v v' : V} {u u' : Value} {k : Hd} {b : Bool} {C : Bool → Shared → Prop} {xs ys : List D} (hd : hdOf (.tup (x :: xs)) = some k) (he : hdOf (.tup (y :: ys)) = some k) (hf : k.flag = true) (h : ltD x y = some b) (rd : Rep K J x v) (re : Rep K J y v') (rv : RelV v u) (rv' : RelV v' u') (c : C b s) :
    wpAny (model prog w) A (oneLt' true u u') C E s := by
  cases x with
  | int x =>
    cases hd
    cases y with
    | int y =>
      cases rd; cases re
      obtain ⟨tk, rfl⟩ := rv
      obtain ⟨tk', rfl⟩ := rv'
      unfold ltD at h
      simp only [Option.some.injEq] at h
      refine oneLt_int ?_
      rw [h]; exact c
    | _ => cases he
  | str x =>
    cases hd
    cases y with
    | str y =>
      cases rd; cases re
      obtain ⟨tk, rfl⟩ := rv
      obtain ⟨tk', rfl⟩ := rv'
      unfold ltD at h
      simp only [Option.some.injEq] at h
      refine oneLt_str ?_
      rw [h]; exact c
    | _ => cases he
  | tup _ => cases hd; cases hf
  | _ => cases hd
theorem keyLt_D (F : HF K J s) {d e : D} {v v' : V} {u u' : Value} {k : Hd} {b : Bool} {C : Bool → Shared → Prop} (hd : hdOf d = some k) (he : hdOf e = some k) (h : ltD d e = some b) (rd : Rep K J d v) (re : Rep K J e v') (rv : RelV v u) (rv' : RelV v' u')
    (hu : A.units + dep d < cLine) (k1 : dep d ≤ 1000) (k2 : dep e ≤ 1000) (c : C b s) : wpAny (model prog w) A (keyLt' (tuples' k.flag) u u') C E s := by
  cases d with
  | tup ds =>
    cases e with
    | tup es =>
      unfold ltD at h
      simp only at h
      cases rd with
      | tup h1 hs =>
        cases re with
        | tup h2 hs' =>
          cases rv; cases rv'
          obtain ⟨its, r, p⟩ := F.t _ _ h1
          obtain ⟨its', r', p'⟩ := F.t _ _ h2
          obtain ⟨o, ho, hc, m, dm⟩ := id p
          obtain ⟨o', ho', hc', m', dm'⟩ := id p'
          refine kat_lt ho dm ho' dm' ?_
          simp only [List.size_toArray]
          cases hf : k.flag with
          | false =>
            exact katLex_of (ltOks F ds A (n1 := its.length) (n2 := its'.length) h hs hs' r r' (by unfold dep at hu; omega) (by unfold dep at k1; omega) (by unfold dep at k2; omega) (by omega)) c rfl
          | true =>
            cases hs with
            | nil => cases hd
            | cons q1 t1 =>
              cases hs' with
              | nil => cases he
              | cons q2 t2 =>
                cases r with
                | cons a1 b1 =>
                  cases r' with
                  | cons a2 b2 =>
                    unfold dep deps at hu k1 k2
                    rw [List.zip_cons_cons]
                    unfold ltDs at h
                    simp only at h
                    refine katHead (ans := b) (eqAt_D F A q1 q2 a1 a2 (by omega) (by omega) (by omega)) (fun z => ?_) (fun z => ?_) c
                    · rw [z, if_pos rfl] at h
                      exact ltOks F _ A h t1 t2 b1 b2 (by omega) (by omega) (by omega) (by simp; omega)
                    · rw [z, if_neg Bool.false_ne_true] at h
                      exact oneLt_hd hd he hf h q1 q2 a1 a2 c
    | _ => cases he
  | _ => cases hd
/-! ### the kind of the keys -/
noncomputable def allHd (k : Hd) : List D → Bool
  | [] => true
  | d :: r => (match hdOf d, k with
    | some .t, .t => true
    | some .i, .i => true
    | some .x, .x => true
    | _, _ => false) && allHd k r
theorem allHd_mem {k : Hd} : ∀ {ds : List D}, allHd k ds = true → ∀ d ∈ ds, hdOf d = some k
  | [], _, _, hm => nomatch hm
  | x :: r, h, d, hm => by
    unfold allHd at h
    rw [Bool.and_eq_true] at h
    rcases List.mem_cons.mp hm with rfl | hm
    · cases q : hdOf d with
      | none => rw [q] at h; cases h.1
      | some k' => rw [q] at h; cases k' <;> cases k <;> first | rfl | cases h.1
    · exact allHd_mem h.2 d hm
theorem head_look (F : HF K J s) {d : D} {v : V} {u : Value} {k : Hd} (hd : hdOf d = some k) (rd : Rep K J d v) (rv : RelV v u) : ∃ a o xs n f, u = .ref a ∧ s.heap.get? a = some o ∧ o.cls = .type "tuple" ∧ o.data = .seq xs n ∧ xs[0]? = some f ∧ Looks (model prog w) s.heap (typeOf f) k.ty := by
  cases d with
  | tup ds =>
    cases rd with
    | tup h1 hs =>
      cases rv
      obtain ⟨its, r, p⟩ := F.t _ _ h1
      obtain ⟨o, ho, hc, m, dm⟩ := id p
      cases hs with
      | nil => cases hd
      | cons q1 t1 =>
        cases r with
        | cons a1 b1 =>
          refine ⟨_, o, _, m, _, rfl, ho, hc, dm, rfl, ?_⟩
          rename_i x v' ds' vs' u us
          cases x with
          | tup _ =>
            cases hd
            cases q1 with
            | tup h2 _ =>
              cases a1
              obtain ⟨its2, _, p2⟩ := F.t _ _ h2
              obtain ⟨o2, ho2, hc2, _, _⟩ := id p2
              have := (Looks.ld (M := model prog w) (part := none) ho2).andThen (f := fun o => pure o.cls) (b := o2.cls) .now
              rw [hc2] at this
              exact this
          | int _ =>
            cases hd
            cases q1
            obtain ⟨tk, rfl⟩ := a1
            exact .now
          | str _ =>
            cases hd
            cases q1
            obtain ⟨tk, rfl⟩ := a1
            exact .now
          | _ => cases hd
  | _ => cases hd
theorem heads_look (F : HF K J s) {k : Hd} : ∀ {ds : List D} {vs : List V} {us : List Value}, allHd k ds = true → Reps K J ds vs → Vals vs us → ∃ fs, KatTups s.heap us fs ∧ fs.length = us.length ∧ ∀ v ∈ fs, Looks (model prog w) s.heap (typeOf v) k.ty
  | _, _, _, _, .nil, .nil => ⟨[], trivial, rfl, fun _ h => nomatch h⟩
  | d :: ds, _, _, h, .cons q rs, .cons a b => by
    have hd := allHd_mem h d (List.mem_cons_self ..)
    unfold allHd at h
    rw [Bool.and_eq_true] at h
    obtain ⟨fs, h1, h2, h3⟩ := heads_look F h.2 rs b
    obtain ⟨p, o, xs, n, f, rfl, e1, e2, e3, e4, e5⟩ := head_look (prog := prog) (w := w) F hd q a
    refine ⟨f :: fs, ⟨⟨p, o, xs, n, rfl, e1, e2, e3, e4⟩, h1⟩, by simp [h2], fun v hv => ?_⟩
    rcases List.mem_cons.mp hv with rfl | hv
    · exact e5
    · exact h3 v hv
theorem flag_eq (k : Hd) : (k.ty != Value.type "tuple") = k.flag := by cases k <;> decide
theorem keyKind_D (F : HF K J s) {k : Hd} {ds : List D} {vs : List V} {us : List Value} (h : allHd k ds = true) (rs : Reps K J ds vs) (rv : Vals vs us) (hl : 0 < us.length) {C : SortKind → Shared → Prop} (c : C (tuples' k.flag) s) : wpAny (model prog w) A (keyKind' us.toArray) C E s := by
  obtain ⟨fs, h1, h2, h3⟩ := heads_look (prog := prog) (w := w) F h rs rv
  refine kat_kind h1 (by omega) h3 (by cases k <;> decide) ?_
  rw [flag_eq]
  exact c
end
end DL
set_option Elab.async false
set_option linter.all false
set_option maxRecDepth 100000
set_option maxHeartbeats 4000000
namespace DL
open PySem PySem.Spec PyProof.Rows L2
open PySem.W (KasT kas_sort kas_ask)
section
variable {prog : Program} {w : World} {A : Around} {E : Value → Shared → Prop} {s : Shared}
theorem list_sortF {a : Addr} {vs : List Value} {n : Nat} {P : PySem.Fin → Shared → Prop} (ho : s.heap.get? a = some (seqObj "list" vs.toArray n)) (h2 : vs.length < 2)
    (h : P (.done (.ret .none)) { s with heap := sortedHeap s.heap a vs vs.toArray }) : wpAny (model prog w) A (Builtin.«list.sort» ⟨[.ref a], []⟩) P E s := by
  have sl : vs.length ≤ sizeLine := by rw [sizeLine_eq]; omega
  obtain ⟨e1, g1⟩ : ∃ e1, (s.heap.update a (Obj.mapSeq fun _ => (#[] : Array Value))).get? a = some (seqObj "list" #[] e1) := ⟨_, (get?_update_seq ho fun _ => #[])⟩
  have g3 : (((s.heap.update a (Obj.mapSeq fun _ => (#[] : Array Value))).push (seqObj "tuple" vs.toArray 0)).push (seqObj "list" #[] 0)).get? a = some (seqObj "list" #[] e1) := (Heap.get?_push_of_some _ ((Heap.get?_push_of_some _ g1)))
  rw [list_sort_plain]
  refine wpAny_bind ((listItems_at ho rfl ?_))
  refine wpAny_bind (listUpdate_at ho rfl ?_ (by rw [List.size_toArray]; exact sl) (Nat.zero_le _))
  refine wpAny_bind ((seqEpoch_at g1 rfl ?_))
  refine wpAny_bind (wpAny_newTuple ?_ (show vs.length ≤ _ from sl))
  refine wpAny_bind ((wpAny_newList ?_ (Nat.zero_le _)))
  refine (wpAny_holding ?_)
  dsimp only
  have n2 : vs.toArray.size < 2 := by (rw [List.size_toArray]); omega
  rw [if_pos n2, if_pos n2]
  refine (wpAny_bind (wpAny_pure ?_))
  rw [StateT.run_pure]
  refine (wpAny_bind (wpAny_pure ?_))
  dsimp only
  have ou : (arrOf (SortSt.mk' general' (vs.toArray.zip vs.toArray) #[] 7 none)).map (·.2) = vs.toArray := by
    show (vs.toArray.zip vs.toArray).map (·.2) = vs.toArray
    match vs, h2 with
    | [], _ => simp
    | [_], _ => simp
  rw [ou]
  refine wpAny_bind ((seqEpoch_at g3 rfl ?_))
  refine wpAny_bind (listUpdate_at g3 rfl ?_ (Nat.zero_le _) (by rw [List.size_toArray]; omega))
  simp only [bne_self_eq_false, Bool.false_eq_true, if_false]
  exact wpAny_pure h
theorem sortedF {l : Addr} {vs : List Value} {Q : Value → Shared → Prop} (hl : s.heap.IsList l vs.toArray) (h2 : vs.length < 2)
    (h : Q (.ref (s.heap.objs.size + 1)) { s with heap := sortedAll s.heap vs vs.toArray }) : wpAny (model prog w) A (call (.builtin "sorted") [.ref l]) Q E s := by
  have sl : vs.length ≤ sizeLine := by rw [sizeLine_eq]; omega
  refine (Calls.call_function_entry kind_sorted plain_sorted entry_sorted (args_sorted1 _) ?_)
  unfold Builtin.«sorted»
  refine wpAny_bind (m := checkCount "sorted" 1 1 _) ((wpAny_pure ?_))
  refine wpAny_bind (collect_list hl ?_ sl)
  refine wpAny_bind (wpAny_newList ?_ sl)
  have z : ((s.heap.push (seqObj "list" #[] 0)).update s.heap.objs.size (Obj.mapSeq (· ++ vs.toArray))).objs.size = s.heap.objs.size + 1 := (by rw [Heap.size_update, size_push'])
  have gL : (((s.heap.push (seqObj "list" #[] 0)).update s.heap.objs.size (Obj.mapSeq (· ++ vs.toArray))).push (seqObj "list" vs.toArray 0)).get? (s.heap.objs.size + 1) = some (seqObj "list" vs.toArray 0) := (by rw [← z]; exact Heap.get?_push_size _ rfl)
  dsimp only
  rw [z]
  refine wpAny_bind (wpAny_holding (wpAny_call_entry slot_list_sort ⟨_, gL, rfl⟩ entry_list_sort (list_sortF gL h2 ⟨_, rfl, ?_⟩) (args_list_sort _)))
  exact wpAny_pure ⟨_, rfl, h⟩
end
/-! ### upon data -/
noncomputable def atD (ds : List D) (i : Nat) : D := ds.getD i .non
noncomputable def ltB (ds : List D) (i j : Nat) : Bool := (ltD (atD ds i) (atD ds j)).getD false
noncomputable def sortT (ds : List D) : List D := if ds.length < 2 then ds else (runT (ltB ds) (kas_sort ds.length)).toList.map (atD ds)
noncomputable def cmpAll (ds : List D) : Bool := ds.all fun x => ds.all fun y => (ltD x y).isSome
noncomputable def okHd (ds : List D) : Bool := match ds with
  | [] => false
  | d :: _ => match hdOf d with
    | some k => allHd k ds
    | none => false
noncomputable def okT (ds : List D) : Bool := decide (ds.length < 2) || (decide (ds.length < 64) && (decide (deps ds ≤ 60) && (okHd ds && cmpAll ds)))
section
variable {K : PySem.W.Frag} {J : Hp}
theorem reps_nth {ds : List D} {vs : List V} (h : Reps K J ds vs) : ∀ {i : Nat}, i < ds.length → Rep K J (atD ds i) (vs.getD i V.non) := by
  induction ds generalizing vs with
  | nil => intro i hi; exact absurd hi (Nat.not_lt_zero _)
  | cons x r ih =>
    intro i hi
    cases h with
    | cons q rs =>
      cases i with
      | zero => simpa [atD] using q
      | succ i => simpa [atD] using ih rs (i := i) (by simpa using hi)
theorem vals_nth {vs : List V} {us : List Value} (h : Vals vs us) : ∀ {i : Nat}, i < vs.length → RelV (vs.getD i V.non) (us.getD i Value.none) := by
  induction vs generalizing us with
  | nil => intro i hi; exact absurd hi (Nat.not_lt_zero _)
  | cons x r ih =>
    intro i hi
    cases h with
    | cons q rs =>
      cases i with
      | zero => simpa using q
      | succ i => simpa using ih rs (i := i) (by simpa using hi)
theorem reps_ix {ds : List D} {vs : List V} (h : Reps K J ds vs) : ∀ ix : List Nat, (∀ i ∈ ix, i < ds.length) → Reps K J (ix.map (atD ds)) (ix.map fun i => vs.getD i V.non)
  | [], _ => .nil
  | i :: r, hi => .cons (reps_nth h (hi i (List.mem_cons_self ..))) (reps_ix h r fun j hj => hi j (List.mem_cons_of_mem _ hj))
theorem vals_ix {vs : List V} {us : List Value} (h : Vals vs us) : ∀ ix : List Nat, (∀ i ∈ ix, i < vs.length) → Vals (ix.map fun i => vs.getD i V.non) (ix.map fun i => us.getD i Value.none)
  | [], _ => .nil
  | i :: r, hi => .cons (vals_nth h (hi i (List.mem_cons_self ..))) (vals_ix h r fun j hj => hi j (List.mem_cons_of_mem _ hj))
theorem dep_nth {ds : List D} : ∀ {i : Nat}, i < ds.length → dep (atD ds i) ≤ deps ds := by
  induction ds with
  | nil => intro i hi; exact absurd hi (Nat.not_lt_zero _)
  | cons x r ih =>
    intro i hi
    unfold deps
    cases i with
    | zero => show dep x ≤ _; omega
    | succ i =>
      have := ih (i := i) (by simpa using hi)
      have e : atD (x :: r) (i + 1) = atD r i := rfl
      rw [e]; omega
theorem atD_mem {ds : List D} {i : Nat} (hi : i < ds.length) : atD ds i ∈ ds := by
  have e : atD ds i = ds[i] := by simp [atD, hi]
  rw [e]; exact List.getElem_mem hi
theorem HF.keeps {s : Shared} {h' : Heap} (F : HF K J s) (k : ∀ b o, s.heap.get? b = some o → h'.get? b = some o) : HF K J { s with heap := h' } :=
  ⟨fun a xs h => let ⟨its, r, o, ho, q⟩ := F.t a xs h; ⟨its, r, o, k _ _ ho, q⟩, fun a xs h => let ⟨its, r, o, ho, q⟩ := F.l a xs h; ⟨its, r, o, k _ _ ho, q⟩, fun a h => let ⟨o, ho, q⟩ := F.e a h; ⟨o, k _ _ ho, q⟩⟩
end
section
variable {X : Cx} {c : C} {e : Expr} {es : List Expr} {pos : Pos}
theorem call_sortedT (hu : X.A.units + 64 < cLine) : CallR X (.builtin "sorted") (fun xs H Q => ∃ p vs ds, xs = [.ref p] ∧ SqL X.K H p vs ∧ Reps X.K H ds vs ∧ okT ds = true ∧ ∀ l vs', H l = none → (∀ J, Reps X.K J ds vs → Reps X.K J (sortT ds) vs') → Q (.ref l) (upd H l (.lst vs'))) := by
  intro pins s σ H xs us Q I r h
  obtain ⟨p, vs, ds, rfl, hq, rs, ok, q⟩ := h
  obtain ⟨u, rfl, rx⟩ := vals1 r
  cases rx
  obtain ⟨its, r', pl, hz⟩ := I.list hq
  have l1 : vs.length = its.length := r'.length
  have l2 : ds.length = vs.length := rs.length
  have fr : H (s.heap.objs.size + 1) = none := I.hok.fresh (Nat.le_succ _)
  have fin : ∀ (out : List Value) (vs' : List V), vs'.length = vs.length → Vals vs' out → (∀ J, Reps X.K J ds vs → Reps X.K J (sortT ds) vs') → ∃ v H', Inv X pins σ H' { s with heap := sortedAll s.heap its out.toArray } ∧ RelV v (.ref (s.heap.objs.size + 1)) ∧ Q v H' := fun out vs' lv rv rr => by
    obtain ⟨n, hn⟩ := sortedAll_at s.heap its out.toArray
    exact ⟨.ref (s.heap.objs.size + 1), _, I.laid (t' := s.toks) (fun b o e => sortedAll_old e) (Nat.le_succ _) (show ObjOk X.prog X.w _ _ _ (.lst vs') from ⟨by rw [lv]; exact hz, out, n, rv, by simpa [seqObj] using hn⟩), rfl, q _ vs' fr rr⟩
  by_cases h2 : ds.length < 2
  · refine sortedF pl.isList (by omega) (fin its vs rfl r' ?_)
    intro J rj
    unfold sortT
    rw [if_pos h2]
    exact rj
  · unfold okT at ok
    rw [decide_eq_false h2, Bool.false_or, Bool.and_eq_true, Bool.and_eq_true, Bool.and_eq_true] at ok
    obtain ⟨o1, o2, o3, o4⟩ := ok
    have o1 := of_decide_eq_true o1
    have o2 := of_decide_eq_true o2
    obtain ⟨k, hk⟩ : ∃ k, allHd k ds = true := by
      unfold okHd at o3
      cases ds with
      | nil => cases o3
      | cons d r =>
        simp only at o3
        cases z : hdOf d with
        | none => rw [z] at o3; cases o3
        | some k => rw [z] at o3; exact ⟨k, o3⟩
    have F : HF X.K H s := hf_self I
    have un : X.A.in1.in1.units = X.A.units + 2 := rfl
    have ib : ∀ i ∈ (runT (ltB ds) (kas_sort ds.length)).toList, i < ds.length := fun i hi => by
      have := ((b_sort (n := ds.length) (by omega)).run (ltB ds) : IsO _ _)
      have := (Array.Perm.mem_iff this).mp (Array.mem_toList_iff.mp hi)
      simpa using this
    refine sortedP (κ := tuples' k.flag) (q := ltB ds) pl.isList (by omega) (by omega) (fun h' C kp cc => ?_) (fun h' kp i j C hi hj cc => ?_) ?_
    · exact keyKind_D (F.keeps kp) hk rs r' (by omega) cc
    · have hi' : i < ds.length := by omega
      have hj' : j < ds.length := by omega
      have hb : ltD (atD ds i) (atD ds j) = some (ltB ds i j) := by
        unfold cmpAll at o4
        have := List.all_eq_true.mp (List.all_eq_true.mp o4 _ (atD_mem hi')) _ (atD_mem hj')
        unfold ltB
        cases z : ltD (atD ds i) (atD ds j) with
        | none => rw [z] at this; cases this
        | some b => rfl
      have d1 := dep_nth hi'
      have d2 := dep_nth hj'
      exact keyLt_D (F.keeps kp) (allHd_mem hk _ (atD_mem hi')) (allHd_mem hk _ (atD_mem hj')) hb (reps_nth rs hi') (reps_nth rs hj') (vals_nth r' (by omega)) (vals_nth r' (by omega)) (by rw [un]; omega) (by omega) (by omega) cc
    · have e1 : outP (ltB ds) its = (runT (ltB ds) (kas_sort ds.length)).toList.map fun i => its.getD i Value.none := by unfold outP; rw [l2, l1]
      rw [e1]
      refine fin _ _ ?_ (vals_ix r' _ fun i hi => l2 ▸ ib i hi) ?_
      · rw [List.length_map, ← l2]
        have := ((b_sort (n := ds.length) (by omega)).run (ltB ds) : IsO _ _).size_eq
        simpa using this
      · intro J rj
        unfold sortT
        rw [if_neg h2]
        exact reps_ix rj _ ib
noncomputable def fSortT : List R → M R
  | [r] => asL r >>= fun xs => if okT xs = true then .ok (.l .fresh (sortT xs)) else .bad
  | _ => .bad
theorem pd_sortT {p : Pos} {gs : G (List R)} (hu : X.A.units + 64 < cLine) (ha : PAr X c (e :: es) gs) (hm : X.mg "sorted" = none) (hK : X.K = c.K := by rfl) (hg : Gl X "sorted" := by rfl)
    (he : starEach (e :: es) X.env = (false, eval e X.env) :: starEach es X.env := by rfl) (hpl : (backTo pos (starEach es X.env)).any (·.1) = false := by rfl) : PD X c (.Call (.Name "sorted" p) (e :: es) [] pos) (gN fSortT gs) :=
  pd_callB (call_sortedT hu) (by
    intro He J H xs vs Q hp rs w
    unfold fSortT at w
    split at w
    · obtain ⟨v, rfl, r⟩ := rs.one
      obtain ⟨xs, q, w⟩ := wpM_asL w
      obtain ⟨p, vs, rfl, h1, h2⟩ := RR.list hp r q
      split at w
      · rename_i ok
        rw [hK]
        exact ⟨p, vs, xs, rfl, h1, h2.mono hp.sub, ok, fun l vs' hl rr => w _ _ _ (Ext.new hp.sub hl _) (rr_new hp hl (rr _ h2))⟩
      · exact w.elim
    · exact w.elim) boot_sorted' hm ha hg (by decide) (by decide) he hpl
end
end DL
set_option Elab.async false
set_option linter.all false
set_option maxRecDepth 100000
set_option maxHeartbeats 4000000
namespace DL
open PySem PySem.Spec PyProof.Rows L2
section
variable {X : Cx} {c : C} {e : Expr} {g : G R} {pos : Pos}
/-! ### name op= e -/
noncomputable def gAug (i : Nat) (f : R → R → M R) (g : G R) : G O := fun env => match env[i]? with
  | some (some (.d d)) => g env >>= fun y => f (.d d) y >>= fun z => toS z >>= fun x => .ok (.nx (env.set i (some x)))
  | _ => .bad
theorem pd1_aug (i : Nat) {x : Str} {pos' : Pos} {op : Operator} {r : R2} {f : R → R → M R} (hN : X.N.Nodup) (ho : OpR X (inplaceOp op) r) (hb : BD c r f) (h : PD X c e g) (hi : X.N[i]? = some x := by rfl) (hx : Loc X.env.scope x := by first | exact Or.inl rfl | exact Or.inr rfl)
    (hf : X.fn x = true ∨ X.env.scope.names.lookup x = some .local := by first | exact .inl rfl | exact .inr rfl) : PD1 X c (.AugAssign (.Name x pos') op e pos) (gAug i f g) :=
  psImp (ps_aug hN hi hx h (fun pins s σ H x y v u Q I rx ry q => augR ho I rx ry q) hf) fun E σ H ⟨J, env, sr, w⟩ => by
  unfold gAug at w
  split at w
  · rename_i d hd
    obtain ⟨v, h1, h2⟩ := sr.at_ i _ hd
    refine ⟨v, h1, J, env, sr, wpM_mono (wpM_bind w) fun y wr v' J1 H1 e1 r1 => ?_⟩
    have sr1 := sr.ext e1
    refine hb H H J1 H1 (.d d) y v v' _ sr1.hp (Rep.mono e1.j h2) r1 (wpM_mono (wpM_bind wr) fun z wz w' J2 H2 e2 r2 => ?_)
    obtain ⟨x, q, wz⟩ := wpM_toS wz
    exact wz (σ.set i (some w')) J2 H2 (e1.j.trans e2.j) (sr1.set e2 r2 q)
  · exact w.elim
theorem pd1_augM (i : Nat) {x : Str} {pos' : Pos} (hN : X.N.Nodup) (h : PD X c e g) (hi : X.N[i]? = some x := by rfl) (hx : Loc X.env.scope x := by first | exact Or.inl rfl | exact Or.inr rfl) (hf : X.fn x = true ∨ X.env.scope.names.lookup x = some .local := by first | exact .inl rfl | exact .inr rfl) :
    PD1 X c (.AugAssign (.Name x pos') .Mult e pos) (gAug i fMul g) := pd1_aug i hN iop_mul (bd_I (fun i j h => kMul_ok h) fun _ _ _ => .int _) h hi hx hf
end
end DL
set_option Elab.async false
set_option linter.all false
set_option maxRecDepth 100000
set_option maxHeartbeats 4000000
namespace DL
open PySem PySem.Spec PyProof.Rows L2
section
variable {X : Cx} {c : C} {e : Expr} {es : List Expr} {pos : Pos}
/-! ### int(..) of a truth or a number -/
end
end DL
set_option Elab.async false
set_option linter.all false
set_option maxRecDepth 100000
set_option maxHeartbeats 4000000
namespace DL
open PySem PySem.Spec PyProof.Rows L2 DX
section
variable {M : Model} {A : Around} {E : Value → Shared → Prop} {s : Shared}
/-- the frame of a comprehension that has cells of its own -/
theorem newEnv_own {scope : Scope} {globals : Addr} {closure : List (Str × Addr)} {qual : Str} {func : Option Addr} {code : Value} {outer : Env} {builtins : Addr} {Q : Env → Shared → Prop}
    (hQ : Q (newEnv scope s.heap.objs.size globals (cellsFrom (s.heap.objs.size + 1) scope.names closure) qual func code (some outer) builtins) { s with heap := pushCells (s.heap.push { cls := .type "dict", data := .dict #[] }) scope.names }) :
    wpAny M A (newFunctionEnv scope globals closure [] qual func code (some outer) builtins) Q E s := by
  simp only [newFunctionEnv, Option.isSome_some, if_true]
  refine wpAny_bind (wpAny_alloc ?_)
  refine wpAny_bind (wpAny_layCells _ (fun name kind cells => by cases hkc : kind == NameKind.cell <;> simp [hkc]) _ _ _ _ ?_)
  rw [show ({ s with heap := s.heap.push { cls := .type "dict", data := .dict #[] } } : Shared).heap.objs.size = s.heap.objs.size + 1 from Heap.size_push ..]
  simp only [List.forIn_nil]
  exact wpAny_bind (wpAny_pure (wpAny_pure hQ))
theorem cellsFrom_look : ∀ (names : List (Str × NameKind)) (n : Nat) (acc : List (Str × Addr)) (x : Str), (∀ y ∈ names, y.2 = .cell → y.1 ≠ x) → (cellsFrom n names acc).lookup x = acc.lookup x
  | [], _, _, _, _ => by unfold cellsFrom; rfl
  | (y, k) :: r, n, acc, x, h => by
    have hr : ∀ z ∈ r, z.2 = .cell → z.1 ≠ x := fun z hz => h z (List.mem_cons_of_mem _ hz)
    unfold cellsFrom
    split
    · rename_i hk
      rw [cellsFrom_look r _ _ x hr]
      have hy : y ≠ x := h (y, k) (List.mem_cons_self ..) (by simpa using hk)
      have : (x == y) = false := by
        cases q : x == y with
        | false => rfl
        | true => exact absurd (eq_of_beq q).symm hy
      rw [List.lookup_cons, this]
    · exact cellsFrom_look r _ _ x hr
end
end DL
set_option Elab.async false
set_option linter.all false
set_option maxRecDepth 100000
set_option maxHeartbeats 4000000
namespace DL
open PySem PySem.Spec PyProof.Rows L2 DX
theorem cellsFrom_app : ∀ (names : List (Str × NameKind)) (n : Nat) (acc : List (Str × Addr)), cellsFrom n names acc = cellsFrom n names [] ++ acc := by
  intro names
  suffices ∀ (n : Nat) (a b : List (Str × Addr)), cellsFrom n names (a ++ b) = cellsFrom n names a ++ b by
    intro n acc
    exact this n [] acc
  induction names with
  | nil => intro n a b; unfold cellsFrom; rfl
  | cons p r ih =>
    obtain ⟨y, k⟩ := p
    intro n a b
    unfold cellsFrom
    split
    · exact ih _ (_ :: a) b
    · exact ih _ a b
noncomputable def ownCell (names : List (Str × NameKind)) (x : Str) : Bool := names.any fun y => y.1 == x && y.2 == .cell
theorem cellsFrom_own : ∀ (names : List (Str × NameKind)) (n : Nat) (acc : List (Str × Addr)) (x : Str), ((acc.lookup x).isSome = true ∨ ownCell names x = true) → ((cellsFrom n names acc).lookup x).isSome = true
  | [], _, _, _, h => by
    unfold cellsFrom
    rcases h with h | h
    · exact h
    · cases h
  | (y, k) :: r, n, acc, x, h => by
    unfold cellsFrom
    have e : ownCell ((y, k) :: r) x = ((y == x && k == .cell) || ownCell r x) := rfl
    rw [e] at h
    split
    · rename_i hk
      refine cellsFrom_own r _ _ x ?_
      by_cases hx : x = y
      · left; subst hx; rw [List.lookup_cons]; simp
      · rcases h with h | h
        · left
          rw [List.lookup_cons]
          cases q : x == y with
          | true => exact absurd (eq_of_beq q) hx
          | false => exact h
        · rw [Bool.or_eq_true, Bool.and_eq_true] at h
          rcases h with h | h
          · exact absurd (eq_of_beq h.1).symm hx
          · exact .inr h
    · rename_i hk
      refine cellsFrom_own r _ _ x ?_
      rcases h with h | h
      · exact .inl h
      · rw [Bool.or_eq_true, Bool.and_eq_true] at h
        rcases h with h | h
        · exact absurd h.2 hk
        · exact .inr h
end DL
set_option Elab.async false
set_option linter.all false
set_option maxRecDepth 100000
set_option maxHeartbeats 4000000
namespace DL
open PySem PySem.Spec PyProof.Rows L2 DX
theorem own_cases {names : List (Str × NameKind)} {n : Nat} {cl : List (Str × Addr)} {x : Str} {d : Addr} (h : (cellsFrom n names cl).lookup x = some d) :
    (cellsFrom n names []).lookup x = some d ∨ (ownCell names x = false ∧ cl.lookup x = some d) := by
  rw [cellsFrom_app, List.lookup_append] at h
  cases q : (cellsFrom n names []).lookup x with
  | some e => rw [q] at h; left; simpa using h
  | none =>
    rw [q] at h
    right
    refine ⟨?_, by simpa using h⟩
    cases z : ownCell names x with
    | false => rfl
    | true =>
      have := cellsFrom_own names n [] x (.inr z)
      rw [q] at this
      cases this
theorem relabel_free2 {scope : Scope} {env : Env} {x : Str} (h : (relabel scope env).names.lookup x = some .cell ∨ (relabel scope env).names.lookup x = some .free) : (x, NameKind.free) ∈ scope.names ∨ ownCell scope.names x = true := by
  unfold relabel at h
  revert h
  generalize scope.names = names
  induction names with
  | nil => intro h; simp at h
  | cons p r ih =>
    obtain ⟨n, k⟩ := p
    intro h
    rw [List.map_cons] at h
    simp only at h
    by_cases hx : x = n
    · subst hx
      cases k with
      | free => exact .inl (List.mem_cons_self ..)
      | cell => right; unfold ownCell; simp
      | _ => simp [List.lookup_cons] at h
    · have e : (x == n) = false := by simpa using hx
      have h' : (r.map fun (n, k) => if (k == NameKind.free && env.scope.kind == .function && env.kindOf n == some .cell) then (n, NameKind.cell) else (n, k)).lookup x = some .cell ∨ (r.map fun (n, k) => if (k == NameKind.free && env.scope.kind == .function && env.kindOf n == some .cell) then (n, NameKind.cell) else (n, k)).lookup x = some .free := by
        split at h <;> simpa [List.lookup_cons, e] using h
      rcases ih h' with z | z
      · exact .inl (List.mem_cons_of_mem _ z)
      · right
        unfold ownCell at z ⊢
        rw [List.any_cons, z, Bool.or_true]
section
variable {X : Cx}
noncomputable def cxC2 (X : Cx) (own : List Str) (cap : List Nat) (scope : Scope) (cl : List (Str × Addr)) (C : Addr) (s : Shared) (H : Hp) (fp : List Addr) : Cx :=
  { cxC X own cap scope (cellsFrom (C + 1) scope.names cl) C s H fp with fn := ownCell scope.names }
theorem cxC2_ok {pins : List (Addr × Obj)} {σ : L2.St} {H : Hp} {s : Shared} {own : List Str} {cap : List Nat} {scope : Scope} {cl : List (Str × Addr)} {fp : List Addr} {h1 : Heap} (I : Inv X pins σ H s) (hk : scope.kind = .function)
    (hcl : clsOf X.env.cells scope.names [] = some cl) (ck : CellsOk h1 (s.heap.objs.size + 1) (cellsFrom (s.heap.objs.size + 1) scope.names [])) (hfp : ∀ b ∈ fp, FpOk X pins H b) (hin : ∀ b ∈ fp, b < s.heap.objs.size) : (cxC2 X own cap scope cl s.heap.objs.size s H fp).Ok := by
  obtain ⟨m1, m2⟩ := clsOf_mem scope.names [] cl hcl (fun x c h => by simp at h)
  have lo : ∀ {x : Str} {d : Addr}, (cellsFrom (s.heap.objs.size + 1) scope.names []).lookup x = some d → s.heap.objs.size + 1 ≤ d := fun {x d} h => (ck.empty _ _ (mem_of_lookup h)).2
  have old : ∀ {x : Str} {d : Addr}, cl.lookup x = some d → d < s.heap.objs.size := fun {x d} h => by
    obtain ⟨v, z⟩ := I.cell x d (m1 x d h)
    exact z.lt
  refine ⟨I.ok.mod, hk, I.ok.glob, I.ok.blt, Nat.le_refl _, fun x y d h1 h2 => ?_, fun x hx => ?_, fun x d hf h => ?_, fun hc => I.ok.hd hc, I.ok.frames, .inl rfl, fun b hb => ⟨Nat.ne_of_lt (hin b hb), fun x d h => ?_⟩,
    I.bs, Nat.le_trans I.ok.bsz I.sz, fun b o h hb => ?_, fun b hb hf => ?_, I.stack, I.stkFree⟩
  · rcases own_cases h1 with h1 | ⟨_, h1⟩
    · rcases own_cases h2 with h2 | ⟨_, h2⟩
      · exact name_of_addr ck.apart (mem_of_lookup h1) (mem_of_lookup h2)
      · exact absurd (Nat.lt_of_lt_of_le (old h2) (Nat.le_of_succ_le (lo h1))) (Nat.lt_irrefl _)
    · rcases own_cases h2 with h2 | ⟨_, h2⟩
      · exact absurd (Nat.lt_of_lt_of_le (old h1) (Nat.le_of_succ_le (lo h2))) (Nat.lt_irrefl _)
      · exact I.ok.inj x y d (m1 x d h1) (m1 y d h2)
  · refine Option.isSome_iff_exists.mp (cellsFrom_own _ _ _ x ?_)
    rcases relabel_free2 hx with z | z
    · exact .inl (m2 x (.inr z))
    · exact .inr z
  · rcases own_cases h with h | ⟨z, h⟩
    · exact Nat.le_of_succ_le (lo h)
    · have hf' : ownCell scope.names x = true := hf
      rw [z] at hf'
      cases hf'
  · rcases own_cases h with h | ⟨_, h⟩
    · exact Nat.ne_of_gt (Nat.lt_of_lt_of_le (hin b hb) (Nat.le_of_succ_le (lo h)))
    · exact (hfp b hb).2.2.2.2.1 x d (m1 x d h)
  · rcases (hfp b hb).2.2.2.1 with z | z
    · exact I.ok.noex b o h z
    · exact absurd (Nat.lt_of_lt_of_le (Heap.lt_size (I.ok.bs b o h).1) z) (Nat.lt_irrefl _)
  · rcases List.mem_cons.mp (I.stkSub b hf) with e | e
    · exact (hfp b hb).2.1 e
    · exact (hfp b hb).2.2.1 e
end
end DL
set_option Elab.async false
set_option linter.all false
set_option maxRecDepth 100000
set_option maxHeartbeats 4000000
namespace DL
open PySem PySem.Spec PyProof.Rows L2 DX
theorem look_not_own {names : List (Str × NameKind)} {n : Nat} {cl : List (Str × Addr)} {x : Str} (h : ownCell names x = false) : (cellsFrom n names cl).lookup x = cl.lookup x :=
  cellsFrom_look names n cl x fun y hy hk e => by
    unfold ownCell at h
    have := List.any_eq_false.mp h y hy
    simp [hk, e] at this
section
variable {X : Cx}
theorem cxC2_inv {pins : List (Addr × Obj)} {σ : L2.St} {H : Hp} {s : Shared} {own : List Str} {cap : List Nat} {scope : Scope} {cl : List (Str × Addr)} {fp : List Addr} {h1 : Heap} {m : Str → Option Value} {tk : Nat} (I : Inv X pins σ H s) (ok : (cxC2 X own cap scope cl s.heap.objs.size s H fp).Ok)
    (hcl : clsOf X.env.cells scope.names [] = some cl) (ck : CellsOk h1 (s.heap.objs.size + 1) (cellsFrom (s.heap.objs.size + 1) scope.names [])) (hcap : capOk X cap = true) (hlocal : ∀ j ∈ cap, ∀ x, X.N[j]? = some x → (relabel scope X.env).names.lookup x ≠ some .local)
    (hno : ∀ j ∈ cap, ∀ x, X.N[j]? = some x → ownCell scope.names x = false) (hns : h1.Ns s.heap.objs.size m) (old : ∀ b o, s.heap.get? b = some o → h1.get? b = some o) :
    Inv (cxC2 X own cap scope cl s.heap.objs.size s H fp) [] (List.replicate own.length none ++ cap.map fun (j : Nat) => (σ[j]?).getD none) H { s with heap := h1, toks := tk } := by
  obtain ⟨m1, m2⟩ := clsOf_mem scope.names [] cl hcl (fun x c h => by simp at h)
  refine ⟨ok, rfl, I.bare, Un.kept old, ⟨m, hns, fun i x v q1 q2 q3 => ?_⟩, fun x d h => ?_, I.hok.fresh (Nat.le_refl _), fun x d h => ?_, fun p hp => absurd (show p ∈ ([] : List (Addr × Obj)) from hp) (by simp), I.hok.kept old, ?_⟩
  · obtain ⟨j, h2, h3, h4⟩ := cE_at q2
    have q1' : (own ++ cap.map fun (j : Nat) => (X.N[j]?).getD ("" : Str))[i]? = some x := q1
    rw [List.getElem?_append_right (by exact h2), List.getElem?_map, h3] at q1'
    have hj : j ∈ cap := List.mem_of_getElem? h3
    have hc : (match X.N[j]? with
      | some x => (match X.env.scope.names.lookup x with
        | some .cell => true
        | some .free => true
        | _ => false)
      | none => false) = true := by
      unfold capOk at hcap
      exact List.all_eq_true.mp hcap j hj
    cases hx : X.N[j]? with
    | none => rw [hx] at hc; cases hc
    | some y =>
      rw [Option.map_some, hx] at q1'
      rw [hx] at hc
      have e : y = x := by simpa using q1'
      subst e
      have kd : X.env.kindOf y = some .cell ∨ X.env.kindOf y = some .free := by
        unfold Env.kindOf
        simp only at hc
        split at hc
        · rename_i z; exact .inl z
        · rename_i z; exact .inr z
        · cases hc
      obtain ⟨mX, nX, lX⟩ := I.loc
      obtain ⟨u, ru, lu⟩ := lX j y v hx h4 (kd.elim (fun z => .inr (.inl z)) fun z => .inr (.inr z))
      refine ⟨u, ru, .inr ?_⟩
      have kd' : (relabel scope X.env).names.lookup y = some .cell ∨ (relabel scope X.env).names.lookup y = some .free := by
        rcases q3 with z | z | z
        · exact absurd z (hlocal j hj y hx)
        · exact .inl z
        · exact .inr z
      refine ⟨kd', ?_⟩
      have no := hno j hj y hx
      have fr : (y, NameKind.free) ∈ scope.names := by
        rcases relabel_free2 kd' with z | z
        · exact z
        · rw [no] at z; cases z
      obtain ⟨d, hd⟩ := Option.isSome_iff_exists.mp (m2 y (.inr fr))
      refine ⟨d, (look_not_own no).trans hd, ?_⟩
      rcases lu with ⟨z, _⟩ | ⟨_, d', hd', z⟩
      · rcases kd with k | k <;> (rw [k] at z; cases z)
      · have := m1 y d hd
        rw [hd'] at this
        cases this
        obtain ⟨o, ho, hod⟩ := z
        exact ⟨o, old _ _ ho, hod⟩
  · rcases own_cases h with h | ⟨_, h⟩
    · exact ⟨none, (ck.empty _ _ (mem_of_lookup h)).1⟩
    · obtain ⟨v, o, ho, hod⟩ := I.cell x d (m1 x d h)
      exact ⟨v, o, old _ _ ho, hod⟩
  · rcases own_cases h with h | ⟨_, h⟩
    · exact I.hok.fresh (Nat.le_of_succ_le (ck.empty _ _ (mem_of_lookup h)).2)
    · exact I.freeC x d (m1 x d h)
  · show _ = (own ++ cap.map fun (j : Nat) => (X.N[j]?).getD ("" : Str)).length
    simp
end
end DL
set_option Elab.async false
set_option linter.all false
set_option maxRecDepth 100000
set_option maxHeartbeats 4000000
namespace DL
open PySem PySem.Spec PyProof.Rows L2 DX
theorem ns_own (h : Heap) (names : List (Str × NameKind)) : (pushCells (h.push { cls := .type "dict", data := .dict #[] }) names).Ns h.objs.size (fun _ => none) :=
  (Heap.Ns.new h (.type "dict")).keeps fun b o e => pushCells_keeps _ _ _ _ e
theorem cells_own (h : Heap) (names : List (Str × NameKind)) : CellsOk (pushCells (h.push { cls := .type "dict", data := .dict #[] }) names) (h.objs.size + 1) (cellsFrom (h.objs.size + 1) names []) := by
  have := cellsFrom_ok names (h.push { cls := .type "dict", data := .dict #[] }) (h.objs.size + 1) [] ⟨fun _ _ hm => (nomatch hm), List.Pairwise.nil⟩ (by rw [Heap.size_push]; exact Nat.le_refl _)
  rw [Heap.size_push] at this
  exact this
noncomputable def capNo (X : Cx) (cap : List Nat) (scope : Scope) : Bool := cap.all fun j => match X.N[j]? with
  | some x => !ownCell scope.names x
  | none => true
section
variable {X : Cx} {c : C}
theorem comp_core2 (own : List Str) (cap : List Nat) {elt target iter : Expr} {ifs : List Expr} {scope : Scope} {pos : Pos} {gi : G (List D)} {gt : GT} {gts : G Bool} {ge : G R} (hi : PIc X c target iter gi)
    (hbody : ∀ (cl : List (Str × Addr)) (C : Addr) (s : Shared) (H : Hp) (fp : List Addr), clsOf X.env.cells scope.names [] = some cl → PTg (cxC2 X own cap scope cl C s H fp) c target gt ∧ PIfs (cxC2 X own cap scope cl C s H fp) c ifs gts ∧ PD (cxC2 X own cap scope cl C s H fp) c elt ge)
    (hk : scope.kind = .function := by rfl) (hno : capNo X cap scope = true := by rfl) (hnames : (scope.names.all fun x => !(x.2 == .local) || (scope.names.lookup x.1 == some .local)) = true := by rfl)
    (hcl : (clsOf X.env.cells scope.names []).isSome = true := by rfl) (hcap : capOk X cap = true := by rfl) (hloc : capLoc X cap scope = true := by rfl) (hnd : nodN cap = true := by rfl) (hcalm : X.calm = true := by rfl)
    (hs : ∀ x, foldedSetIterable iter X.env x = pure x := by intro _; rfl)
    {pins : List (Addr × Obj)} {s : Shared} {σ : L2.St} {H : Hp} {Q : VK} {use : Option (Value → Sem Unit)} {Q0 : Value → Shared → Prop} {pos' : Pos} (I : Inv X pins σ H s) (h : tD c (gComp own.length cap gi gt gts ge) σ H Q)
    (hfin : ∀ (acc C : Addr) (m : Str → Option Value) (s' : Shared) (H' : Hp) (fl : Flow), s'.heap.Ns C m → ((C ∈ X.ex ∨ X.s₀.heap.objs.size ≤ C) ∧ C ≠ X.env.locals ∧ (∀ x c, X.env.cells.lookup x = some c → c ≠ C) ∧ ∀ p ∈ X.pn ++ pins, p.1 ≠ C) → H' C = none → (∀ h'', Heap.SameBut C s'.heap h'' → Inv X pins σ H' { s' with heap := h'' }) → Q (.ref acc) H' → compPost (model X.prog X.w) X.A X.xe use Q0 (.ref acc) C (.ok fl) s') :
    wpAny (model X.prog X.w) X.A (comprehension (.ListComp elt [⟨target, iter, ifs, 0⟩] scope pos) scope X.env pos' (newList []) false (eval iter X.env) use) Q0 X.xe s := by
  obtain ⟨J, env, sr, w⟩ := h
  obtain ⟨cl, hcl⟩ := Option.isSome_iff_exists.mp hcl
  have hno' : ∀ j ∈ cap, ∀ x, X.N[j]? = some x → ownCell scope.names x = false := fun j hj x hx => by
    have := List.all_eq_true.mp hno j hj
    rw [hx] at this
    simpa using this
  have hnames' : ∀ x ∈ scope.names, x.2 = .local → scope.names.lookup x.1 = some .local := fun y hy z => by
    have := List.all_eq_true.mp hnames y hy
    rw [z] at this
    simpa using this
  have hloc' : ∀ j ∈ cap, ∀ x, X.N[j]? = some x → (relabel scope X.env).names.lookup x ≠ some .local := fun j hj x hx z => by
    have := List.all_eq_true.mp hloc j hj
    rw [hx] at this
    simp only at this
    rw [z] at this
    cases this
  refine wpAny_comprehension_free (use := use) rfl hs (closureFor_of hcl) hk hnames' ?_
  refine thn (hi pins s σ H (fun It H1 => ∃ ds J1, Ext J H J1 H1 ∧ Walk c It ds J1 (fun J' H' => Same J1 J' ∧ Same H1 H') ∧
    wpM (if ds.length ≤ sizeLine then compG gt gts ge ds (cE own.length cap env) >>= fun ys => .ok (R.l .fresh ys) else .bad) (fun r => ∀ v J' H', Ext J H J' H' → RR c H J' H' r v → Q v H') c.T) I ⟨J, env, sr, wpM_mono (wpM_bind w) fun ds wd It J1 H1 e1 wk => ⟨ds, J1, e1, wk, wd⟩⟩) fun xv s1 h1 => thn h1 fun itv s2 h2 => ?_
  obtain ⟨it, fp, tn, It, H2, rfl, I2, T, st2, f2, ds, J2, e2, wk, w2⟩ := h2
  have hsz : ds.length ≤ sizeLine := by
    by_cases z : ds.length ≤ sizeLine
    · exact z
    · rw [if_neg z] at w2; exact w2.elim
  rw [if_pos hsz] at w2
  have w3 := wpM_bind w2
  refine wpAny_newObj_type (newEnv_own ?_)
  dsimp only
  generalize hHs : s2.heap.push { cls := .type "list", dict := none, data := .seq ([] : List Value).toArray } = Hs
  have hC : Hs.objs.size = s2.heap.objs.size + 1 := by rw [← hHs, Heap.size_push]
  have hp2 : H2 s2.heap.objs.size = none := I2.hok.fresh (Nat.le_refl _)
  have kHs : ∀ b o, s2.heap.get? b = some o → Hs.get? b = some o := fun b o e => by rw [← hHs]; exact Heap.get?_push_of_some _ e
  have I3 : Inv X pins σ (L2.upd H2 s2.heap.objs.size (.lst [])) { s2 with heap := Hs, toks := s2.toks } := I2.laid (t' := s2.toks) kHs (Nat.le_refl _) ⟨Nat.zero_le _, [], 0, .nil, by rw [← hHs]; exact Heap.get?_push_size _ rfl⟩
  have f3 : ∀ b ∈ fp, FpOk X pins (L2.upd H2 s2.heap.objs.size (.lst [])) b := fun b hb => by
    obtain ⟨o, ho, _⟩ := T.obj _ _ st2 b hb
    exact ⟨by rw [upd_ne (Nat.ne_of_lt (Heap.lt_size ho))]; exact (f2 b hb).1, (f2 b hb).2⟩
  have hin : ∀ b ∈ fp, b < Hs.objs.size := fun b hb => by
    obtain ⟨o, ho, _⟩ := T.obj _ _ st2 b hb
    exact Nat.lt_trans (Heap.lt_size ho) (by rw [hC]; exact Nat.lt_succ_self _)
  obtain ⟨h₁, eh₁⟩ : ∃ h₁, h₁ = pushCells (Hs.push { cls := .type "dict", data := .dict #[] }) scope.names := ⟨_, rfl⟩
  rw [← eh₁]
  have hns₁ : h₁.Ns Hs.objs.size (fun _ => none) := by rw [eh₁]; exact ns_own Hs scope.names
  have ck : CellsOk h₁ (Hs.objs.size + 1) (cellsFrom (Hs.objs.size + 1) scope.names []) := by rw [eh₁]; exact cells_own Hs scope.names
  have okC := cxC2_ok (own := own) (cap := cap) I3 hk hcl ck f3 hin
  have old1 : ∀ b o, Hs.get? b = some o → h₁.get? b = some o := fun b o e => by rw [eh₁]; exact pushCells_keeps _ _ _ _ (Heap.get?_push_of_some _ e)
  have I4 := cxC2_inv (tk := s2.toks) I3 okC hcl ck hcap hloc' hno' hns₁ old1
  have sr2 := sr.ext e2
  have srA : SR c J2 (L2.upd H2 s2.heap.objs.size (.lst [])) σ env := sr2.ext (Ext.new e2.sub hp2 _)
  have J2p : J2 s2.heap.objs.size = none := e2.sub.free hp2
  have H0p : c.H0 s2.heap.objs.size = none := sr2.hp.ent.free hp2
  have nown : ∀ (j : Nat) (xs : List D), (cE own.length cap env)[j]? = some (some (.own xs)) → (List.replicate own.length none ++ cap.map fun (j : Nat) => (σ[j]?).getD none)[j]? ≠ some (some (.ref s2.heap.objs.size)) := fun j xs q z => by
    obtain ⟨a, h1, h2, h3⟩ := cE_at q
    obtain ⟨a', h4, h5, h6⟩ := cE_at z
    rw [h2] at h5; cases h5
    obtain ⟨v, k1, p, vs, rfl, k2, _⟩ := sr2.at_ a _ h3
    rw [h6] at k1
    cases k1
    rw [hp2] at k2
    cases k2
  obtain ⟨hT, hIf, hE⟩ := hbody cl Hs.objs.size { s2 with heap := Hs, toks := s2.toks } (L2.upd H2 s2.heap.objs.size (.lst [])) fp hcl
  have fpC : ∀ {H' : Hp}, (∀ b ∈ fp, H' b = none) → ∀ b ∈ fp, FpOk (cxC2 X own cap scope cl Hs.objs.size { s2 with heap := Hs, toks := s2.toks } (L2.upd H2 s2.heap.objs.size (.lst [])) fp) [] H' b := fun {H'} hn b hb => by
    obtain ⟨m1, _⟩ := clsOf_mem scope.names [] cl hcl (fun x c h => by simp at h)
    refine ⟨hn b hb, Nat.ne_of_lt (hin b hb), fun z => ?_, .inl hb, fun x d h => (own_cases h).elim (fun h => Nat.ne_of_gt (Nat.lt_of_lt_of_le (hin b hb) (Nat.le_of_succ_le (ck.empty _ _ (mem_of_lookup h)).2))) (fun h => (f2 b hb).2.2.2.2.1 x d (m1 x d h.2)), fun p hp => absurd (show p ∈ ([] : List (Addr × Obj)) from hp) (by simp)⟩
    rcases List.mem_cons.mp (I2.stkSub b z) with e | e
    · exact (f2 b hb).2.1 e
    · exact (f2 b hb).2.2.1 e
  -- behind the block
  have back : ∀ {pi : List (Addr × Obj)} {σ' : L2.St} {H' : Hp} {s' : Shared} {h'' : Heap}, Inv (cxC2 X own cap scope cl Hs.objs.size { s2 with heap := Hs, toks := s2.toks } (L2.upd H2 s2.heap.objs.size (.lst [])) fp) pi σ' H' s' → Heap.SameBut Hs.objs.size s'.heap h'' → Inv X pins σ H' { s' with heap := h'' } := fun {pi σ' H' s' h''} I' sb => by
    have B : Un (frs X.stack) fp (L2.upd H2 s2.heap.objs.size (.lst [])) H' Hs s'.heap := I'.base
    have ne2 : ∀ {b : Addr} {o : Obj}, s2.heap.get? b = some o → b ≠ s2.heap.objs.size ∧ b ≠ Hs.objs.size := fun {b o} e =>
      ⟨Nat.ne_of_lt (Heap.lt_size e), Nat.ne_of_lt (Nat.lt_trans (Heap.lt_size e) (by rw [hC]; exact Nat.lt_succ_self _))⟩
    have nH : ∀ {b : Addr} {o : HO}, H2 b = some o → L2.upd H2 s2.heap.objs.size (.lst []) b = some o := fun {b o} e => by rw [upd_ne (ne_of_none e hp2)]; exact e
    refine Inv.call' (ch := fp) (s' := { s' with heap := h'' }) I2 I'.os ⟨fun b o e n hf hx => ?_, fun b o e n hf hx => ?_, fun b o e n hx => ?_, fun b o e hx => ?_, fun b xs e => B.tups b xs (nH e), fun b o u e => B.frzs b o u (nH e), fun b ps e => B.tbls b ps (nH e)⟩ (sameBut_hok I'.hok I'.free sb) I'.bare fun b hb => ⟨(f2 b hb).2.2.2.1, (f2 b hb).2.1, (f2 b hb).2.2.2.2.1, (f2 b hb).2.2.2.2.2⟩
    · exact (sb.2 b (ne2 e).2).trans (B.keep b o (kHs b o e) (by rw [upd_ne (ne2 e).1]; exact n) hf hx)
    · obtain ⟨sl, z⟩ := B.slot b o (kHs b o e) (by rw [upd_ne (ne2 e).1]; exact n) hf hx
      exact ⟨sl, (sb.2 b (ne2 e).2).trans z⟩
    · exact B.free b o (kHs b o e) (by rw [upd_ne (ne2 e).1]; exact n) hx
    · obtain ⟨o', z⟩ := B.there b o (kHs b o e) hx
      exact ⟨o', (sb.2 b (ne2 e).2).trans z⟩
  have loop : ∀ s4 : Shared, s4 = { s2 with heap := h₁, toks := s2.toks } →
      codeAny (model X.prog X.w) X.A (.compLoop (.ListComp elt [⟨target, iter, ifs, 0⟩] scope pos) 0 (.ref it) (.ref s2.heap.objs.size) (compEnvC scope (cellsFrom (Hs.objs.size + 1) scope.names cl) Hs.objs.size X.env))
        (compPost (model X.prog X.w) X.A X.xe use Q0 (.ref s2.heap.objs.size) Hs.objs.size) s4 := by
    rintro s4 rfl
    refine compLoop_any (fun n s' => ∃ (i : Nat) (σ' : L2.St) (H' J' : Hp) (env' : Ev) (us : List V) (ys0 : List D), n = ds.length - i ∧ i ≤ ds.length ∧ Inv (cxC2 X own cap scope cl Hs.objs.size { s2 with heap := Hs, toks := s2.toks } (L2.upd H2 s2.heap.objs.size (.lst [])) fp) [] σ' H' s' ∧ tn i s'.heap ∧ (∀ b ∈ fp, H' b = none) ∧
      Ext J2 H2 J' H' ∧ SR c J' H' σ' env' ∧ (∀ (j : Nat) (xs : List D), env'[j]? = some (some (.own xs)) → σ'[j]? ≠ some (some (.ref s2.heap.objs.size))) ∧ H' s2.heap.objs.size = some (.lst us) ∧ J' s2.heap.objs.size = none ∧ Reps c.K J' ys0 us ∧ us.length ≤ i ∧
      wpM (compG gt gts ge (ds.drop i) env') (fun ys => ∀ v J' H', Ext J H J' H' → RR c H J' H' (.l .fresh (ys0 ++ ys)) v → Q v H') c.T) ?_ ds.length
      ⟨0, _, _, J2, _, [], [], rfl, Nat.zero_le _, I4, T.keep _ _ _ st2 (fun b hb o e => old1 b o (kHs b o e)), fun b hb => (f3 b hb).1, Ext.new e2.sub hp2 _, srA.cap own.length cap (nodN_ok hnd), nown, upd_same, J2p, .nil, Nat.le_refl _, by rw [List.drop_zero]; exact w3⟩
    rintro n s' ⟨i, σ', H', J', env', us, ys0, rfl, hi', I', st', fr', e', sr', no', hp', Jp', rs', hl', w'⟩
    obtain ⟨wk1, wk2⟩ := wk i J' H' sr'.hp ⟨e'.j, e'.h⟩
    by_cases hlt : i < ds.length
    · obtain ⟨g1, y1⟩ := wk2 ds[i] (by simp [hlt])
      rw [List.drop_eq_getElem_cons hlt] at w'
      refine wpAny_mono (T.item (cxC2 X own cap scope cl Hs.objs.size { s2 with heap := Hs, toks := s2.toks } (L2.upd H2 s2.heap.objs.size (.lst [])) fp) rfl rfl rfl hcalm i [] s' σ' H' (fun _ _ => False) I' (fpC fr') st' g1) (fun r s4 ⟨u, hr, h4⟩ => ?_) fun _ _ f => f.elim
      subst hr
      refine wpAny_mono h4 (fun _ s5 ⟨x, H5, I5, r5, y5, st5, fr5⟩ => ?_) fun _ _ f => f.elim
      obtain ⟨J5, e5, rx⟩ := y1 x H5 y5
      have I5' := I5.pinned (fpC fr5) (T.obj _ _ st5)
      have again : ∀ {σ7 : L2.St} {H7 : Hp} {s7 : Shared}, Inv (cxC2 X own cap scope cl Hs.objs.size { s2 with heap := Hs, toks := s2.toks } (L2.upd H2 s2.heap.objs.size (.lst [])) fp) ([] ++ pinsAt fp s5.heap) σ7 H7 s7 →
          Inv (cxC2 X own cap scope cl Hs.objs.size { s2 with heap := Hs, toks := s2.toks } (L2.upd H2 s2.heap.objs.size (.lst [])) fp) [] σ7 H7 s7 ∧ tn (i + 1) s7.heap ∧ (∀ b ∈ fp, H7 b = none) := fun {σ7 H7 s7} I7 => by
        refine ⟨I7.unpinned, T.keep _ _ _ st5 fun b hb o e => (I7.pin (b, o) (List.mem_append_right _ (List.mem_append_right _ (mem_pinsAt hb e)))).1, fun b hb => ?_⟩
        obtain ⟨o, e, d⟩ := T.obj _ _ st5 b hb
        exact (I7.pin (b, o) (List.mem_append_right _ (List.mem_append_right _ (mem_pinsAt hb e)))).2.1
      have p5 : H5 s2.heap.objs.size = some (.lst us) := e5.h _ _ hp'
      have pn : ∀ {J H : Hp}, H s2.heap.objs.size = some (.lst us) → H s2.heap.objs.size ≠ none := fun h z => by rw [h] at z; cases z
      refine wpAny_mono (hT _ s5 σ' H5 x u (fun σ6 H6 => ∃ e6, H6 = H5 ∧ SR c J5 H5 σ6 e6 ∧ KO env' σ' e6 σ6 ∧ wpM (gts e6 >>= fun k => if k = true then ge e6 >>= fun r => toD r >>= fun y => compG gt gts ge (ds.drop (i + 1)) e6 >>= fun ys => .ok (y :: ys) else compG gt gts ge (ds.drop (i + 1)) e6)
        (fun ys => ∀ v J' H', Ext J H J' H' → RR c H J' H' (.l .fresh (ys0 ++ ys)) v → Q v H') c.T) I5' r5 ⟨J5, env', ds[i], sr'.ext e5, rx, wpM_mono (wpM_bind w') fun e6 w6 σ6 sr6 ko => ⟨e6, rfl, sr6, ko, w6⟩⟩) (fun _ s6 ⟨σ6, H6, I6, e6, hH6, sr6, ko, w6⟩ => ?_) fun _ _ f => f.elim
      subst hH6
      have no6 : ∀ (j : Nat) (xs : List D), e6[j]? = some (some (.own xs)) → σ6[j]? ≠ some (some (.ref s2.heap.objs.size)) := fun j xs q z => by
        obtain ⟨k1, k2⟩ := ko j xs q
        exact no' j xs k1 (k2 ▸ z)
      have J5p : J5 s2.heap.objs.size = none := e5.frz _ (by rw [hp']; intro z; cases z) Jp'
      refine wpAny_mono (hIf _ s6 σ6 H6 (fun k H7 => ∃ J7, Ext J5 H6 J7 H7 ∧ wpM (if k = true then ge e6 >>= fun r => toD r >>= fun y => compG gt gts ge (ds.drop (i + 1)) e6 >>= fun ys => .ok (y :: ys) else compG gt gts ge (ds.drop (i + 1)) e6)
        (fun ys => ∀ v J' H', Ext J H J' H' → RR c H J' H' (.l .fresh (ys0 ++ ys)) v → Q v H') c.T) I6 ⟨J5, e6, sr6, wpM_mono (wpM_bind w6) fun k wk J7 H7 e7 => ⟨J7, e7, wk⟩⟩) (fun k s7 ⟨H7, I7, J7, e7, w7⟩ => ?_) fun _ _ f => f.elim
      have p7 : H7 s2.heap.objs.size = some (.lst us) := e7.h _ _ p5
      have J7p : J7 s2.heap.objs.size = none := e7.frz _ (by rw [p5]; intro z; cases z) J5p
      have sr7 := sr6.ext e7
      cases k with
      | false =>
        rw [if_neg (by decide)] at w7 ⊢
        obtain ⟨a1, a2, a3⟩ := again I7
        exact ⟨ds.length - (i + 1), by omega, i + 1, σ6, H7, J7, e6, us, ys0, rfl, hlt, a1, a2, a3, (e'.trans e5).trans e7, sr7, no6, p7, J7p, rs'.mono (e5.j.trans e7.j), by omega, w7⟩
      | true =>
        rw [if_pos rfl] at w7 ⊢
        refine wpAny_mono (hE _ s7 σ6 H7 (fun v H8 => ∃ J8 y, Ext J7 H7 J8 H8 ∧ Rep c.K J8 y v ∧ wpM (compG gt gts ge (ds.drop (i + 1)) e6 >>= fun ys => .ok (y :: ys)) (fun ys => ∀ v J' H', Ext J H J' H' → RR c H J' H' (.l .fresh (ys0 ++ ys)) v → Q v H') c.T) I7
          ⟨J7, e6, sr7, wpM_mono (wpM_bind w7) fun r wr v J8 H8 e8 r8 => ?_⟩) (fun u8 s8 ⟨v8, H8, I8, r8, J8, y, e8, ry, w8⟩ => ?_) fun _ _ f => f.elim
        · obtain ⟨y, q, wr⟩ := wpM_toD wr
          obtain ⟨J9, e9, _, ry⟩ := freeze e8 r8 q
          exact ⟨J9, y, e9, ry, wr⟩
        have p8 : H8 s2.heap.objs.size = some (.lst us) := e8.h _ _ p7
        have J8p : J8 s2.heap.objs.size = none := e8.frz _ (by rw [p7]; intro z; cases z) J7p
        refine wpAny_mono (mt_append (X := (cxC2 X own cap scope cl Hs.objs.size { s2 with heap := Hs, toks := s2.toks } (L2.upd H2 s2.heap.objs.size (.lst [])) fp)) _ s8 σ6 H8 (.ref s2.heap.objs.size) [v8] (.ref s2.heap.objs.size) [u8] (fun _ H9 => H9 = L2.upd H8 s2.heap.objs.size (.lst (us ++ [v8]))) I8 rfl (.cons r8 .nil) ⟨_, us, v8, rfl, rfl, p8, by omega, rfl⟩) (fun _ s9 ⟨_, H9, I9, _, h9⟩ => ?_) fun _ _ f => f.elim
        subst h9
        obtain ⟨a1, a2, a3⟩ := again I9
        refine ⟨ds.length - (i + 1), by omega, i + 1, σ6, _, J8, e6, us ++ [v8], ys0 ++ [y], rfl, hlt, a1, a2, a3, (((e'.trans e5).trans e7).trans e8).other hp2 J8p, (sr7.ext e8).other J8p H0p no6, no6, upd_same, J8p, (rs'.mono ((e5.j.trans e7.j).trans e8.j)).append (.cons ry .nil), by simp; omega, ?_⟩
        refine wpM_mono (wpM_bind w8) fun ys q v J' H' ee rr => q v J' H' ee ?_
        rw [List.append_assoc] at rr
        exact rr
    · have hie : i = ds.length := by omega
      rw [List.drop_eq_nil_of_le (by omega)] at w'
      refine wpAny_mono (T.done (cxC2 X own cap scope cl Hs.objs.size { s2 with heap := Hs, toks := s2.toks } (L2.upd H2 s2.heap.objs.size (.lst [])) fp) rfl rfl rfl hcalm i [] s' σ' H' (fun _ _ => False) I' (fpC fr') st' (wk1 (by omega))) (fun r s4 ⟨hr, I9⟩ => ?_) fun _ _ f => f.elim
      subst hr
      obtain ⟨m, hm, _⟩ := I9.loc
      refine hfin s2.heap.objs.size Hs.objs.size m _ H' _ hm (apartC I2 (by rw [hC]; exact Nat.le_succ _)) I9.free (fun h'' sb => back I9 sb) ?_
      have w9 : ∀ v J' H', Ext J H J' H' → RR c H J' H' (.l .fresh (ys0 ++ [])) v → Q v H' := w'
      rw [List.append_nil] at w9
      exact w9 _ J' H' (e2.trans e') ⟨_, us, rfl, hp', Jp', e2.h.free hp2, rs'⟩
  exact codeAny_compStart_list (loop _ rfl) (T.self _ 0 _ _ _ (T.keep _ _ _ st2 (fun b hb o e => old1 b o (kHs b o e))) (loop _ rfl))
/-- [e for x in xs], as a value -/
theorem pd_comp2 (own : List Str) (cap : List Nat) {elt target iter : Expr} {ifs : List Expr} {scope : Scope} {pos : Pos} {gi : G (List D)} {gt : GT} {gts : G Bool} {ge : G R} (hi : PIc X c target iter gi)
    (hbody : ∀ (cl : List (Str × Addr)) (C : Addr) (s : Shared) (H : Hp) (fp : List Addr), clsOf X.env.cells scope.names [] = some cl → PTg (cxC2 X own cap scope cl C s H fp) c target gt ∧ PIfs (cxC2 X own cap scope cl C s H fp) c ifs gts ∧ PD (cxC2 X own cap scope cl C s H fp) c elt ge)
    (hk : scope.kind = .function := by rfl) (hno : capNo X cap scope = true := by rfl) (hnames : (scope.names.all fun x => !(x.2 == .local) || (scope.names.lookup x.1 == some .local)) = true := by rfl)
    (hcl : (clsOf X.env.cells scope.names []).isSome = true := by rfl) (hcap : capOk X cap = true := by rfl) (hloc : capLoc X cap scope = true := by rfl) (hnd : nodN cap = true := by rfl) (hcalm : X.calm = true := by rfl)
    (hs : ∀ x, foldedSetIterable iter X.env x = pure x := by intro _; rfl) : PD X c (.ListComp elt [⟨target, iter, ifs, 0⟩] scope pos) (gComp own.length cap gi gt gts ge) := by
  intro pins s σ H Q I h
  rw [eval_ListComp]
  exact comp_core2 own cap hi hbody hk hno hnames hcl hcap hloc hnd hcalm hs I h fun acc C m s' H' fl hm hz hf hb q => ⟨m, hm, fun h'' sb => ⟨.ref acc, H', hb h'' sb, rfl, q⟩⟩
/-- a comprehension within takes names of the function and names of this one -/
theorem cls_in2 {cells : List (Str × Addr)} {names names2 : List (Str × NameKind)} {cl : List (Str × Addr)} {n : Nat} (h : clsOf cells names [] = some cl)
    (hn : (names2.all fun y => !(y.2 == .free) || ((names.any fun z => z.1 == y.1 && z.2 == .free) || ownCell names y.1)) = true) : (clsOf (cellsFrom n names cl) names2 []).isSome = true := by
  obtain ⟨_, m2⟩ := clsOf_mem names [] cl h (fun x c h => by simp at h)
  have go : ∀ (l : List (Str × NameKind)) (cs : List (Str × Addr)), (l.all fun y => !(y.2 == .free) || ((names.any fun z => z.1 == y.1 && z.2 == .free) || ownCell names y.1)) = true → (clsOf (cellsFrom n names cl) l cs).isSome = true := by
    intro l
    induction l with
    | nil => intro cs _; rfl
    | cons y r ih =>
      obtain ⟨y, k⟩ := y
      intro cs hl
      rw [List.all_cons, Bool.and_eq_true] at hl
      unfold clsOf
      split
      · rename_i hk
        have h1 := hl.1
        simp only [hk, Bool.not_true, Bool.false_or, Bool.or_eq_true] at h1
        have : ((cellsFrom n names cl).lookup y).isSome = true := by
          refine cellsFrom_own names n cl y ?_
          rcases h1 with z | z
          · obtain ⟨q, hq, e⟩ := List.any_eq_true.mp z
            rw [Bool.and_eq_true] at e
            have e1 : q = (y, NameKind.free) := by
              obtain ⟨q1, q2⟩ := q
              have a1 : q1 = y := eq_of_beq e.1
              have a2 : q2 = NameKind.free := by simpa using e.2
              rw [a1, a2]
            exact .inl (m2 y (.inr (e1 ▸ hq)))
          · exact .inr z
        obtain ⟨a, ha⟩ := Option.isSome_iff_exists.mp this
        rw [ha]
        exact ih _ hl.2
      · exact ih _ hl.2
  exact go names2 [] hn
end
end DL
set_option Elab.async false
set_option linter.all false
set_option maxRecDepth 100000
set_option maxHeartbeats 4000000
namespace DL
open PySem PySem.Spec PyProof.Rows L2 DX
section
variable {X : Cx} {c : C} {e : Expr} {es : List Expr} {g : G R} {pos : Pos}
theorem qpd_sortT {p : Pos} {gs : G (List R)} (hu : X.A.units + 64 < cLine) (ha : QAr X c (e :: es) gs) (hm : X.mg "sorted" = none) (hK : X.K = c.K := by rfl) (hg : Gl X "sorted" := by rfl)
    (he : starEach (e :: es) X.env = (false, eval e X.env) :: starEach es X.env := by rfl) (hpl : (backTo pos (starEach es X.env)).any (·.1) = false := by rfl) : QD X c (.Call (.Name "sorted" p) (e :: es) [] pos) (gN fSortT gs) := ⟨pd_sortT hu ha.h hm hK hg he hpl⟩
theorem qpd1_augM (i : Nat) {x : Str} {pos' : Pos} (hN : X.N.Nodup) (h : QD X c e g) (hi : X.N[i]? = some x := by rfl) (hx : Loc X.env.scope x := by first | exact Or.inl rfl | exact Or.inr rfl) (hf : X.fn x = true ∨ X.env.scope.names.lookup x = some .local := by first | exact .inl rfl | exact .inr rfl) :
    QD1 X c (.AugAssign (.Name x pos') .Mult e pos) (gAug i fMul g) := ⟨pd1_augM i hN h.h hi hx hf⟩
theorem qpd1_star {x y : Str} {px p1 py : Pos} {k : Nat} {pos' : Pos} {t : GTs} (h : QD X c e g) (ht : QTgs X c [.Name x px, .Name y py] t) (hcm : X.calm = true := by rfl) (hK : X.K = c.K := by rfl)
    (hm : (assignEach [.Starred (.Name x px) p1, .Name y py] X.env).map (·.2) = (assignEach [.Name x px, .Name y py] X.env).map (·.2) := by rfl) (hs : swapsWithSole [.Tuple [.Starred (.Name x px) p1, .Name y py] k pos'] e pos.line X.env = pure false := by rfl) (hw : swappedStores [.Tuple [.Starred (.Name x px) p1, .Name y py] k pos'] e X.env = pure none := by rfl)
    (h1 : (assignEach [.Tuple [.Starred (.Name x px) p1, .Name y py] k pos'] X.env).map (·.2) = [assign (.Tuple [.Starred (.Name x px) p1, .Name y py] k pos') X.env] := by rfl) : QD1 X c (.Assign [.Tuple [.Starred (.Name x px) p1, .Name y py] k pos'] e pos) (gStar t g) := ⟨pd1_star h.h ht.h hcm hK rfl rfl hm hs hw h1⟩
theorem qpd_comp2 (own : List Str) (cap : List Nat) {elt target iter : Expr} {ifs : List Expr} {scope : Scope} {pos : Pos} {gi : G (List D)} {gt : GT} {gts : G Bool} {ge : G R} (hi : QIc X c target iter gi)
    (hbody : ∀ (cl : List (Str × Addr)) (C : Addr) (s : Shared) (H : Hp) (fp : List Addr), clsOf X.env.cells scope.names [] = some cl → QTg (cxC2 X own cap scope cl C s H fp) c target gt ∧ QIfs (cxC2 X own cap scope cl C s H fp) c ifs gts ∧ QD (cxC2 X own cap scope cl C s H fp) c elt ge)
    (hk : scope.kind = .function := by rfl) (hno : capNo X cap scope = true := by rfl) (hnames : (scope.names.all fun x => !(x.2 == .local) || (scope.names.lookup x.1 == some .local)) = true := by rfl)
    (hcl : (clsOf X.env.cells scope.names []).isSome = true := by rfl) (hcap : capOk X cap = true := by rfl) (hloc : capLoc X cap scope = true := by rfl) (hnd : nodN cap = true := by rfl) (hcalm : X.calm = true := by rfl)
    (hs : ∀ x, foldedSetIterable iter X.env x = pure x := by intro _; rfl) : QD X c (.ListComp elt [⟨target, iter, ifs, 0⟩] scope pos) (gComp own.length cap gi gt gts ge) :=
  ⟨pd_comp2 own cap hi.h (fun cl C s H fp hc => let ⟨a, b, d⟩ := hbody cl C s H fp hc; ⟨a.h, b.h, d.h⟩) hk hno hnames hcl hcap hloc hnd hcalm hs⟩
theorem funD_mk {K : PySem.W.Frag} {x qual : Str} {st : Stmt} {f T : Addr} {oc oT : Value} {od an dT : Option Addr} {osl sT : Array (Option Value)} {kV doc pm cdv ct : Value} {n : Nat} (l : K.lookup f = some ⟨oc, od, .func (PySem.W.fnOf x qual (defArgs st) (defBody st) (defScope st) (.ref T) kV doc pm an cdv ct), osl⟩)
    (cd : PySem.W.codeIn K cdv qual = true) (k : PySem.W.keepIn K (.ref f) = true) (lT : K.lookup T = some ⟨oT, dT, .seq #[.none] n, sT⟩) : FunD K x qual st f (PySem.W.fnOf x qual (defArgs st) (defBody st) (defScope st) (.ref T) kV doc pm an cdv ct) :=
  ⟨⟨oc, od, T, _, n, kV, doc, pm, an, cdv, ct, osl, rfl, l, cd, lT, rfl⟩, k⟩
end
end DL
set_option Elab.async false
set_option linter.all false
set_option maxRecDepth 100000
set_option maxHeartbeats 4000000
namespace K51
open PySem DL
noncomputable def Nneed_count : List Str := ["told", "least", "most"]
noncomputable def gneed_count : G O := (gIfS (gOr (gNot (gTr (gN (gCall 1 K01.Fis_whole) (gCons (gVar 0) gNil)))) (gOr (gTr (g2 (fI0 fun i j => .bl (decide (i < j))) (gVar 0) (gVar 1))) (gTr (g2 (fI0 fun i j => .bl (decide (j < i))) (gVar 0) (gVar 2))))) (gRaise "NoCount" "told" (gDCons (gVar 0) gDNil)) gNx)
noncomputable def Fneed_count (as : List S) : M R := fin (gneed_count (startE Nneed_count as))
noncomputable def Npower : List Str := ["many", "depth", "told", "step"]
noncomputable def gpower : G O := (gSeq (gSet 2 (gC (.int 1)))
 (gSeq (gFor (gRng1 (gCons (gVar 1) gNil)) (tgName 3) (gAug 2 fMul (gVar 0)))
 (gRet (gVar 2))))
noncomputable def Fpower (as : List S) : M R := fin (gpower (startE Npower as))
noncomputable def Nsorted_once : List Str := ["told", "kept", "one"]
noncomputable def gsorted_once : G O := (gSeq (gSet 1 (gLst gDNil))
 (gSeq (gFor (gItF (gN fSortT (gCons (gVar 0) gNil))) (tgName 2) (gIfS (gOr (gNot (gTru (gVar 1))) (gTr (g2 (fEq true) (g2 fIx (gVar 1) (gNeg (gC (.int 1)))) (gVar 2)))) (gApp 1 (gVar 2)) gNx))
 (gRet (gN fTuple (gCons (gVar 1) gNil)))))
noncomputable def Fsorted_once (as : List S) : M R := fin (gsorted_once (startE Nsorted_once as))
noncomputable def Nface_of : List Str := ["world", "row", "ahead", "last", "many", "marks", "arrows", "same", "bearing", "loops", "outward", "inward"]
noncomputable def gface_of : G O := (gSeq (gIfS (gTr (g2 (fEq false) (gN fLen (gCons (gVar 1) gNil)) (gC (.int 0)))) (gRet (gTup gDNil)) gNx)
 (gSeq (gStar (tgCons (tgName 2) (tgCons (tgName 3) tgNil)) (gVar 1))
 (gSeq (gAsg (tgTup 3 (tgCons (tgName 4) (tgCons (tgName 5) (tgCons (tgName 6) tgNil)))) (gVar 0))
 (gSeq (gSet 7 (gN fTuple (gCons (gComp 1 [3] (gItQ (gVar 2)) (tgName 0) gTt (g2 (fEq false) (gVar 0) (gVar 1))) gNil)))
 (gSeq (gSet 8 (gN fTuple (gCons (gComp 2 [3] (gItQ (gVar 5)) (tgTup 2 (tgCons (tgName 0) (tgCons (tgName 1) tgNil))) gTt (g2 (fIn false) (gVar 2) (gVar 1))) gNil)))
 (gSeq (gSet 9 (gN fTuple (gCons (gComp 2 [3] (gItQ (gVar 6)) (tgTup 2 (tgCons (tgName 0) (tgCons (tgName 1) tgNil))) gTt (g2 (fIn false) (gTup (gDCons (gVar 2) (gDCons (gVar 2) gDNil))) (gVar 1))) gNil)))
 (gSeq (gSet 10 (gN fTuple (gCons (gComp 2 [2, 3] (gItQ (gVar 6)) (tgTup 2 (tgCons (tgName 0) (tgCons (tgName 1) tgNil))) gTt (gN fTuple (gCons (gComp 1 [3, 1] (gItQ (gVar 2)) (tgName 0) gTt (g2 (fIn false) (gTup (gDCons (gVar 1) (gDCons (gVar 0) gDNil))) (gVar 2))) gNil))) gNil)))
 (gSeq (gSet 11 (gN fTuple (gCons (gComp 2 [2, 3] (gItQ (gVar 6)) (tgTup 2 (tgCons (tgName 0) (tgCons (tgName 1) tgNil))) gTt (gN fTuple (gCons (gComp 1 [3, 1] (gItQ (gVar 2)) (tgName 0) gTt (g2 (fIn false) (gTup (gDCons (gVar 0) (gDCons (gVar 1) gDNil))) (gVar 2))) gNil))) gNil)))
 (gRet (gTup (gDCons (gVar 7) (gDCons (gVar 8) (gDCons (gVar 9) (gDCons (gVar 10) (gDCons (gVar 11) gDNil)))))))))))))))
noncomputable def Fface_of (as : List S) : M R := fin (gface_of (startE Nface_of as))
noncomputable def Nkind_of : List Str := ["world", "depth", "row", "face"]
noncomputable def gkind_of (Fr : List S → M R) : G O := (gSeq (gSet 3 (gN (gCall 2 K51.Fface_of) (gCons (gVar 0) (gCons (gVar 2) gNil))))
 (gSeq (gIfS (gTr (g2 (fEq false) (gVar 1) (gC (.int 0)))) (gRet (gTup (gDCons (gVar 3) (gDCons (gTup gDNil) gDNil)))) gNx)
 (gRet (gTup (gDCons (gVar 3) (gDCons (gN (gCall 1 K51.Fsorted_once) (gCons (gComp 1 [0, 1, 2] (gRng1 (gCons (g2 fIx (gVar 0) (gC (.int 0))) gNil)) (tgName 0) gTt (gN (gCall 3 Fr) (gCons (gVar 1) (gCons (g2 fSub (gVar 2) (gC (.int 1))) (gCons (g2 fAdd4 (gVar 3) (gTup (gDCons (gVar 0) gDNil))) gNil))))) gNil)) gDNil))))))
noncomputable def Fkind_of : Nat → List S → M R
  | 0, _ => .bad
  | k + 1, as => fin (gkind_of (Fkind_of k) (startE Nkind_of as))
noncomputable def Nkind : List Str := ["world", "depth", "row", "many"]
noncomputable def gkind : G O := (gSeq (gDrop (gN (gCallX 3 K51.Fneed_count) (gCons (gVar 1) (gCons (gC (.int 0)) (gCons (gC (.int 6)) gNil)))))
 (gSeq (gSet 3 (gN (gCall 2 K51.Fpower) (gCons (g2 fIx (gVar 0) (gC (.int 0))) (gCons (gVar 1) gNil))))
 (gSeq (gIfS (gTr (g2 (fI0 fun i j => .bl (decide (j < i))) (gVar 3) (gC (.int 600)))) (gRaise "TooMany" "many" (gDCons (gVar 3) gDNil)) gNx)
 (gRet (gN (gCall 3 (K51.Fkind_of 10)) (gCons (gVar 0) (gCons (gVar 1) (gCons (gIf (gTr (g2 (fIs false) (gVar 2) (gC .non))) (gTup gDNil) (gVar 2)) gNil))))))))
noncomputable def Fkind (as : List S) : M R := fin (gkind (startE Nkind as))
noncomputable def N_law_cell : List Str := ["_law_script", "_law_k"]
noncomputable def g_law_cell : G O := (gSeq (gIfS (gTr (g2 (fI0 fun i j => .bl (decide (i < j))) (gVar 1) (gN fLen (gCons (gVar 0) gNil)))) (gRet (g2 fMod (g2 fIx (gVar 0) (gVar 1)) (g2 fPow (gC (.int 10)) (gC (.int 64))))) gNx)
 (gRet (gC (.int 0))))
noncomputable def F_law_cell (as : List S) : M R := fin (g_law_cell (startE N_law_cell as))
noncomputable def N_law_names : List Str := ["_law_cell_here", "_law_many", "_law_letters", "_law_sign", "_law_stem", "_law_found", "_law_k", "_law_other", "_law_name"]
noncomputable def g_law_names : G O := (gSeq (gSet 2 (gC (.str "abcdefghijklmnopqrstuvwxyz")))
 (gSeq (gSet 3 (g2 fIx (gVar 2) (g2 fMod (g2 fDiv (gVar 0) (gC (.int 3))) (gC (.int 26)))))
 (gSeq (gSet 4 (g2 fTimes (gVar 3) (g2 fPlus (gC (.int 1)) (g2 fMod (g2 fDiv (gVar 0) (gC (.int 78))) (gC (.int 7))))))
 (gSeq (gSet 5 (gLst gDNil))
 (gSeq (gFor (gRng1 (gCons (gVar 1) gNil)) (tgName 6) (gSeq (gSet 7 (g2 fIx (gVar 2) (g2 fMod (g2 fPlus (g2 fDiv (gVar 0) (gC (.int 546))) (g2 fTimes (gC (.int 9)) (gVar 6))) (gC (.int 26)))))
 (gSeq (gSet 8 (g2 fIx (gLst (gDCons (g2 fPlus (gVar 4) (gVar 7)) (gDCons (g2 fPlus (gVar 7) (gVar 4)) (gDCons (g2 fTimes (gVar 3) (g2 fPlus (gVar 6) (gC (.int 2)))) gDNil)))) (g2 fMod (gVar 0) (gC (.int 3)))))
 (gSeq (gIfS (gTr (g2 (fEq false) (gVar 8) (gC (.str "or")))) (gSet 8 (gC (.str "orx"))) gNx)
 (gApp 5 (gVar 8))))))
 (gRet (gN fSorted (gCons (gVar 5) gNil))))))))
noncomputable def F_law_names (as : List S) : M R := fin (g_law_names (startE N_law_names as))
noncomputable def N_law_bits : List Str := ["_law_cell_here", "_law_size", "_law_found", "_law_k"]
noncomputable def g_law_bits : G O := (gSeq (gSet 2 (gLst gDNil))
 (gSeq (gFor (gRng1 (gCons (gVar 1) gNil)) (tgName 3) (gSeq (gApp 2 (g2 (fEq false) (g2 fMod (gVar 0) (gC (.int 2))) (gC (.int 1))))
 (gSet 0 (g2 fDiv (gVar 0) (gC (.int 2))))))
 (gRet (gVar 2))))
noncomputable def F_law_bits (as : List S) : M R := fin (g_law_bits (startE N_law_bits as))
noncomputable def N_law_world : List Str := ["_law_names_here", "_law_many", "_law_cells", "_law_marks", "_law_k", "_law_bits_here", "_law_arrows"]
noncomputable def g_law_world : G O := (gSeq (gSet 3 (gLst gDNil))
 (gSeq (gFor (gRng1 (gCons (gN fLen (gCons (g2 fIx (gVar 0) (gC (.int 0))) gNil)) gNil)) (tgName 4) (gSeq (gSet 5 (gN (gCall 2 K51.F_law_bits) (gCons (g2 fIx (gVar 2) (gVar 4)) (gCons (gVar 1) gNil))))
 (gApp 3 (gTup (gDCons (g2 fIx (g2 fIx (gVar 0) (gC (.int 0))) (gVar 4)) (gDCons (gN fTuple (gCons (gComp 1 [5] (gRng1 (gCons (gVar 1) gNil)) (tgName 0) (gTru (g2 fIx (gVar 1) (gVar 0))) (gVar 0)) gNil)) gDNil))))))
 (gSeq (gSet 6 (gLst gDNil))
 (gSeq (gFor (gRng1 (gCons (gN fLen (gCons (g2 fIx (gVar 0) (gC (.int 1))) gNil)) gNil)) (tgName 4) (gSeq (gSet 5 (gN (gCall 2 K51.F_law_bits) (gCons (g2 fIx (gVar 2) (g2 fPlus (gC (.int 3)) (gVar 4))) (gCons (g2 fTimes (gVar 1) (gVar 1)) gNil))))
 (gApp 6 (gTup (gDCons (g2 fIx (g2 fIx (gVar 0) (gC (.int 1))) (gVar 4)) (gDCons (gN fTuple (gCons (gComp 1 [5, 1] (gRng1 (gCons (g2 fTimes (gVar 1) (gVar 1)) gNil)) (tgName 0) (gTru (g2 fIx (gVar 1) (gVar 0))) (gTup (gDCons (g2 fDiv (gVar 0) (gVar 2)) (gDCons (g2 fMod (gVar 0) (gVar 2)) gDNil)))) gNil)) gDNil))))))
 (gRet (gTup (gDCons (gVar 1) (gDCons (gN fTuple (gCons (gVar 3) gNil)) (gDCons (gN fTuple (gCons (gVar 6) gNil)) gDNil)))))))))
noncomputable def F_law_world (as : List S) : M R := fin (g_law_world (startE N_law_world as))
noncomputable def N_law_one : List Str := ["_law_script", "_law_sizes", "_law_at", "_law_first", "_law_second", "_law_marks", "_law_names_here"]
noncomputable def g_law_one : G O := (gSeq (gSet 3 (gN (gCall 2 K51.F_law_cell) (gCons (gVar 0) (gCons (gVar 2) gNil))))
 (gSeq (gSet 4 (gN (gCall 2 K51.F_law_cell) (gCons (gVar 0) (gCons (g2 fPlus (gVar 2) (gC (.int 1))) gNil))))
 (gSeq (gSet 5 (gN (gCall 2 K51.F_law_names) (gCons (g2 fDiv (gVar 4) (gC (.int 20))) (gCons (g2 fIx (gLst (gDCons (gC (.int 1)) (gDCons (gC (.int 0)) (gDCons (gC (.int 2)) (gDCons (gC (.int 3)) gDNil))))) (g2 fMod (gVar 4) (gC (.int 4)))) gNil))))
 (gSeq (gFrz 5 (gSet 6 (gTup (gDCons (gVar 5) (gDCons (gN (gCall 2 K51.F_law_names) (gCons (gN (gCall 2 K51.F_law_cell) (gCons (gVar 0) (gCons (g2 fPlus (gVar 2) (gC (.int 2))) gNil))) (gCons (g2 fIx (gLst (gDCons (gC (.int 1)) (gDCons (gC (.int 2)) (gDCons (gC (.int 0)) (gDCons (gC (.int 1)) (gDCons (gC (.int 3)) gDNil)))))) (g2 fMod (g2 fDiv (gVar 4) (gC (.int 4))) (gC (.int 5)))) gNil))) gDNil)))))
 (gRet (gN (gCall 3 K51.F_law_world) (gCons (gVar 6) (gCons (g2 fIx (gVar 1) (g2 fMod (gVar 3) (gC (.int 8)))) (gCons (gComp 1 [0, 2] (gRng1 (gCons (gC (.int 6)) gNil)) (tgName 0) gTt (gN (gCall 2 K51.F_law_cell) (gCons (gVar 1) (gCons (g2 fPlus (g2 fPlus (gVar 2) (gC (.int 3))) (gVar 0)) gNil)))) gNil)))))))))
noncomputable def F_law_one (as : List S) : M R := fin (g_law_one (startE N_law_one as))
noncomputable def N_law_row : List Str := ["_law_script", "_law_at", "_law_many", "_law_most", "_law_found", "_law_k"]
noncomputable def g_law_row : G O := (gSeq (gSet 4 (gTup gDNil))
 (gSeq (gFor (gRng1 (gCons (g2 fMod (gN (gCall 2 K51.F_law_cell) (gCons (gVar 0) (gCons (gVar 1) gNil))) (g2 fAdd4 (gVar 3) (gC (.int 1)))) gNil)) (tgName 5) (gSet 4 (g2 fAdd4 (gVar 4) (gTup (gDCons (g2 fMod (gN (gCall 2 K51.F_law_cell) (gCons (gVar 0) (gCons (g2 fAdd4 (g2 fAdd4 (gVar 1) (gC (.int 1))) (gVar 5)) gNil))) (gVar 2)) gDNil)))))
 (gRet (gVar 4))))
noncomputable def F_law_row (as : List S) : M R := fin (g_law_row (startE N_law_row as))
end K51
set_option Elab.async false
set_option linter.all false
set_option maxRecDepth 100000
set_option maxHeartbeats 4000000
/-! What a body does, from its end: for proofs upon data. -/
namespace WP
open PySem DL K01
noncomputable def Wp {α : Type} (m : M α) (P : α → Prop) : Prop := ∃ a, m = .ok a ∧ P a
section
variable {α β : Type} {m : M α} {P P' : α → Prop} {a : α} {env : Ev} {Q : O → Prop} {t u : G O} {g : G R} {r r' : R} {i : Nat} {b : G Bool}
theorem Wp.of (h : m = .ok a) (p : P a) : Wp m P := ⟨a, h, p⟩
theorem Wp.mono (h : Wp m P) (k : ∀ a, P a → P' a) : Wp m P' := let ⟨a, h1, h2⟩ := h; ⟨a, h1, k a h2⟩
theorem Wp.eq (h : Wp m (· = a)) : m = .ok a := let ⟨_, h1, h2⟩ := h; h2 ▸ h1
theorem Wp.bind {f : α → M β} {P : β → Prop} (h : Wp m fun a => Wp (f a) P) : Wp (m >>= f) P := by
  obtain ⟨a, rfl, h2⟩ := h
  exact h2
theorem w_fin {P : R → Prop} (h : Wp (t env) fun o => ∃ r, o = .rt r ∧ P r) : Wp (fin (t env)) P := by
  obtain ⟨_, h1, r, rfl, h2⟩ := h
  exact ⟨r, by rw [h1]; rfl, h2⟩
theorem w_finN (h : Wp (t env) fun o => ∃ e, o = .nx e) : fin (t env) = .ok (.d .non) := by
  obtain ⟨_, h1, r, rfl⟩ := h
  rw [h1]; rfl
theorem eq_fin (h : Wp (t env) (· = .rt r)) : fin (t env) = .ok r := by
  rw [h.eq]; rfl
theorem w_seq (h : Wp (t env) fun o => match o with
  | .nx e => Wp (u e) Q
  | o => Q o) : Wp (gSeq t u env) Q := by
  obtain ⟨o, h1, h2⟩ := h
  show Wp (t env >>= _) Q
  rw [h1]
  cases o with
  | nx e => exact h2
  | rt r => exact ⟨_, rfl, h2⟩
  | bk e => exact ⟨_, rfl, h2⟩
  | ct e => exact ⟨_, rfl, h2⟩
theorem l_set {x : S} (h : g env = .ok r) (h2 : toS r = .ok x) (k : Q (.nx (env.set i (some x)))) : Wp (gSet i g env) Q := ⟨_, by show (g env >>= _) = _; rw [h, bind_ok, h2]; rfl, k⟩
theorem s_set {x : S} (h : g env = .ok r) (h2 : toS r = .ok x) (k : Wp (u (env.set i (some x))) Q) : Wp (gSeq (gSet i g) u env) Q := w_seq (l_set h h2 k)
theorem l_ret (h : g env = .ok r) (h2 : rF r = .ok r') (k : Q (.rt r')) : Wp (gRet g env) Q := ⟨_, ret_eq h h2, k⟩
theorem l_nx (k : Q (.nx env)) : Wp (gNx env) Q := ⟨_, rfl, k⟩
theorem s_nx (k : Wp (u env) Q) : Wp (gSeq gNx u env) Q := w_seq (l_nx k)
theorem l_yes (h : b env = .ok true) (k : Wp (t env) Q) : Wp (gIfS b t u env) Q := by rw [ifs_yes h]; exact k
theorem l_no (h : b env = .ok false) (k : Wp (u env) Q) : Wp (gIfS b t u env) Q := by rw [ifs_no h]; exact k
theorem l_if {c : Bool} (h : b env = .ok c) (k1 : c = true → Wp (t env) Q) (k2 : c = false → Wp (u env) Q) : Wp (gIfS b t u env) Q := by
  cases c with
  | true => exact l_yes h (k1 rfl)
  | false => exact l_no h (k2 rfl)
theorem s_no {v : G O} (h : b env = .ok false) (k : Wp (gSeq u v env) Q) : Wp (gSeq (gIfS b t u) v env) Q := by
  have : gSeq (gIfS b t u) v env = gSeq u v env := by unfold gSeq; rw [ifs_no h]
  rw [this]; exact k
/-- if c: return .. -/
theorem s_skip {v : G O} (h : b env = .ok false) (k : Wp (v env) Q) : Wp (gSeq (gIfS b t gNx) v env) Q := s_no h (s_nx k)
theorem l_app {xs : List D} {d : D} (h0 : env[i]? = some (some (.own xs))) (h : g env = .ok r) (h2 : toD r = .ok d) (hl : xs.length ≤ 1000) (k : Q (.nx (env.set i (some (.own (xs ++ [d])))))) : Wp (gApp i g env) Q := by
  refine ⟨_, ?_, k⟩
  unfold gApp
  rw [h0]
  show (g env >>= _) = _
  rw [h, bind_ok, h2, bind_ok, if_pos (Nat.lt_of_le_of_lt hl (by decide))]
theorem s_app {xs : List D} {d : D} (h0 : env[i]? = some (some (.own xs))) (h : g env = .ok r) (h2 : toD r = .ok d) (hl : xs.length ≤ 1000) (k : Wp (u (env.set i (some (.own (xs ++ [d]))))) Q) : Wp (gSeq (gApp i g) u env) Q := w_seq (l_app h0 h h2 hl k)
theorem l_for {gi : G (List D)} {tg : GT} {ds : List D} (h : gi env = .ok ds) (k : Wp (loopG tg u ds env) Q) : Wp (gFor gi tg u env) Q := by rw [for_eq h]; exact k
theorem s_for {gi : G (List D)} {tg : GT} {ds : List D} {v : G O} (h : gi env = .ok ds) (k : Wp (loopG tg t ds env) fun o => match o with
  | .nx e => Wp (v e) Q
  | o => Q o) : Wp (gSeq (gFor gi tg t) v env) Q := w_seq (l_for h k)
/-- a walk by its place -/
theorem w_loop {tg : GT} (I : Nat → Ev → Prop) (ds : List D) (h0 : I 0 env) (step : ∀ (k : Nat) (hk : k < ds.length) (env : Ev), I k env → ∃ e, tg ds[k] env = .ok e ∧ Wp (u e) fun o => ∃ e, o = .nx e ∧ I (k + 1) e)
    (k : ∀ e, I ds.length e → Q (.nx e)) : Wp (loopG tg u ds env) Q := by
  have key : ∀ (es : List D) (i : Nat) (env : Ev), ds.drop i = es → i ≤ ds.length → I i env → Wp (loopG tg u es env) Q := by
    intro es
    induction es with
    | nil =>
      intro i env hd hi hI
      have : i = ds.length := by
        have := congrArg List.length hd
        rw [List.length_drop] at this
        simp at this; omega
      subst this
      exact ⟨_, rfl, k _ hI⟩
    | cons d es ih =>
      intro i env hd hi hI
      have hlt : i < ds.length := by
        have := congrArg List.length hd
        rw [List.length_drop] at this
        simp at this; omega
      have e1 := List.drop_eq_getElem_cons hlt
      rw [hd] at e1
      obtain ⟨q1, q2⟩ := List.cons.inj e1
      obtain ⟨e, h1, _, h2, e2, rfl, h3⟩ := step i hlt env hI
      unfold loopG
      rw [q1, h1, bind_ok, h2, bind_ok]
      exact ih (i + 1) e2 q2.symm (by omega) h3
  exact key ds 0 env rfl (Nat.zero_le _) h0
theorem w_rng {tg : GT} {n : Nat} (I : Nat → Ev → Prop) (h0 : I 0 env) (step : ∀ (k : Nat), k < n → ∀ env, I k env → ∃ e, tg (.int k) env = .ok e ∧ Wp (u e) fun o => ∃ e, o = .nx e ∧ I (k + 1) e)
    (k : ∀ e, I n e → Q (.nx e)) : Wp (loopG tg u (rngD 0 n) env) Q := by
  have hl : (rngD 0 n).length = n := by simp [rngD]
  refine w_loop I (rngD 0 n) h0 (fun j hj env hI => ?_) (by rw [hl]; exact k)
  obtain ⟨e, h1, h2⟩ := step j (by rw [hl] at hj; exact hj) env hI
  refine ⟨e, ?_, h2⟩
  rw [← h1]
  simp [rngD]
/-- calls -/
theorem n1 {f : List R → M R} {x z : R} (hx : g env = .ok x) (hf : f [x] = .ok z) : gN f (gCons g gNil) env = .ok z := n1_eq hx hf
theorem two {f : R → R → M R} {h : G R} {x y z : R} (hx : g env = .ok x) (hy : h env = .ok y) (hf : f x y = .ok z) : g2 f g h env = .ok z := by
  show (g env >>= _) = _
  rw [hx, bind_ok, hy, bind_ok, hf]
theorem c1 {F : List S → M R} {x z : R} (hx : g env = .ok x) (hF : F [toA x] = .ok z) : gN (gCall 1 F) (gCons g gNil) env = .ok (frR z) := by
  show (gCons g gNil env >>= _) = _
  unfold gCons gNil
  rw [hx]
  show (match F [toA x] with | .ok r => M.ok (frR r) | _ => M.bad) = _
  rw [hF]
theorem c2 {F : List S → M R} {h : G R} {x y z : R} (hx : g env = .ok x) (hy : h env = .ok y) (hF : F [toA x, toA y] = .ok z) : gN (gCall 2 F) (gCons g (gCons h gNil)) env = .ok (frR z) := by
  show (gCons g (gCons h gNil) env >>= _) = _
  unfold gCons gNil
  rw [hx, hy]
  show (match F [toA x, toA y] with | .ok r => M.ok (frR r) | _ => M.bad) = _
  rw [hF]
theorem c3 {F : List S → M R} {h k : G R} {x y w z : R} (hx : g env = .ok x) (hy : h env = .ok y) (hw : k env = .ok w) (hF : F [toA x, toA y, toA w] = .ok z) : gN (gCall 3 F) (gCons g (gCons h (gCons k gNil))) env = .ok (frR z) := by
  show (gCons g (gCons h (gCons k gNil)) env >>= _) = _
  unfold gCons gNil
  rw [hx, hy, hw]
  show (match F [toA x, toA y, toA w] with | .ok r => M.ok (frR r) | _ => M.bad) = _
  rw [hF]
theorem c4 {F : List S → M R} {h k l : G R} {x y w v z : R} (hx : g env = .ok x) (hy : h env = .ok y) (hw : k env = .ok w) (hv : l env = .ok v) (hF : F [toA x, toA y, toA w, toA v] = .ok z) : gN (gCall 4 F) (gCons g (gCons h (gCons k (gCons l gNil)))) env = .ok (frR z) := by
  show (gCons g (gCons h (gCons k (gCons l gNil))) env >>= _) = _
  unfold gCons gNil
  rw [hx, hy, hw, hv]
  show (match F [toA x, toA y, toA w, toA v] with | .ok r => M.ok (frR r) | _ => M.bad) = _
  rw [hF]
theorem x3 {F : List S → M R} {h k : G R} {x y w z : R} (hx : g env = .ok x) (hy : h env = .ok y) (hw : k env = .ok w) (hF : F [toA x, toA y, toA w] = .ok z) : gN (gCallX 3 F) (gCons g (gCons h (gCons k gNil))) env = .ok (frR z) := by
  show (gCons g (gCons h (gCons k gNil)) env >>= _) = _
  unfold gCons gNil
  rw [hx, hy, hw]
  show (match F [toA x, toA y, toA w] with | .ok r => M.ok (frR r) | .exc x => .exc x | .bad => M.bad) = _
  rw [hF]
theorem drop_ok (h : g env = .ok r) (k : Wp (u env) Q) : Wp (gSeq (gDrop g) u env) Q := w_seq ⟨.nx env, by show (g env >>= _) = _; rw [h]; rfl, k⟩
theorem comp2 {cap : List Nat} {gi : G (List D)} {ge : G R} {α : Type} {xs : List α} (a b : α → D) (f : α → D) (hi : gi env = .ok (xs.map fun x => .tup [a x, b x])) (hl : xs.length ≤ 1000)
    (h : ∀ x ∈ xs, ∃ r, ge (some (.d (a x)) :: some (.d (b x)) :: cE 0 cap env) = .ok r ∧ toD r = .ok (f x)) : gComp 2 cap gi (tgTup 2 (tgCons (tgName 0) (tgCons (tgName 1) tgNil))) gTt ge env = .ok (.l .fresh (xs.map f)) := by
  have key : ∀ (es : List α) (x y : Option S), (∀ d ∈ es, d ∈ xs) → compG (tgTup 2 (tgCons (tgName 0) (tgCons (tgName 1) tgNil))) gTt ge (es.map fun x => .tup [a x, b x]) (x :: y :: cE 0 cap env) = .ok (es.map f) := by
    intro es
    induction es with
    | nil => exact fun _ _ _ => rfl
    | cons d es ih =>
      intro x y hm
      obtain ⟨r, h1, h2⟩ := h d (hm d List.mem_cons_self)
      rw [List.map_cons]
      unfold compG
      show (ge (some (.d (a d)) :: some (.d (b d)) :: cE 0 cap env) >>= _) = _
      rw [h1, bind_ok, h2, bind_ok]
      show (compG _ gTt ge _ (some (.d (a d)) :: some (.d (b d)) :: cE 0 cap env) >>= _) = _
      rw [ih _ _ fun e he => hm e (List.mem_cons_of_mem _ he)]
      rfl
  unfold gComp
  rw [hi, bind_ok, if_pos (line1000 (by rw [List.length_map]; exact hl))]
  show (compG _ gTt ge _ (none :: none :: cE 0 cap env) >>= _) = _
  rw [key xs none none fun _ h => h]
  rfl
theorem rngN (n : Nat) : rngD 0 n = (List.range n).map dN := by simp [rngD]
theorem rngM {gs : G (List R)} {n : Nat} (hg : gs env = .ok [.d (.int (n : Int))]) (h : n ≤ 1000) : gRng1 gs env = .ok ((List.range n).map dN) := by rw [rng1 hg h, rngN]
theorem cmp1 {cap : List Nat} {gi : G (List D)} {ge : G R} {α : Type} {xs : List α} {h : α → D} (f : α → D) (hi : gi env = .ok (xs.map h)) (hl : xs.length ≤ 1000)
    (hb : ∀ x ∈ xs, ∃ r, ge (some (.d (h x)) :: cE 0 cap env) = .ok r ∧ toD r = .ok (f x)) : gComp 1 cap gi (tgName 0) gTt ge env = .ok (.l .fresh (xs.map f)) := by
  have key : ∀ (es : List α) (x : Option S), (∀ d ∈ es, d ∈ xs) → compG (tgName 0) gTt ge (es.map h) (x :: cE 0 cap env) = .ok (es.map f) := by
    intro es
    induction es with
    | nil => exact fun _ _ => rfl
    | cons d es ih =>
      intro x hm
      obtain ⟨r, h1, h2⟩ := hb d (hm d List.mem_cons_self)
      rw [List.map_cons]
      unfold compG
      show (ge (some (.d (h d)) :: cE 0 cap env) >>= _) = _
      rw [h1, bind_ok, h2, bind_ok]
      show (compG (tgName 0) gTt ge _ (some (.d (h d)) :: cE 0 cap env) >>= _) = _
      rw [ih _ fun e he => hm e (List.mem_cons_of_mem _ he)]
      rfl
  unfold gComp
  rw [hi, bind_ok, if_pos (line1000 (by rw [List.length_map]; exact hl))]
  show (compG (tgName 0) gTt ge _ (none :: cE 0 cap env) >>= _) = _
  rw [key xs none fun _ h => h]
  rfl
theorem cmp1F {cap : List Nat} {gi : G (List D)} {ge : G R} {gts : G Bool} {α : Type} {xs : List α} {h : α → D} (p : α → Bool) (f : α → D) (hi : gi env = .ok (xs.map h)) (hl : xs.length ≤ 1000)
    (hb : ∀ x ∈ xs, gts (some (.d (h x)) :: cE 0 cap env) = .ok (p x) ∧ (p x = true → ∃ r, ge (some (.d (h x)) :: cE 0 cap env) = .ok r ∧ toD r = .ok (f x))) : gComp 1 cap gi (tgName 0) gts ge env = .ok (.l .fresh ((xs.filter p).map f)) := by
  have key : ∀ (es : List α) (x : Option S), (∀ d ∈ es, d ∈ xs) → compG (tgName 0) gts ge (es.map h) (x :: cE 0 cap env) = .ok ((es.filter p).map f) := by
    intro es
    induction es with
    | nil => exact fun _ _ => rfl
    | cons d es ih =>
      intro x hm
      obtain ⟨h0, h1⟩ := hb d (hm d List.mem_cons_self)
      rw [List.map_cons]
      unfold compG
      show (gts (some (.d (h d)) :: cE 0 cap env) >>= _) = _
      rw [h0, bind_ok]
      cases q : p d with
      | true =>
        obtain ⟨r, h1, h2⟩ := h1 q
        rw [if_pos rfl]
        show (ge (some (.d (h d)) :: cE 0 cap env) >>= _) = _
        rw [h1, bind_ok, h2, bind_ok]
        show (compG (tgName 0) gts ge _ (some (.d (h d)) :: cE 0 cap env) >>= _) = _
        rw [ih _ fun e he => hm e (List.mem_cons_of_mem _ he), List.filter_cons_of_pos q]
        rfl
      | false =>
        rw [if_neg (by decide), List.filter_cons_of_neg (by simp [q])]
        exact ih _ fun e he => hm e (List.mem_cons_of_mem _ he)
  unfold gComp
  rw [hi, bind_ok, if_pos (line1000 (by rw [List.length_map]; exact hl))]
  show (compG (tgName 0) gts ge _ (none :: cE 0 cap env) >>= _) = _
  rw [key xs none fun _ h => h]
  rfl
/-- written tuples and lists -/
theorem gCons_one {x : R} (h : g env = .ok x) : gCons g gNil env = .ok [x] := by
  show (g env >>= _) = _
  rw [h]
  rfl
theorem dl_nil : gDNil env = .ok [] := rfl
theorem dl_cons {gs : G (List D)} {d : D} {ds : List D} (h : g env = .ok r) (h2 : toD r = .ok d) (k : gs env = .ok ds) : gDCons g gs env = .ok (d :: ds) := by
  show (g env >>= _) = _
  rw [h, bind_ok, h2, bind_ok, k]
  rfl
theorem tup_ok {gs : G (List D)} {ds : List D} (h : gs env = .ok ds) (hl : ds.length ≤ 1000) : gTup gs env = .ok (.d (.tup ds)) := by
  show (gs env >>= _) = _
  rw [h, bind_ok, if_pos (line1000 hl)]
theorem lst_ok {gs : G (List D)} {ds : List D} (h : gs env = .ok ds) (hl : ds.length ≤ 1000) : gLst gs env = .ok (.l .fresh ds) := by
  show (gs env >>= _) = _
  rw [h, bind_ok, if_pos (line1000 hl)]
theorem ix_mem {α : Type} {xs : List α} {h : α → D} (f : R) (hf : asQ f = .ok (xs.map h)) (i : Int) (h0 : 0 ≤ i) (hi : i < xs.length) : ∃ x ∈ xs, fIx f (.d (.int i)) = .ok (.d (h x)) := by
  obtain ⟨k, rfl⟩ := Int.eq_ofNat_of_zero_le h0
  have hk : k < xs.length := by omega
  refine ⟨xs[k], List.getElem_mem hk, ?_⟩
  have h1 : (xs.map h)[k]? = some (h xs[k]) := by rw [List.getElem?_map, List.getElem?_eq_getElem hk]; rfl
  cases f with
  | d x => cases x <;> first | cases hf | skip
           · exact fIx_tup h1
           · unfold fIx; simp only [asQ, bind_ok, atI_nat h1]
  | l m x => cases hf; exact fIx_l h1
theorem w_frz {xs : List D} (h : env[i]? = some (some (.own xs))) (k : Wp (t (env.set i (some (.d (.lst xs))))) Q) : Wp (gFrz i t env) Q := by
  have : gFrz i t env = t (env.set i (some (.d (.lst xs)))) := by unfold gFrz; rw [h]
  rw [this]; exact k
theorem l_asg {tg : GT} {d : D} {e : Ev} (h : g env = .ok r) (h2 : toD r = .ok d) (h3 : tg d env = .ok e) (k : Q (.nx e)) : Wp (gAsg tg g env) Q := ⟨_, by show (g env >>= _) = _; rw [h, bind_ok, h2, bind_ok, h3]; rfl, k⟩
theorem s_asg {tg : GT} {d : D} {e : Ev} (h : g env = .ok r) (h2 : toD r = .ok d) (h3 : tg d env = .ok e) (k : Wp (u e) Q) : Wp (gSeq (gAsg tg g) u env) Q := w_seq (l_asg h h2 h3 k)
theorem s_star {tg : GTs} {xs : List D} {z : D} {e : Ev} (h : g env = .ok (.d (.tup (xs ++ [z])))) (hl : xs.length + 1 ≤ 1000) (h3 : tg [.lst xs, z] env = .ok e) (k : Wp (u e) Q) : Wp (gSeq (gStar tg g) u env) Q := by
  refine w_seq ⟨.nx e, ?_, k⟩
  unfold gStar
  rw [h]
  simp only [bind_ok, toD, List.getLast?_concat, List.dropLast_concat, List.length_append, List.length_singleton, hl, if_true, h3]
theorem atI_last {α : Type} (xs : List α) (z : α) : L2.atI (xs ++ [z]) (-1) = some z := by
  unfold L2.atI L2.ixN
  rw [if_neg (by decide), if_pos (by simp; omega)]
  rw [show ((-1 : Int) + ((xs ++ [z]).length : Nat)).toNat = xs.length by simp; omega]
  simp
theorem ixl_own (m : Md) (xs : List D) (z : D) : fIx (.l m (xs ++ [z])) (.d (.int (-1))) = .ok (.d z) := by
  unfold fIx
  simp only [asQ, bind_ok, atI_last]
theorem in_ok (neg : Bool) (x : D) (ys : List D) (h : deps ys ≤ 60) (hx : dep x ≤ 60) : fIn neg (.d x) (.d (.tup ys)) = .ok (.d (.bl (if neg then !inD x ys else inD x ys))) := by
  show (if deps ys ≤ 60 ∧ dep x ≤ 60 then M.ok (R.d (.bl (if neg then !inD x ys else inD x ys))) else M.bad) = _
  rw [if_pos ⟨h, hx⟩]
theorem eq_ok (neg : Bool) (x y : R) (h : dep x.dat ≤ 60) (hx : dep y.dat ≤ 60) : fEq neg x y = .ok (.d (.bl (if neg then !eqD x.dat y.dat else eqD x.dat y.dat))) := by
  unfold fEq
  rw [if_pos ⟨h, hx⟩]
theorem deps_le {n : Nat} : ∀ {xs : List D}, (∀ x ∈ xs, dep x ≤ n) → deps xs ≤ n
  | [], _ => Nat.zero_le _
  | x :: xs, h => by
    have h1 := h x List.mem_cons_self
    have h2 := deps_le (xs := xs) fun y hy => h y (List.mem_cons_of_mem _ hy)
    simp only [deps]
    omega
theorem deps_N (xs : List Nat) : deps (xs.map dN) ≤ 60 := deps_le fun x hx => by
  obtain ⟨k, _, rfl⟩ := List.mem_map.mp hx
  exact Nat.zero_le _
theorem deps_P (xs : List (Nat × Nat)) : deps (xs.map dP) ≤ 60 := deps_le fun x hx => by
  obtain ⟨k, _, rfl⟩ := List.mem_map.mp hx
  exact (by decide : (1 : Nat) ≤ 60)
end
end WP
set_option Elab.async false
set_option linter.all false
set_option maxRecDepth 100000
set_option maxHeartbeats 4000000
namespace K51
open PySem DL K01 WP
noncomputable def cellV (ns : List Int) (k : Nat) : Int := (ns.map fun x => x % 10 ^ 64).getD k 0
theorem cell_pos (ns : List Int) (k : Nat) : 0 ≤ cellV ns k := by
  unfold cellV
  rw [List.getD_eq_getElem?_getD, List.getElem?_map]
  cases ns[k]? with
  | none => exact Int.le_refl _
  | some x => exact Int.emod_nonneg _ (by decide)
theorem E_cell (ns : List Int) (k : Nat) : F_law_cell [.bor (ns.map D.int), .d (.int k)] = .ok (.d (.int (cellV ns k))) := by
  refine eq_fin (w_seq (l_if (c := decide ((k : Int) < ((ns.map D.int).length : Nat))) rfl (fun h => ?_) fun h => ?_))
  · have h : k < ns.length := by simpa using h
    have e : (ns.map D.int)[k]? = some (.int ns[k]) := by rw [List.getElem?_map, List.getElem?_eq_getElem h]; rfl
    refine l_ret (two (two rfl rfl (fIx_l e)) rfl (t_mod _ _ (by decide))) rfl ?_
    unfold cellV
    rw [List.getD_eq_getElem?_getD, List.getElem?_map, List.getElem?_eq_getElem h]
    rfl
  · have h : ns.length ≤ k := by simpa using h
    refine l_nx (l_ret rfl rfl ?_)
    unfold cellV
    rw [List.getD_eq_getElem?_getD, List.getElem?_map, List.getElem?_eq_none (by omega)]
    rfl
theorem rep_len (b n : Nat) : (repS ⟨#[b]⟩ n).length = n := by
  rw [len_cps, cps_rep, List.length_replicate]
theorem E_names (c : Int) (hc : 0 ≤ c) (m : Nat) (hm : m ≤ 3) : ∃ ss : List Str, F_law_names [.d (.int c), .d (.int m)] = .ok (.l .fresh (ss.map .str)) ∧ ss.length = m := by
  have key : Wp (F_law_names [.d (.int c), .d (.int m)]) fun r => ∃ ss : List Str, r = .l .fresh (ss.map .str) ∧ ss.length = m := by
    refine w_fin (s_set rfl rfl (s_set (two rfl rfl (ix_abc (c / 3 % 26) (by omega) (by omega))) rfl ?_))
    generalize 97 + (c / 3 % 26).toNat = b
    refine s_set (two rfl rfl (t_rep _ (1 + c / 78 % 7) (by omega) (by omega) (show 1 ≤ 1000 by decide))) rfl ?_
    have hst : (repS ⟨#[b]⟩ (1 + c / 78 % 7).toNat).length ≤ 8 := by rw [rep_len]; omega
    generalize repS ⟨#[b]⟩ (1 + c / 78 % 7).toNat = stem at hst
    refine s_set rfl rfl (s_for (rng1 (n := m) rfl (by omega)) ?_)
    refine w_rng (n := m) (fun k env => ∃ (ss : List Str) (x y z : Option S), env = [some (.d (.int c)), some (.d (.int m)), some (.d (.str "abcdefghijklmnopqrstuvwxyz")), some (.d (.str ⟨#[b]⟩)), some (.d (.str stem)), some (.own (ss.map .str)), x, y, z] ∧ ss.length = k) ⟨[], none, none, none, rfl, rfl⟩ ?_ ?_
    · rintro k hk _ ⟨ss, x, y, z, rfl, hl⟩
      refine ⟨_, rfl, ?_⟩
      refine s_set (two rfl rfl (ix_abc ((c / 546 + 9 * k) % 26) (by omega) (by omega))) rfl ?_
      generalize 97 + ((c / 546 + 9 * k) % 26).toNat = o
      obtain ⟨nm, hnm⟩ : ∃ nm : Str, g2 fIx (gLst (gDCons (g2 fPlus (gVar 4) (gVar 7)) (gDCons (g2 fPlus (gVar 7) (gVar 4)) (gDCons (g2 fTimes (gVar 3) (g2 fPlus (gVar 6) (gC (.int 2)))) gDNil)))) (g2 fMod (gVar 0) (gC (.int 3))) [some (.d (.int c)), some (.d (.int m)), some (.d (.str "abcdefghijklmnopqrstuvwxyz")), some (.d (.str ⟨#[b]⟩)), some (.d (.str stem)), some (.own (ss.map .str)), some (.d (.int k)), some (.d (.str ⟨#[o]⟩)), z] = .ok (.d (.str nm)) := by
        have h1 := t_str stem ⟨#[o]⟩ (by show _ + 1 ≤ 1000; omega)
        have h2 := t_str ⟨#[o]⟩ stem (by show 1 + _ ≤ 1000; omega)
        have h3 := t_rep ⟨#[b]⟩ (k + 2) (by omega) (by omega) (show 1 ≤ 1000 by decide)
        have hg : gLst (gDCons (g2 fPlus (gVar 4) (gVar 7)) (gDCons (g2 fPlus (gVar 7) (gVar 4)) (gDCons (g2 fTimes (gVar 3) (g2 fPlus (gVar 6) (gC (.int 2)))) gDNil))) [some (.d (.int c)), some (.d (.int m)), some (.d (.str "abcdefghijklmnopqrstuvwxyz")), some (.d (.str ⟨#[b]⟩)), some (.d (.str stem)), some (.own (ss.map .str)), some (.d (.int k)), some (.d (.str ⟨#[o]⟩)), z] = .ok (.l .fresh [.str (stem ++ ⟨#[o]⟩), .str (⟨#[o]⟩ ++ stem), .str (repS ⟨#[b]⟩ ((k : Int) + 2).toNat)]) := by
          have l3 : (3 : Nat) ≤ sizeLine := by decide
          simp only [gLst, gDCons, gDNil, g2, gVar, gC, S.rd, List.getElem?_cons_zero, List.getElem?_cons_succ, bind_ok, h1, h2, t_plus, h3, toD, List.length_cons, List.length_nil, l3, if_true]
        have hcs : c % 3 = 0 ∨ c % 3 = 1 ∨ c % 3 = 2 := by omega
        rcases hcs with h | h | h
        · exact ⟨_, two hg (t_mod c 3 (by decide)) (by rw [h]; rfl)⟩
        · exact ⟨_, two hg (t_mod c 3 (by decide)) (by rw [h]; rfl)⟩
        · exact ⟨_, two hg (t_mod c 3 (by decide)) (by rw [h]; rfl)⟩
      refine s_set hnm rfl (w_seq (l_if (c := eqD (.str nm) (.str "or")) rfl (fun h => l_set rfl rfl ?_) fun h => l_nx ?_))
      · exact l_app rfl rfl rfl (by rw [List.length_map]; omega) ⟨_, rfl, ss ++ [("orx" : Str)], _, _, _, by rw [List.map_append]; rfl, by rw [List.length_append, hl]; rfl⟩
      · exact l_app rfl rfl rfl (by rw [List.length_map]; omega) ⟨_, rfl, ss ++ [nm], _, _, _, by rw [List.map_append]; rfl, by rw [List.length_append, hl]; rfl⟩
    · rintro _ ⟨ss, x, y, z, rfl, hl⟩
      refine l_ret (n1 rfl (sorted_strs _ _ (by omega))) rfl ⟨_, rfl, _, rfl, ?_⟩
      unfold sortS
      simp [hl]
  obtain ⟨_, h, ss, rfl, hl⟩ := key
  exact ⟨ss, h, hl⟩
/-- bits -/
theorem E_bits (c : Int) (m : Nat) (hm : m ≤ 64) : ∃ bs : List Bool, F_law_bits [.d (.int c), .d (.int m)] = .ok (.l .fresh (bs.map .bl)) ∧ bs.length = m := by
  have key : Wp (F_law_bits [.d (.int c), .d (.int m)]) fun r => ∃ bs : List Bool, r = .l .fresh (bs.map .bl) ∧ bs.length = m := by
    refine w_fin (s_set rfl rfl (s_for (rng1 (n := m) rfl (by omega)) ?_))
    refine w_rng (n := m) (fun k env => ∃ (bs : List Bool) (c : Int) (x : Option S), env = [some (.d (.int c)), some (.d (.int m)), some (.own (bs.map .bl)), x] ∧ bs.length = k) ⟨[], c, none, rfl, rfl⟩ ?_ ?_
    · rintro k hk _ ⟨bs, c, x, rfl, hl⟩
      refine ⟨_, rfl, s_app rfl rfl rfl (by rw [List.length_map]; omega) (l_set rfl rfl ⟨_, rfl, bs ++ [c % 2 == 1], c / 2, _, by rw [List.map_append]; rfl, by rw [List.length_append, hl]; rfl⟩)⟩
    · rintro _ ⟨ss, x, y, rfl, hl⟩
      exact l_ret rfl rfl ⟨_, rfl, _, rfl, hl⟩
  obtain ⟨_, h, ss, rfl, hl⟩ := key
  exact ⟨ss, h, hl⟩
end K51
set_option Elab.async false
set_option linter.all false
set_option maxRecDepth 100000
set_option maxHeartbeats 4000000
namespace K51
open PySem DL K01 WP
theorem pts_ok (bs : List Bool) (m : Nat) (hm : m ≤ 8) : PtsOk m ((List.range m).filter fun p => bs.getD p false) := by
  refine ⟨?_, List.Pairwise.filter _ List.pairwise_lt_range, fun x hx => ?_⟩
  · exact Nat.le_trans (List.length_filter_le _ _) (by simpa using hm)
  · simpa using (List.mem_filter.mp hx).1
theorem prs_ok (bs : List Bool) (m : Nat) (h1 : 1 ≤ m) (hm : m ≤ 8) : PrsOk m (((List.range (m * m)).filter fun p => bs.getD p false).map fun p => (p / m, p % m)) := by
  have hmm : m * m ≤ 64 := Nat.mul_le_mul hm hm
  refine ⟨?_, ?_, fun x hx => ?_⟩
  · rw [List.length_map]
    refine Nat.le_trans (List.length_filter_le _ _) (by simpa using hmm)
  · rw [List.pairwise_map]
    refine List.Pairwise.imp ?_ (List.Pairwise.filter _ List.pairwise_lt_range)
    intro p q hpq
    have e1 := Nat.div_add_mod p m
    have e2 := Nat.div_add_mod q m
    have h3 : p / m ≤ q / m := Nat.div_le_div_right (by omega)
    by_cases h : p / m < q / m
    · exact .inl h
    · have e : p / m = q / m := by omega
      refine .inr ⟨e, ?_⟩
      rw [e] at e1
      show p % m < q % m
      omega
  · obtain ⟨p, hp, rfl⟩ := List.mem_map.mp hx
    have : p < m * m := by simpa using (List.mem_filter.mp hp).1
    exact ⟨Nat.div_lt_of_lt_mul this, Nat.mod_lt _ (by omega)⟩
theorem bit_own (bs : List Bool) (m k : Nat) (hl : bs.length = m) (hk : k < m) : fIx (.l .own (bs.map D.bl)) (.d (.int k)) = .ok (.d (.bl (bs.getD k false))) := by
  refine fIx_l ?_
  rw [List.getElem?_map, List.getElem?_eq_getElem (by omega), List.getD_eq_getElem?_getD, List.getElem?_eq_getElem (by omega)]
  rfl
theorem E_wgen (m : Nat) (h1 : 1 ≤ m) (hm : m ≤ 8) (A B : List Str) (hA : A.length ≤ 3) (hB : B.length ≤ 3) (cs : List Int) (hc : cs.length = 6) :
    ∃ ms rs, F_law_world [.d (.tup [.lst (A.map .str), .lst (B.map .str)]), .d (.int m), .bor (cs.map .int)] = .ok (.d (Wd.d ⟨m, ms, rs⟩)) ∧ ms.map Prod.fst = A ∧ rs.map Prod.fst = B ∧ (∀ r ∈ ms, PtsOk m r.2) ∧ ∀ r ∈ rs, PrsOk m r.2 := by
  have key : Wp (F_law_world [.d (.tup [.lst (A.map .str), .lst (B.map .str)]), .d (.int m), .bor (cs.map .int)]) fun r => ∃ ms rs, r = .d (Wd.d ⟨m, ms, rs⟩) ∧ ms.map Prod.fst = A ∧ rs.map Prod.fst = B ∧ (∀ r ∈ ms, PtsOk m r.2) ∧ ∀ r ∈ rs, PrsOk m r.2 := by
    have hmm : m * m ≤ 64 := Nat.mul_le_mul hm hm
    have tm : fTimes (.d (.int m)) (.d (.int m)) = .ok (.d (.int ((m * m : Nat) : Int))) := by rw [t_times _ _ (by omega) (by omega)]; simp
    refine w_fin (s_set rfl rfl (s_for (rng1 (n := (A.map D.str).length) rfl (by rw [List.length_map]; omega)) ?_))
    refine w_rng (n := (A.map D.str).length) (fun k env => ∃ (ms : List (Str × List Nat)) (x y : Option S), env = [some (.d (.tup [.lst (A.map .str), .lst (B.map .str)])), some (.d (.int m)), some (.bor (cs.map .int)), some (.own (ms.map rowM)), x, y, none] ∧ ms.map Prod.fst = A.take k ∧ ∀ r ∈ ms, PtsOk m r.2) ⟨[], none, none, rfl, rfl, fun _ h => by cases h⟩ ?_ ?_
    · rintro k hk _ ⟨ms, x, y, rfl, hf, hp⟩
      rw [List.length_map] at hk
      refine ⟨_, rfl, ?_⟩
      obtain ⟨c, _, hcc⟩ := ix_mem (xs := cs) (h := D.int) (.l .bor (cs.map .int)) rfl k (by omega) (by omega)
      obtain ⟨bs, hb, hbl⟩ := E_bits c m (by omega)
      have hlen : ms.length ≤ 3 := by
        have := congrArg List.length hf
        rw [List.length_map, List.length_take] at this
        omega
      refine s_set (c2 (two rfl rfl hcc) rfl hb) rfl ?_
      refine l_app rfl (tup_ok (dl_cons (two rfl rfl (show fIx (.d (.lst (A.map D.str))) _ = .ok (.d (.str A[k])) from ?_)) rfl (dl_cons (n1 (cmp1F (xs := List.range m) (h := dN) (fun p => bs.getD p false) dN (rngM rfl (by omega)) (by simp; omega) ?_) rfl) rfl dl_nil)) (by show 2 ≤ 1000; decide)) rfl (by rw [List.length_map]; omega) ?_
      · show fIx (.d (.lst (A.map D.str))) (.d (.int k)) = _
        unfold fIx
        have : (A.map D.str)[k]? = some (.str A[k]) := by rw [List.getElem?_map, List.getElem?_eq_getElem hk]; rfl
        simp only [asQ, bind_ok, atI_nat this]
      · intro p hp'
        have hp' : p < m := by simpa using hp'
        have hb := bit_own bs m p hbl hp'
        refine ⟨?_, fun _ => ⟨_, rfl, rfl⟩⟩
        show (g2 fIx (gVar 1) (gVar 0) [some (.d (dN p)), some (.own (bs.map D.bl))] >>= truD) = _
        rw [two (x := .l .own (bs.map D.bl)) (y := .d (dN p)) rfl rfl hb]
        rfl
      · refine ⟨_, rfl, ms ++ [(A[k], (List.range m).filter fun p => bs.getD p false)], _, _, by rw [List.map_append]; rfl, ?_, fun r hr => ?_⟩
        · rw [List.map_append, hf, List.take_succ, List.getElem?_eq_getElem hk]
          rfl
        · rw [List.mem_append, List.mem_singleton] at hr
          rcases hr with h | h
          · exact hp r h
          · rw [h]; exact pts_ok bs m hm
    · rintro _ ⟨ms, x, y, rfl, hf, hp⟩
      refine s_set rfl rfl (s_for (rng1 (n := (B.map D.str).length) rfl (by rw [List.length_map]; omega)) ?_)
      refine w_rng (n := (B.map D.str).length) (fun k env => ∃ (rs : List (Str × List (Nat × Nat))) (x y : Option S), env = [some (.d (.tup [.lst (A.map .str), .lst (B.map .str)])), some (.d (.int m)), some (.bor (cs.map .int)), some (.own (ms.map rowM)), x, y, some (.own (rs.map rowA))] ∧ rs.map Prod.fst = B.take k ∧ ∀ r ∈ rs, PrsOk m r.2) ⟨[], _, _, rfl, rfl, fun _ h => by cases h⟩ ?_ ?_
      · rintro k hk _ ⟨rs, x, y, rfl, hf, hp⟩
        rw [List.length_map] at hk
        refine ⟨_, rfl, ?_⟩
        obtain ⟨c, _, hcc⟩ := ix_mem (xs := cs) (h := D.int) (.l .bor (cs.map .int)) rfl (3 + k) (by omega) (by omega)
        obtain ⟨bs, hb, hbl⟩ := E_bits c (m * m) (by omega)
        have hlen : rs.length ≤ 3 := by
          have := congrArg List.length hf
          rw [List.length_map, List.length_take] at this
          omega
        refine s_set (c2 (two rfl rfl hcc) (two rfl rfl tm) hb) rfl ?_
        refine l_app rfl (tup_ok (dl_cons (two rfl rfl (show fIx (.d (.lst (B.map D.str))) _ = .ok (.d (.str B[k])) from ?_)) rfl (dl_cons (n1 (cmp1F (xs := List.range (m * m)) (h := dN) (fun p => bs.getD p false) (fun p => dP (p / m, p % m)) (rngM (gCons_one (two rfl rfl tm)) (by omega)) (by simp; omega) ?_) rfl) rfl dl_nil)) (by show 2 ≤ 1000; decide)) rfl (by rw [List.length_map]; omega) ?_
        · show fIx (.d (.lst (B.map D.str))) (.d (.int k)) = _
          unfold fIx
          have : (B.map D.str)[k]? = some (.str B[k]) := by rw [List.getElem?_map, List.getElem?_eq_getElem hk]; rfl
          simp only [asQ, bind_ok, atI_nat this]
        · intro p hp'
          have hp' : p < m * m := by simpa using hp'
          have hb := bit_own bs (m * m) p hbl hp'
          refine ⟨?_, fun _ => ⟨_, tup_ok (dl_cons (two rfl rfl (t_div p m (by omega) (by omega))) rfl (dl_cons (two rfl rfl (t_mod p m (by omega))) rfl dl_nil)) (by show 2 ≤ 1000; decide), ?_⟩⟩
          · show (g2 fIx (gVar 1) (gVar 0) [some (.d (dN p)), some (.own (bs.map D.bl)), some (.d (.int m))] >>= truD) = _
            rw [two (x := .l .own (bs.map D.bl)) (y := .d (dN p)) rfl rfl hb]
            rfl
          · simp [toD, dP]
        · refine ⟨_, rfl, rs ++ [(B[k], ((List.range (m * m)).filter fun p => bs.getD p false).map fun p => (p / m, p % m))], _, _, by rw [List.map_append, List.map_singleton, rowA, List.map_map]; rfl, ?_, fun r hr => ?_⟩
          · rw [List.map_append, hf, List.take_succ, List.getElem?_eq_getElem hk]
            rfl
          · rw [List.mem_append, List.mem_singleton] at hr
            rcases hr with h | h
            · exact hp r h
            · rw [h]; exact prs_ok bs m h1 hm
      · rintro _ ⟨rs, x, y, rfl, hf2, hp2⟩
        rw [List.length_map] at hf hf2
        refine l_ret (tup_ok (dl_cons rfl rfl (dl_cons rfl rfl (dl_cons rfl rfl dl_nil))) (by show 3 ≤ 1000; decide)) rfl ⟨_, rfl, ms, rs, rfl, by rw [hf, List.take_length], by rw [hf2, List.take_length], hp, hp2⟩
  obtain ⟨_, h, ms, rs, rfl, hk⟩ := key
  exact ⟨ms, rs, h, hk⟩
end K51
set_option Elab.async false
set_option linter.all false
set_option maxRecDepth 100000
set_option maxHeartbeats 4000000
namespace K51
open PySem DL K01 WP
theorem E_cellI (ns : List Int) (i : Int) (k : Nat) (h : i = k) : F_law_cell [.bor (ns.map D.int), .d (.int i)] = .ok (.d (.int (cellV ns k))) := by
  rw [h]; exact E_cell ns k
/-- a world as the law makes it -/
structure WOk (w : Wd) : Prop where
  lo : 1 ≤ w.m
  hi : w.m ≤ 8
  ml : w.ms.length ≤ 3
  al : w.ar.length ≤ 3
  mp : ∀ r ∈ w.ms, PtsOk w.m r.2
  ap : ∀ r ∈ w.ar, PrsOk w.m r.2
theorem E_one (ns : List Int) (sz : List Nat) (hz : sz.length = 8) (hs : ∀ n ∈ sz, 1 ≤ n ∧ n ≤ 8) : ∃ w : Wd, F_law_one [.bor (ns.map D.int), .bor (sz.map dN), .d (.int 0)] = .ok (.d w.d) ∧ WOk w ∧ w.m ∈ sz := by
  have c0 := cell_pos ns 0
  have c1 := cell_pos ns 1
  have c2' := cell_pos ns 2
  have key : Wp (F_law_one [.bor (ns.map D.int), .bor (sz.map dN), .d (.int 0)]) fun r => ∃ w : Wd, r = .d w.d ∧ WOk w ∧ w.m ∈ sz := by
    refine w_fin (s_set (c2 rfl rfl (E_cell ns 0)) rfl (s_set (c2 rfl rfl (E_cellI ns _ 1 rfl)) rfl ?_))
    obtain ⟨a, ha, ea⟩ := ix_mem (xs := [1, 0, 2, 3]) (h := dN) (.l .fresh ([1, 0, 2, 3].map dN)) rfl (cellV ns 1 % 4) (by omega) (by show _ < (4 : Int); omega)
    obtain ⟨b, hb, eb⟩ := ix_mem (xs := [1, 2, 0, 1, 3]) (h := dN) (.l .fresh ([1, 2, 0, 1, 3].map dN)) rfl (cellV ns 1 / 4 % 5) (by omega) (by show _ < (5 : Int); omega)
    have ha : a ≤ 3 := by simp at ha; omega
    have hb : b ≤ 3 := by simp at hb; omega
    obtain ⟨A, hA, lA⟩ := E_names (cellV ns 1 / 20) (by omega) a ha
    obtain ⟨B, hB, lB⟩ := E_names (cellV ns 2) (by omega) b hb
    refine s_set (c2 rfl (two (lst_ok rfl (by show 4 ≤ 1000; decide)) rfl ea) hA) rfl ?_
    refine w_seq (w_frz rfl (l_set (tup_ok (dl_cons rfl rfl (dl_cons (c2 (c2 rfl rfl (E_cellI ns _ 2 rfl)) (two (lst_ok rfl (by show 5 ≤ 1000; decide)) rfl eb) hB) rfl dl_nil)) (by show 2 ≤ 1000; decide)) rfl ?_))
    obtain ⟨m, hm, em⟩ := ix_mem (xs := sz) (h := dN) (.l .bor (sz.map dN)) rfl (cellV ns 0 % 8) (by omega) (by omega)
    obtain ⟨ms, rs, hw, h1, h2, h3, h4⟩ := E_wgen m (hs m hm).1 (hs m hm).2 A B (by omega) (by omega) ((List.range 6).map fun k => cellV ns (3 + k)) rfl
    rw [List.map_map] at hw
    refine l_ret (c3 rfl (two rfl rfl em) (cmp1 (xs := List.range 6) (h := dN) (fun k => .int (cellV ns (3 + k))) (rngM rfl (by decide)) (by decide) fun k hk => ⟨_, c2 rfl (two (two rfl rfl (t_plus _ _)) rfl (t_plus _ _)) (E_cellI ns _ (3 + k) (by simp)), rfl⟩) hw) rfl ⟨_, rfl, ⟨m, ms, rs⟩, rfl, ⟨(hs m hm).1, (hs m hm).2, ?_, ?_, h3, h4⟩, hm⟩
    · have := congrArg List.length h1
      rw [List.length_map] at this
      show ms.length ≤ 3
      omega
    · have := congrArg List.length h2
      rw [List.length_map] at this
      show rs.length ≤ 3
      omega
  obtain ⟨_, h, w, rfl, hk⟩ := key
  exact ⟨w, h, hk⟩
theorem t_cat (xs ys : List D) (h : xs.length + ys.length ≤ 1000) : fAdd4 (.d (.tup xs)) (.d (.tup ys)) = .ok (.d (.tup (xs ++ ys))) := by
  show (if xs.length + ys.length ≤ sizeLine then M.ok (R.d (.tup (xs ++ ys))) else M.bad) = _
  rw [if_pos (line1000 h)]
theorem E_row (ns : List Int) (a m : Nat) (h1 : 1 ≤ m) (most : Nat) (hmo : most ≤ 8) : ∃ ps : List Nat, F_law_row [.bor (ns.map D.int), .d (.int a), .d (.int m), .d (.int most)] = .ok (.d (.tup (ps.map dN))) ∧ ps.length ≤ most ∧ ∀ p ∈ ps, p < m := by
  have c0 := cell_pos ns a
  have key : Wp (F_law_row [.bor (ns.map D.int), .d (.int a), .d (.int m), .d (.int most)]) fun r => ∃ ps : List Nat, r = .d (.tup (ps.map dN)) ∧ ps.length ≤ most ∧ ∀ p ∈ ps, p < m := by
    refine w_fin (s_set (tup_ok dl_nil (by decide)) rfl (s_for (rng1 (n := (cellV ns a % (most + 1)).toNat) (gCons_one ((two (c2 rfl rfl (E_cell ns a)) (two rfl rfl rfl) (t_mod _ _ (by omega))).trans ?_)) (by have := Int.emod_lt_of_pos (cellV ns a) (b := most + 1) (by omega); omega)) ?_))
    · rw [Int.toNat_of_nonneg (Int.emod_nonneg _ (by omega))]
    · have hlt : (cellV ns a % (most + 1)).toNat ≤ most := by have := Int.emod_lt_of_pos (cellV ns a) (b := most + 1) (by omega); omega
      generalize (cellV ns a % (most + 1)).toNat = n at hlt
      refine w_rng (fun k env => ∃ (ps : List Nat) (x : Option S), env = [some (.bor (ns.map D.int)), some (.d (.int a)), some (.d (.int m)), some (.d (.int most)), some (.d (.tup (ps.map dN))), x] ∧ ps.length = k ∧ ∀ p ∈ ps, p < m) ⟨[], none, rfl, rfl, fun _ h => by cases h⟩ ?_ ?_
      · rintro k hk _ ⟨ps, x, rfl, hl, hp⟩
        have hpos := cell_pos ns (a + 1 + k)
        have hlt := Int.emod_lt_of_pos (cellV ns (a + 1 + k)) (b := m) (by omega)
        have hge := Int.emod_nonneg (cellV ns (a + 1 + k)) (b := m) (by omega)
        have ht : fAdd4 (.d (.tup (ps.map dN))) (.d (.tup [D.int (cellV ns (a + 1 + k) % m)])) = .ok (.d (.tup ((ps ++ [(cellV ns (a + 1 + k) % m).toNat]).map dN))) := by
          rw [t_cat _ _ (by simp; omega), List.map_append]
          show _ = M.ok (R.d (.tup (ps.map dN ++ [dN (cellV ns (a + 1 + k) % m).toNat])))
          rw [dN, Int.toNat_of_nonneg hge]
        refine ⟨_, rfl, l_set (two rfl (tup_ok (dl_cons (two (c2 rfl (two (two rfl rfl rfl) rfl rfl) (E_cellI ns _ (a + 1 + k) (by simp))) rfl (t_mod _ _ (by omega))) rfl dl_nil) (by show 1 ≤ 1000; decide)) ht) rfl ⟨_, rfl, ps ++ [(cellV ns (a + 1 + k) % m).toNat], _, rfl, by rw [List.length_append, hl]; rfl, fun p hq => ?_⟩⟩
        · rw [List.mem_append, List.mem_singleton] at hq
          rcases hq with h | h
          · exact hp p h
          · omega
      · rintro _ ⟨ps, x, rfl, hl, hp⟩
        exact l_ret rfl rfl ⟨_, rfl, ps, rfl, by omega, hp⟩
  obtain ⟨_, h, w, rfl, hk⟩ := key
  exact ⟨w, h, hk⟩
theorem E_power (m d : Nat) (hm : m ≤ 8) (hd : d ≤ 6) : Fpower [.d (.int m), .d (.int d)] = .ok (.d (.int ((m ^ d : Nat) : Int))) := by
  refine eq_fin (s_set rfl rfl (s_for (rng1 (n := d) rfl (by omega)) ?_))
  refine w_rng (fun k env => ∃ x : Option S, env = [some (.d (.int m)), some (.d (.int d)), some (.d (.int ((m ^ k : Nat) : Int))), x]) ⟨none, rfl⟩ ?_ ?_
  · rintro k hk _ ⟨x, rfl⟩
    refine ⟨_, rfl, _, ?_, _, rfl, some (.d (.int k)), rfl⟩
    show (fMul (.d (.int ((m ^ k : Nat) : Int))) (.d (.int m)) >>= _) = _
    rw [show fMul (.d (.int ((m ^ k : Nat) : Int))) (.d (.int m)) = .ok (.d (.int (((m ^ k : Nat) : Int) * m))) from t_times _ _ (by omega) (by omega)]
    rw [Nat.pow_succ, Int.natCast_mul]
    rfl
  · rintro _ ⟨x, rfl⟩
    exact l_ret rfl rfl rfl
end K51
set_option Elab.async false
set_option linter.all false
set_option maxRecDepth 100000
set_option maxHeartbeats 4000000
namespace K51
open PySem DL K01 WP
noncomputable def faceD (w : Wd) (ah : List Nat) (l : Nat) : D := .tup [.tup (ah.map fun p => .bl (eqD (dN p) (dN l))), .tup (w.ms.map fun r => .bl (inD (dN l) (r.2.map dN))), .tup (w.ar.map fun r => .bl (inD (dP (l, l)) (r.2.map dP))),
  .tup (w.ar.map fun r => .tup (ah.map fun p => .bl (inD (dP (l, p)) (r.2.map dP)))), .tup (w.ar.map fun r => .tup (ah.map fun p => .bl (inD (dP (p, l)) (r.2.map dP))))]
theorem in_N (l : Nat) (xs : List Nat) : fIn false (.d (dN l)) (.d (.tup (xs.map dN))) = .ok (.d (.bl (inD (dN l) (xs.map dN)))) := in_ok false _ _ (deps_N xs) (Nat.zero_le _)
theorem in_P (l : Nat × Nat) (xs : List (Nat × Nat)) : fIn false (.d (dP l)) (.d (.tup (xs.map dP))) = .ok (.d (.bl (inD (dP l) (xs.map dP)))) := in_ok false _ _ (deps_P xs) (by show (1 : Nat) ≤ 60; decide)
theorem t5 : (5 : Nat) ≤ 1000 := by decide
theorem t2 : (2 : Nat) ≤ 1000 := by decide
theorem E_face (w : Wd) (hw : WOk w) (ah : List Nat) (l : Nat) (hl : ah.length ≤ 100) : Fface_of [.d w.d, .d (.tup ((ah ++ [l]).map dN))] = .ok (.d (faceD w ah l)) := by
  have ml := hw.ml
  have al := hw.al
  refine eq_fin (s_skip (b := gTr _) (show M.ok (eqD (.int ((((ah ++ [l]).map dN).length : Nat) : Int)) (.int 0)) = .ok false from ?_) ?_)
  · simp [eqD]; omega
  refine s_star (xs := ah.map dN) (z := dN l) (show M.ok (R.d (.tup ((ah ++ [l]).map dN))) = _ from by rw [List.map_append]; rfl) (by rw [List.length_map]; omega) rfl ?_
  refine s_asg rfl rfl rfl ?_
  refine s_set (n1 (cmp1 (xs := ah) (h := dN) (fun p => .bl (eqD (dN p) (dN l))) rfl (by omega) fun p _ => ⟨_, rfl, rfl⟩) rfl) rfl ?_
  refine s_set (n1 (comp2 (xs := w.ms) (fun r => .str r.1) (fun r => .tup (r.2.map dN)) (fun r => .bl (inD (dN l) (r.2.map dN))) rfl (by omega) fun r _ => ⟨_, two rfl rfl (in_N l r.2), rfl⟩) rfl) rfl ?_
  refine s_set (n1 (comp2 (xs := w.ar) (fun r => .str r.1) (fun r => .tup (r.2.map dP)) (fun r => .bl (inD (dP (l, l)) (r.2.map dP))) rfl (by omega) fun r _ => ⟨_, two (tup_ok (dl_cons rfl rfl (dl_cons rfl rfl dl_nil)) t2) rfl (in_P (l, l) r.2), rfl⟩) rfl) rfl ?_
  refine s_set (n1 (comp2 (xs := w.ar) (fun r => .str r.1) (fun r => .tup (r.2.map dP)) (fun r => .tup (ah.map fun p => .bl (inD (dP (l, p)) (r.2.map dP)))) rfl (by omega) fun r _ => ⟨_, n1 (cmp1 (xs := ah) (h := dN) (fun p => .bl (inD (dP (l, p)) (r.2.map dP))) rfl (by omega) fun p _ => ⟨_, two (tup_ok (dl_cons rfl rfl (dl_cons rfl rfl dl_nil)) t2) rfl (in_P (l, p) r.2), rfl⟩) rfl, rfl⟩) rfl) rfl ?_
  refine s_set (n1 (comp2 (xs := w.ar) (fun r => .str r.1) (fun r => .tup (r.2.map dP)) (fun r => .tup (ah.map fun p => .bl (inD (dP (p, l)) (r.2.map dP)))) rfl (by omega) fun r _ => ⟨_, n1 (cmp1 (xs := ah) (h := dN) (fun p => .bl (inD (dP (p, l)) (r.2.map dP))) rfl (by omega) fun p _ => ⟨_, two (tup_ok (dl_cons rfl rfl (dl_cons rfl rfl dl_nil)) t2) rfl (in_P (p, l) r.2), rfl⟩) rfl, rfl⟩) rfl) rfl ?_
  exact l_ret (tup_ok (dl_cons rfl rfl (dl_cons rfl rfl (dl_cons rfl rfl (dl_cons rfl rfl (dl_cons rfl rfl dl_nil))))) t5) rfl rfl
theorem E_face0 (w : Wd) : Fface_of [.d w.d, .d (.tup [])] = .ok (.d (.tup [])) := rfl
/-! ### the form of kinds -/
inductive Ty where
  | b | hom (t : Ty) | pr (s t : Ty) | fc
noncomputable def HasT : Ty → D → Prop
  | .b, d => ∃ k, d = .bl k
  | .hom t, d => ∃ xs, d = .tup xs ∧ xs.length ≤ 1000 ∧ ∀ x ∈ xs, HasT t x
  | .pr s t, d => ∃ x y, d = .tup [x, y] ∧ HasT s x ∧ HasT t y
  | .fc, d => ∃ (a b c : List Bool) (e f : List D), d = .tup [.tup (a.map D.bl), .tup (b.map D.bl), .tup (c.map D.bl), .tup e, .tup f] ∧ a.length ≤ 1000 ∧ b.length ≤ 1000 ∧ c.length ≤ 1000 ∧ e.length ≤ 1000 ∧ f.length ≤ 1000 ∧ (∀ x ∈ e, ∃ y : List Bool, x = .tup (y.map D.bl) ∧ y.length ≤ 1000) ∧ ∀ x ∈ f, ∃ y : List Bool, x = .tup (y.map D.bl) ∧ y.length ≤ 1000
noncomputable def depT : Ty → Nat
  | .b => 0
  | .hom t => depT t + 1
  | .pr s t => max (depT s) (depT t) + 1
  | .fc => 3
theorem dep_bls (ys : List Bool) : dep (.tup (ys.map D.bl)) ≤ 1 := by
  have : deps (ys.map D.bl) ≤ 0 := deps_le fun x hx => by
    obtain ⟨k, _, rfl⟩ := List.mem_map.mp hx
    exact Nat.zero_le _
  simp only [dep]
  omega
theorem has_dep : ∀ {t : Ty} {d : D}, HasT t d → dep d ≤ depT t
  | .b, _, ⟨k, e⟩ => by subst e; exact Nat.zero_le _
  | .hom t, _, ⟨xs, e, _, h⟩ => by
    subst e
    have := deps_le fun x hx => has_dep (h x hx)
    simp only [dep, depT]
    omega
  | .pr s t, _, ⟨x, y, e, h1, h2⟩ => by
    subst e
    have h1 := has_dep h1
    have h2 := has_dep h2
    simp only [dep, deps, depT]
    omega
  | .fc, _, ⟨a, b, c, e, f, q, _, _, _, _, _, h1, h2⟩ => by
    subst q
    have ha := dep_bls a
    have hb := dep_bls b
    have hc := dep_bls c
    have he : deps e ≤ 1 := deps_le fun x hx => by obtain ⟨y, rfl, _⟩ := h1 x hx; exact dep_bls y
    have hf : deps f ≤ 1 := deps_le fun x hx => by obtain ⟨y, rfl, _⟩ := h2 x hx; exact dep_bls y
    simp only [dep, deps, depT] at *
    omega
theorem lt_tup : ∀ {xs ys : List D}, (∀ x ∈ xs.zip ys, (ltD x.1 x.2).isSome = true) → (ltDs xs ys).isSome = true
  | [], _, _ => rfl
  | _ :: _, [], _ => rfl
  | x :: xs, y :: ys, h => by
    show (if eqD x y = true then ltDs xs ys else ltD x y).isSome = true
    by_cases q : eqD x y = true
    · rw [if_pos q]
      exact lt_tup fun z hz => h z (by rw [List.zip_cons_cons]; exact List.mem_cons_of_mem _ hz)
    · rw [if_neg q]
      exact h (x, y) (by rw [List.zip_cons_cons]; exact List.mem_cons_self)
theorem lt_tup' {xs ys : List D} (h : ∀ x ∈ xs.zip ys, (ltD x.1 x.2).isSome = true) : (ltD (.tup xs) (.tup ys)).isSome = true := lt_tup h
theorem lt_bls (xs ys : List Bool) : (ltD (.tup (xs.map D.bl)) (.tup (ys.map D.bl))).isSome = true := lt_tup' fun z hz => by
  obtain ⟨h1, h2⟩ := List.of_mem_zip (a := z.1) (b := z.2) hz
  obtain ⟨a, _, h1⟩ := List.mem_map.mp h1
  obtain ⟨b, _, h2⟩ := List.mem_map.mp h2
  rw [← h1, ← h2]
  rfl
theorem has_lt : ∀ {t : Ty} {x y : D}, HasT t x → HasT t y → (ltD x y).isSome = true
  | .b, _, _, ⟨k, e⟩, ⟨k', e'⟩ => by subst e e'; rfl
  | .hom t, _, _, ⟨xs, e, _, h⟩, ⟨ys, e', _, h'⟩ => by
    subst e e'
    refine lt_tup' fun z hz => ?_
    obtain ⟨h1, h2⟩ := List.of_mem_zip (a := z.1) (b := z.2) hz
    exact has_lt (h _ h1) (h' _ h2)
  | .pr s t, _, _, ⟨x, y, e, h1, h2⟩, ⟨x', y', e', h1', h2'⟩ => by
    subst e e'
    refine lt_tup' fun z hz => ?_
    simp only [List.zip_cons_cons, List.zip_nil_right, List.mem_cons, List.not_mem_nil, or_false] at hz
    rcases hz with rfl | rfl
    · exact has_lt h1 h1'
    · exact has_lt h2 h2'
  | .fc, _, _, ⟨a, b, c, e, f, q, _, _, _, _, _, h1, h2⟩, ⟨a', b', c', e', f', q', _, _, _, _, _, h1', h2'⟩ => by
    subst q q'
    refine lt_tup' fun z hz => ?_
    simp only [List.zip_cons_cons, List.zip_nil_right, List.mem_cons, List.not_mem_nil, or_false] at hz
    rcases hz with rfl | rfl | rfl | rfl | rfl
    · exact lt_bls _ _
    · exact lt_bls _ _
    · exact lt_bls _ _
    · refine lt_tup' fun z hz => ?_
      obtain ⟨k1, k2⟩ := List.of_mem_zip (a := z.1) (b := z.2) hz
      obtain ⟨y, e1, _⟩ := h1 _ k1
      obtain ⟨y', e2, _⟩ := h1' _ k2
      rw [e1, e2]
      exact lt_bls _ _
    · refine lt_tup' fun z hz => ?_
      obtain ⟨k1, k2⟩ := List.of_mem_zip (a := z.1) (b := z.2) hz
      obtain ⟨y, e1, _⟩ := h2 _ k1
      obtain ⟨y', e2, _⟩ := h2' _ k2
      rw [e1, e2]
      exact lt_bls _ _
end K51
set_option Elab.async false
set_option linter.all false
set_option maxRecDepth 100000
set_option maxHeartbeats 4000000
namespace K51
open PySem DL K01 WP
open PySem.W (kas_sort)
/-! ### sorted, each once -/
theorem sortT_len (ds : List D) : (sortT ds).length = ds.length := by
  unfold sortT
  by_cases h : ds.length < 2
  · rw [if_pos h]
  · rw [if_neg h, List.length_map]
    have := (b_sort (n := ds.length) (by omega)).run (ltB ds)
    have := this.size_eq
    simpa using this
theorem sortT_mem {ds : List D} {x : D} (hx : x ∈ sortT ds) : x ∈ ds := by
  unfold sortT at hx
  by_cases h : ds.length < 2
  · rwa [if_pos h] at hx
  · rw [if_neg h] at hx
    have hp := (b_sort (n := ds.length) (by omega)).run (ltB ds)
    obtain ⟨i, hi, rfl⟩ := List.mem_map.mp hx
    have hi : i ∈ runT (ltB ds) (kas_sort ds.length) := by simpa using hi
    have := (Array.Perm.mem_iff hp).mp hi
    exact atD_mem (by simpa using this)
noncomputable def dd1 (kept : List D) (one : D) : List D := match kept.getLast? with
  | none => kept ++ [one]
  | some z => if eqD z one = true then kept else kept ++ [one]
noncomputable def dedup (xs : List D) : List D := xs.foldl dd1 []
theorem dd1_len (k : List D) (x : D) : (dd1 k x).length ≤ k.length + 1 := by
  unfold dd1
  split
  · simp
  · split <;> simp
theorem dd1_mem {k : List D} {x y : D} (h : y ∈ dd1 k x) : y ∈ k ∨ y = x := by
  unfold dd1 at h
  split at h
  · simpa using h
  · split at h
    · exact .inl h
    · simpa using h
theorem fold_len : ∀ (xs k : List D), (xs.foldl dd1 k).length ≤ k.length + xs.length
  | [], k => by simp
  | x :: xs, k => by
    have h1 := fold_len xs (dd1 k x)
    have h2 := dd1_len k x
    simp only [List.foldl_cons, List.length_cons]
    omega
theorem fold_mem {y : D} : ∀ {xs k : List D}, y ∈ xs.foldl dd1 k → y ∈ k ∨ y ∈ xs
  | [], k, h => .inl h
  | x :: xs, k, h => by
    rcases fold_mem (xs := xs) h with h | h
    · rcases dd1_mem h with h | h
      · exact .inl h
      · exact .inr (h ▸ List.mem_cons_self)
    · exact .inr (List.mem_cons_of_mem _ h)
theorem dedup_mem {y : D} {xs : List D} (h : y ∈ dedup xs) : y ∈ xs := by
  rcases fold_mem h with h | h
  · cases h
  · exact h
theorem dedup_len (xs : List D) : (dedup xs).length ≤ xs.length := by
  have := fold_len xs []
  rw [List.length_nil, Nat.zero_add] at this
  exact this
/-- the turn of the two loops -/
theorem dd_yes {k : List D} {x : D} (h : k.getLast? = none ∨ ∃ z, k.getLast? = some z ∧ eqD z x = false) : dd1 k x = k ++ [x] := by
  unfold dd1
  rcases h with h | ⟨z, h, q⟩
  · rw [h]
  · rw [h]; simp [q]
theorem dd_no {k : List D} {x z : D} (h : k.getLast? = some z) (q : eqD z x = true) : dd1 k x = k := by
  unfold dd1
  rw [h]; simp [q]
noncomputable abbrev oncT : G Bool := gOr (gNot (gTru (gVar 1))) (gTr (g2 (fEq true) (g2 fIx (gVar 1) (gNeg (gC (.int 1)))) (gVar 2)))
theorem last_form {k : List D} {z : D} (h : k.getLast? = some z) : ∃ ys, k = ys ++ [z] := by
  rcases List.eq_nil_or_concat k with rfl | ⟨ys, y, rfl⟩
  · cases h
  · rw [List.concat_eq_append] at h ⊢
    rw [List.getLast?_concat] at h
    cases h
    exact ⟨ys, rfl⟩
theorem oncT_eq {k : List D} {x a : D} {a0 : Option S} (hk : ∀ z ∈ k, dep z ≤ 60) (hx : dep x ≤ 60) : ∃ c, oncT [a0, some (.own k), some (.d x)] = .ok c ∧ dd1 k x = if c = true then k ++ [x] else k := by
  cases q : k.getLast? with
  | none =>
    have : k = [] := List.getLast?_eq_none_iff.mp q
    subst this
    exact ⟨true, rfl, rfl⟩
  | some z =>
    obtain ⟨ys, rfl⟩ := last_form q
    refine ⟨!eqD z x, ?_, ?_⟩
    · show (gNot (gTru (gVar 1)) _ >>= _) = _
      rw [show gNot (gTru (gVar 1)) [a0, some (.own (ys ++ [z])), some (.d x)] = .ok false from by
        show M.ok (!(!(ys ++ [z]).isEmpty)) = _
        simp]
      show (g2 _ _ _ _ >>= _) = _
      rw [two (x := .d z) (y := .d x) (two (x := .l .own (ys ++ [z])) (y := .d (.int (-1))) rfl rfl (ixl_own _ _ _)) rfl (eq_ok _ _ _ (hk z (by simp)) hx)]
      rfl
    · cases r : eqD z x with
      | true => rw [dd_no q r]; rfl
      | false => rw [dd_yes (.inr ⟨z, q, r⟩)]; rfl
theorem take_fold (xs : List D) (k : Nat) (hk : k < xs.length) : (xs.take (k + 1)).foldl dd1 [] = dd1 ((xs.take k).foldl dd1 []) xs[k] := by
  rw [List.take_succ, List.getElem?_eq_getElem hk, List.foldl_append]
  rfl
theorem E_once (xs : List D) (h : okT xs = true) (hl : xs.length ≤ 63) (hd : ∀ x ∈ xs, dep x ≤ 50) : Fsorted_once [.bor xs] = .ok (.d (.tup (dedup (sortT xs)))) := by
  have sl := sortT_len xs
  have sm : ∀ x ∈ sortT xs, dep x ≤ 50 := fun x hx => hd x (sortT_mem hx)
  have hs : fSortT [.l .bor xs] = .ok (.l .fresh (sortT xs)) := by
    show (if okT xs = true then M.ok (R.l .fresh (sortT xs)) else M.bad) = _
    rw [if_pos h]
  refine eq_fin (s_set rfl rfl (s_for (ds := sortT xs) ?_ ?_))
  · show (gN fSortT (gCons (gVar 0) gNil) _ >>= _) = _
    rw [n1 (x := .l .bor xs) rfl hs]
    rfl
  · refine w_loop (fun k env => ∃ x : Option S, env = [some (.bor xs), some (.own (((sortT xs).take k).foldl dd1 [])), x]) (sortT xs) ⟨none, rfl⟩ ?_ ?_
    · rintro k hk _ ⟨x, rfl⟩
      refine ⟨_, rfl, ?_⟩
      have hb : ∀ z ∈ ((sortT xs).take k).foldl dd1 [], dep z ≤ 50 := fun z hz => by
        rcases fold_mem hz with h | h
        · cases h
        · exact sm z (List.mem_of_mem_take h)
      have hlen := fold_len ((sortT xs).take k) []
      rw [List.length_take, List.length_nil] at hlen
      obtain ⟨c, h1, h2⟩ := oncT_eq (a := .non) (a0 := some (.bor xs)) (fun z hz => Nat.le_trans (hb z hz) (by decide)) (Nat.le_trans (sm _ (List.getElem_mem hk)) (by decide))
      refine l_if h1 (fun hc => ?_) fun hc => ?_
      · rw [hc, if_pos rfl] at h2
        exact l_app rfl rfl rfl (by omega) ⟨_, rfl, _, by rw [take_fold _ _ hk, h2]; rfl⟩
      · rw [hc, if_neg (by decide)] at h2
        exact l_nx ⟨_, rfl, some (.d (sortT xs)[k]), by rw [take_fold _ _ hk, h2]; rfl⟩
    · rintro _ ⟨x, rfl⟩
      refine l_ret (r := .d (.tup (dedup (sortT xs)))) (n1 rfl ?_) rfl rfl
      rw [List.take_length]
      rfl
end K51
set_option Elab.async false
set_option linter.all false
set_option maxRecDepth 100000
set_option maxHeartbeats 4000000
namespace K51
open PySem DL K01 WP
noncomputable def faceR (w : Wd) (row : List Nat) : D := match row.getLast? with
  | none => .tup []
  | some l => faceD w row.dropLast l
theorem faceR_c (w : Wd) (ah : List Nat) (l : Nat) : faceR w (ah ++ [l]) = faceD w ah l := by
  unfold faceR
  rw [List.getLast?_concat, List.dropLast_concat]
theorem row_form (row : List Nat) : row = [] ∨ ∃ ah l, row = ah ++ [l] := by
  rcases List.eq_nil_or_concat row with rfl | ⟨ys, y, rfl⟩
  · exact .inl rfl
  · exact .inr ⟨ys, y, List.concat_eq_append⟩
theorem E_faceR (w : Wd) (hw : WOk w) (row : List Nat) (hl : row.length ≤ 100) : Fface_of [.d w.d, .d (.tup (row.map dN))] = .ok (.d (faceR w row)) := by
  rcases row_form row with rfl | ⟨ah, l, rfl⟩
  · exact E_face0 w
  · rw [faceR_c]; exact E_face w hw ah l (by simp at hl; omega)
noncomputable def kindD (w : Wd) : Nat → List Nat → D
  | 0, row => .tup [faceR w row, .tup []]
  | d + 1, row => .tup [faceR w row, .tup (dedup (sortT ((List.range w.m).map fun p => kindD w d (row ++ [p]))))]
noncomputable def subs (w : Wd) (d : Nat) (row : List Nat) : List D := (List.range w.m).map fun p => kindD w d (row ++ [p])
noncomputable def belD (w : Wd) : Nat → List Nat → D
  | 0, _ => .tup []
  | d + 1, row => .tup (dedup (sortT (subs w d row)))
theorem kind_eq (w : Wd) (d : Nat) (row : List Nat) : kindD w d row = .tup [faceR w row, belD w d row] := by
  cases d <;> rfl
noncomputable def KT (f : Ty) : Nat → Ty
  | 0 => .pr f (.hom .b)
  | d + 1 => .pr f (.hom (KT .fc d))
theorem depKT (f : Ty) (hf : depT f ≤ 3) : ∀ d, depT (KT f d) ≤ 2 * d + 4
  | 0 => by simp only [KT, depT]; omega
  | d + 1 => by
    have := depKT .fc (Nat.le_refl _) d
    simp only [KT, depT]
    omega
theorem face_has (w : Wd) (hw : WOk w) (ah : List Nat) (l : Nat) (hl : ah.length ≤ 100) : HasT .fc (faceD w ah l) := by
  have ml := hw.ml
  have al := hw.al
  refine ⟨ah.map fun p => eqD (dN p) (dN l), w.ms.map fun r => inD (dN l) (r.2.map dN), w.ar.map fun r => inD (dP (l, l)) (r.2.map dP), w.ar.map fun r => .tup (ah.map fun p => .bl (inD (dP (l, p)) (r.2.map dP))), w.ar.map fun r => .tup (ah.map fun p => .bl (inD (dP (p, l)) (r.2.map dP))), ?_, ?_, ?_, ?_, ?_, ?_, ?_, ?_⟩
  · unfold faceD
    simp only [List.map_map]
    rfl
  · simp; omega
  · simp; omega
  · simp; omega
  · simp; omega
  · simp; omega
  · intro x hx
    obtain ⟨r, _, rfl⟩ := List.mem_map.mp hx
    exact ⟨ah.map fun p => inD (dP (l, p)) (r.2.map dP), by rw [List.map_map]; rfl, by simp; omega⟩
  · intro x hx
    obtain ⟨r, _, rfl⟩ := List.mem_map.mp hx
    exact ⟨ah.map fun p => inD (dP (p, l)) (r.2.map dP), by rw [List.map_map]; rfl, by simp; omega⟩
theorem kind_has (w : Wd) (hw : WOk w) : ∀ (d : Nat) (row : List Nat) (f : Ty), row.length + d ≤ 90 → HasT f (faceR w row) → HasT (KT f d) (kindD w d row)
  | 0, row, f, _, h => ⟨_, _, rfl, h, [], rfl, by simp, fun _ h => by cases h⟩
  | d + 1, row, f, hl, h => by
    have hi := hw.hi
    refine ⟨_, _, rfl, h, _, rfl, ?_, fun x hx => ?_⟩
    · have h1 := dedup_len (sortT (subs w d row))
      rw [sortT_len] at h1
      have h2 : (subs w d row).length = w.m := by simp [subs]
      show (dedup (sortT (subs w d row))).length ≤ 1000
      omega
    · obtain ⟨p, _, rfl⟩ := List.mem_map.mp (sortT_mem (dedup_mem hx))
      refine kind_has w hw d (row ++ [p]) .fc (by simp; omega) ?_
      rw [faceR_c]
      exact face_has w hw row p (by omega)
theorem sub_has (w : Wd) (hw : WOk w) (d : Nat) (row : List Nat) (hl : row.length + d ≤ 80) {x : D} (hx : x ∈ subs w d row) : HasT (KT .fc d) x := by
  obtain ⟨p, _, rfl⟩ := List.mem_map.mp hx
  refine kind_has w hw d (row ++ [p]) .fc (by simp; omega) ?_
  rw [faceR_c]
  exact face_has w hw row p (by omega)
theorem allHd_t : ∀ (ds : List D), (∀ d ∈ ds, hdOf d = some .t) → allHd .t ds = true
  | [], _ => rfl
  | d :: r, h => by
    unfold allHd
    rw [h d List.mem_cons_self, allHd_t r fun e he => h e (List.mem_cons_of_mem _ he)]
    rfl
theorem sub_hd (w : Wd) (d : Nat) (row : List Nat) : ∀ x ∈ subs w d row, hdOf x = some .t := fun x hx => by
  obtain ⟨p, _, rfl⟩ := List.mem_map.mp hx
  show hdOf (kindD w d (row ++ [p])) = some .t
  rw [kind_eq, faceR_c]
  rfl
theorem sub_ok (w : Wd) (hw : WOk w) (d : Nat) (row : List Nat) (hd : d ≤ 6) (hl : row.length + d ≤ 80) : okT (subs w d row) = true := by
  have hi := hw.hi
  have lo := hw.lo
  have hn : (subs w d row).length = w.m := by simp [subs]
  have hdp : deps (subs w d row) ≤ 60 := deps_le fun x hx => by
    have h1 := has_dep (sub_has w hw d row hl hx)
    have h2 := depKT .fc (Nat.le_refl _) d
    omega
  have hc : cmpAll (subs w d row) = true := by
    unfold cmpAll
    rw [List.all_eq_true]
    intro x hx
    rw [List.all_eq_true]
    intro y hy
    exact has_lt (sub_has w hw d row hl hx) (sub_has w hw d row hl hy)
  have hh : okHd (subs w d row) = true := by
    have ha := allHd_t _ (sub_hd w d row)
    have hs := sub_hd w d row
    generalize subs w d row = L at *
    cases L with
    | nil => simp at hn; omega
    | cons x L =>
      show (match hdOf x with | some k => allHd k (x :: L) | none => false) = true
      rw [hs x List.mem_cons_self]
      exact ha
  unfold okT
  rw [hc, hh, decide_eq_true hdp, decide_eq_true (show (subs w d row).length < 64 by omega)]
  simp
theorem sub_once (w : Wd) (hw : WOk w) (d : Nat) (row : List Nat) (hd : d ≤ 6) (hl : row.length + d ≤ 80) : Fsorted_once [.bor (subs w d row)] = .ok (.d (.tup (dedup (sortT (subs w d row))))) := by
  have hi := hw.hi
  refine E_once _ (sub_ok w hw d row hd hl) (by simp [subs]; omega) fun x hx => ?_
  have h1 := has_dep (sub_has w hw d row hl hx)
  have h2 := depKT .fc (Nat.le_refl _) d
  omega
theorem E_kindof (w : Wd) (hw : WOk w) : ∀ (k d : Nat) (row : List Nat), d < k → d ≤ 6 → row.length + d ≤ 80 → Fkind_of k [.d w.d, .d (.int d), .d (.tup (row.map dN))] = .ok (.d (kindD w d row))
  | 0, d, row, h, _, _ => by omega
  | k + 1, 0, row, _, _, hl => by
    refine eq_fin (s_set (c2 rfl rfl (E_faceR w hw row (by omega))) rfl (w_seq (l_yes rfl (l_ret (tup_ok (dl_cons rfl rfl (dl_cons (tup_ok dl_nil (by decide)) rfl dl_nil)) t2) rfl rfl))))
  | k + 1, d + 1, row, hk, h6, hl => by
    have hi := hw.hi
    have ih := fun p => E_kindof w hw k d (row ++ [p]) (by omega) (by omega) (by simp; omega)
    have ih' : ∀ p, Fkind_of k [.d w.d, .d (.int (((d + 1 : Nat) : Int) - 1)), .d (.tup (row.map dN ++ [dN p]))] = .ok (.d (kindD w d (row ++ [p]))) := fun p => by
      have := ih p
      rw [List.map_append] at this
      rw [show ((d + 1 : Nat) : Int) - 1 = (d : Int) by omega]
      exact this
    refine eq_fin (s_set (c2 rfl rfl (E_faceR w hw row (by omega))) rfl (s_skip (b := gTr _) (show M.ok (eqD (.int ((d + 1 : Nat) : Int)) (.int 0)) = .ok false from ?_) ?_))
    · simp [eqD]; omega
    refine l_ret (tup_ok (dl_cons rfl rfl (dl_cons (c1 (cmp1 (xs := List.range w.m) (h := dN) (fun p => kindD w d (row ++ [p])) (rngM rfl (by omega)) (by simp; omega) fun p _ => ⟨_, c3 rfl (two rfl rfl rfl) (two rfl (tup_ok (dl_cons rfl rfl dl_nil) (by show 1 ≤ 1000; decide)) (t_cat _ _ (by simp; omega))) (ih' p), rfl⟩) (sub_once w hw d row (by omega) (by omega))) rfl dl_nil)) t2) rfl rfl
theorem E_need (d : Nat) (hd : d ≤ 6) : Fneed_count [.d (.int d), .d (.int 0), .d (.int 6)] = .ok (.d .non) := by
  refine w_finN (l_no ?_ (l_nx ⟨_, rfl⟩))
  show (if decide ((d : Int) < 0) = true then M.ok true else M.ok (decide ((6 : Int) < d))) = M.ok false
  rw [decide_eq_false (show ¬ (d : Int) < 0 by omega), decide_eq_false (show ¬ (6 : Int) < d by omega)]
  rfl
theorem E_kind (w : Wd) (hw : WOk w) (d : Nat) (row : List Nat) (hd : d ≤ 6) (hp : w.m ^ d ≤ 600) (hl : row.length ≤ 60) : Fkind [.d w.d, .d (.int d), .d (.tup (row.map dN))] = .ok (.d (kindD w d row)) := by
  refine eq_fin (drop_ok (x3 rfl rfl rfl (E_need d hd)) (s_set (c2 (two rfl rfl (ix0 _ _)) rfl (E_power w.m d hw.hi hd)) rfl (s_skip (b := gTr _) (show M.ok (decide ((600 : Int) < ((w.m ^ d : Nat) : Int))) = .ok false from ?_) ?_)))
  · rw [decide_eq_false (by omega)]
  · exact l_ret (c3 rfl rfl rfl (E_kindof w hw 10 d row (by omega) hd (by omega))) rfl rfl
theorem E_kind0 (w : Wd) (hw : WOk w) (d : Nat) (hd : d ≤ 6) (hp : w.m ^ d ≤ 600) : Fkind [.d w.d, .d (.int d), .d .non] = .ok (.d (kindD w d [])) := by
  refine eq_fin (drop_ok (x3 rfl rfl rfl (E_need d hd)) (s_set (c2 (two rfl rfl (ix0 _ _)) rfl (E_power w.m d hw.hi hd)) rfl (s_skip (b := gTr _) (show M.ok (decide ((600 : Int) < ((w.m ^ d : Nat) : Int))) = .ok false from ?_) ?_)))
  · rw [decide_eq_false (by omega)]
  · exact l_ret (c3 rfl rfl rfl (E_kindof w hw 10 d [] (by omega) hd (by simp; omega))) rfl rfl
end K51
set_option Elab.async false
set_option linter.all false
set_option maxRecDepth 100000
set_option maxHeartbeats 4000000
namespace K51
open PySem DL K01 WP
end K51
set_option Elab.async false
set_option linter.all false
set_option maxRecDepth 100000
set_option maxHeartbeats 4000000
namespace DL
open PySem PySem.Spec PyProof.Rows L2
section
variable {X : Cx} {c : C} {e a b : Expr} {es elts : List Expr} {pos tp : Pos} {kk : Nat}
/-! ### for .. in zip(xs, ys): of what never changes any more -/
/-! ### list(range(n)) -/
end
end DL
set_option Elab.async false
set_option linter.all false
set_option maxRecDepth 100000
set_option maxHeartbeats 4000000
namespace DL
open PySem PySem.Spec PyProof.Rows L2 DX
section
variable {X : Cx} {c : C} {e a : Expr} {es : List Expr} {ga g : G R} {pos : Pos} {L : List Str} {T : Str → Bool}
/-! ### isinstance(e, (C, .., D)), classes of one's own -/
theorem call_isXT {cs : List Addr} (h0 : ∀ t ∈ ["NoneType", "bool", "int", "str", "tuple", "list", "dict"], PySem.W.kitAny X.K (.type t) (cs.map Value.ref) = some false)
    (hX : ∀ cls ∈ L, ∀ C, PySem.W.nsIn X.K mainGlobals cls = some (some (.ref C)) → ∃ P, GX X.K P ∧ XE X.K P C ∧ PySem.W.kitAny X.K (.ref C) (cs.map Value.ref) = some (T cls)) :
    CallR X (.builtin "isinstance") (fun xs H Q => ∃ d x b tp, xs = [x, .ref tp] ∧ H tp = some (.tup (cs.map V.ref)) ∧ Rep X.K H d x ∧ tX L T d = some b ∧ Q (.bl b) H) := by
  intro pins s σ H xs us Q I r h
  obtain ⟨d, x, b, tp, rfl, htp, hd, hb, q⟩ := h
  obtain ⟨u, w', rfl, rx, ry⟩ := vals2 r
  cases ry
  have fin : ∀ tk, EP X pins σ Q (.bool b) { s with toks := tk } := fun tk => ⟨.bl _, H, I.tok tk, rfl, q⟩
  have F := hf_self I
  obtain ⟨hz, its, rv, ot, ho, hc, n, hdt⟩ := I.hok tp _ htp
  have hits : ∀ {cs : List Addr} {its : List Value}, Vals (cs.map V.ref) its → its = cs.map Value.ref := by
    intro cs
    induction cs with
    | nil => intro its h; cases h; rfl
    | cons c cs ih =>
      intro its h
      cases h with
      | cons h1 h2 => cases h1; rw [ih h2]; rfl
  have := hits rv
  subst this
  obtain ⟨oc, od, odt, osl⟩ := ot
  obtain rfl : oc = .type "tuple" := hc
  obtain rfl : odt = .seq (cs.map Value.ref).toArray n := hdt
  cases hd with
  | non => cases rx; cases hb; exact PySem.W.kia_tup PySem.W.kitx_none I.kIn True.intro ho (h0 _ (by decide)) (fun z => nomatch z) fin
  | bl y => cases rx; cases hb; exact PySem.W.kia_tup PySem.W.kitx_bool I.kIn True.intro ho (h0 _ (by decide)) (fun z => nomatch z) fin
  | int i => obtain ⟨t, rfl⟩ := rx; cases hb; exact PySem.W.kia_tup PySem.W.kitx_int I.kIn True.intro ho (h0 _ (by decide)) (fun z => nomatch z) fin
  | str y => obtain ⟨t, rfl⟩ := rx; cases hb; exact PySem.W.kia_tup PySem.W.kitx_str I.kIn True.intro ho (h0 _ (by decide)) (fun z => nomatch z) fin
  | tup h hs =>
    cases rx; cases hb
    obtain ⟨its, r, o, h1, h2, _⟩ := F.t _ _ h
    exact PySem.W.kia_tup PySem.W.kitx_tuple I.kIn ⟨o, h1, h2⟩ ho (h0 _ (by decide)) (fun z => nomatch z) fin
  | lst h hs =>
    cases rx; cases hb
    obtain ⟨its, r, o, h1, h2, _⟩ := F.l _ _ h
    exact PySem.W.kia_tup PySem.W.kitx_list I.kIn ⟨o, h1, h2⟩ ho (h0 _ (by decide)) (fun z => nomatch z) fin
  | emp h =>
    cases rx; cases hb
    obtain ⟨o, h1, h2⟩ := F.e _ h
    exact PySem.W.kia_tup PySem.W.kitx_dict I.kIn ⟨o, h1, h2⟩ ho (h0 _ (by decide)) (fun z => nomatch z) fin
  | exn h1 h2 h3 hs hx =>
    cases rx
    rename_i cls ns vs ds
    by_cases hL : L.contains cls = true
    · have hb : (if L.contains cls = true then some (T cls) else none) = some b := hb
      rw [if_pos hL] at hb
      obtain rfl := Option.some.inj hb
      obtain ⟨P, G, XEc, hk⟩ := hX _ (List.contains_iff_mem.mp hL) _ h2
      obtain ⟨ox, od, J, _⟩ := exn_inst I h1 h3
      exact PySem.W.kia_tup (kitx_exn G XEc) I.kIn ⟨ox, od, J⟩ ho hk (fun z => nomatch z) fin
    · have hb : (if L.contains cls = true then some (T cls) else none) = some b := hb
      rw [if_neg hL] at hb
      cases hb
/-- names of classes, written out -/
inductive NmE (X : Cx) : List Expr → List Str → Prop
  | nil : NmE X [] []
  | cons {n : Str} {p : Pos} {es : List Expr} {ns : List Str} : NmE X es ns → Gl X n → (n == ("__debug__" : Str)) = false → starEach (.Name n p :: es) X.env = (false, eval (.Name n p) X.env) :: starEach es X.env → NmE X (.Name n p :: es) (n :: ns)
theorem nme_nil : NmE X [] [] := .nil
theorem nme_cons {n : Str} {p : Pos} {ns : List Str} (h : NmE X es ns) (hg : Gl X n := by rfl) (hd : (n == ("__debug__" : Str)) = false := by decide) (he : starEach (.Name n p :: es) X.env = (false, eval (.Name n p) X.env) :: starEach es X.env := by rfl) : NmE X (.Name n p :: es) (n :: ns) := .cons h hg hd he
theorem nme_all {es : List Expr} {Ns : List Str} (h : NmE X es Ns) (A : XAll X.K X.mg L) (hN : ∀ n ∈ Ns, n ∈ L) : ∃ cs : List Addr, PA X es (fun σ H Q => Q (cs.map V.ref) H) ∧ cs.length = Ns.length ∧
    (∀ t ∈ ["NoneType", "bool", "int", "str", "tuple", "list", "dict"], PySem.W.kitAny X.K (.type t) (cs.map Value.ref) = some false) ∧
    ∀ cls ∈ L, ∀ C, PySem.W.nsIn X.K mainGlobals cls = some (some (.ref C)) → PySem.W.kitAny X.K (.ref C) (cs.map Value.ref) = some (Ns.contains cls) := by
  induction h with
  | nil => exact ⟨[], pa_nil, rfl, fun t _ => rfl, fun cls _ C _ => rfl⟩
  | @cons n p es ns h hg hd he ih =>
    obtain ⟨cs, i1, i0, i2, i3⟩ := ih fun x hx => hN x (List.mem_cons_of_mem _ hx)
    obtain ⟨P, G, hP, hA, hU⟩ := id A.ex
    obtain ⟨D, d1, d2, d3, d4⟩ := hA n (hN n List.mem_cons_self)
    obtain ⟨cd, e1, _, _, e2⟩ := cls_of d2
    have s1 : (PySem.W.clsIn X.K D).isSome = true := by rw [e1]; rfl
    refine ⟨D :: cs, pa_cons (pe_glob (v := .ref D) hg d3 rfl hd) i1 he, by rw [List.length_cons, List.length_cons, i0], fun t ht => ?_, fun cls hc C hn => ?_⟩
    · have k := kit_not s1 e2 t ht
      show (match PySem.W.kitOne X.K (.type t) (.ref D) with | some true => some true | some false => PySem.W.kitAny X.K (.type t) (cs.map Value.ref) | none => none) = _
      rw [k]
      exact i2 t ht
    · obtain ⟨C', h1, h2, _⟩ := hA cls hc
      rw [h1] at hn
      cases hn
      have k : PySem.W.kitOne X.K (.ref C) (.ref D) = some (cls == n) := by
        refine (kit_sub h2 s1 e2).trans ?_
        have pd : (P == D) = false := by simpa using Ne.symm d4
        rw [pd, Bool.or_false]
        by_cases q : cls = n
        · subst q
          rw [h1] at d1
          cases d1
          simp
        · have : C ≠ D := fun z => q (hU cls hc n (hN n List.mem_cons_self) C h1 (z ▸ d1))
          rw [beq_eq_false_iff_ne.mpr this, beq_eq_false_iff_ne.mpr q]
      show (match PySem.W.kitOne X.K (.ref C) (.ref D) with | some true => some true | some false => PySem.W.kitAny X.K (.ref C) (cs.map Value.ref) | none => none) = _
      rw [k, List.contains_cons]
      cases q : cls == n with
      | true => rfl
      | false => exact i3 cls hc C h1
theorem qpd_isT {Ns : List Str} {x1 : Nat} {p p2 : Pos} (A : XAll X.K X.mg L) (hn : NmE X es Ns) (hN : ∀ n ∈ Ns, n ∈ L) (h : QD X c a g) (hm : X.mg "isinstance" = none) (hK : X.K = c.K := by rfl) (hg : Gl X "isinstance" := by rfl)
    (he : starEach [a, .Tuple es x1 p2] X.env = (false, eval a X.env) :: starEach [.Tuple es x1 p2] X.env := by rfl) (he2 : starEach [.Tuple es x1 p2] X.env = (false, eval (.Tuple es x1 p2) X.env) :: starEach [] X.env := by rfl)
    (hpl : (backTo pos (starEach [.Tuple es x1 p2] X.env)).any (·.1) = false := by rfl) (hl : Ns.length ≤ 1000 := by decide) : QD X c (.Call (.Name "isinstance" p) [a, .Tuple es x1 p2] [] pos) (gIsX L (fun x => Ns.contains x) g) := by
  obtain ⟨cs, h1, hcs, h2, h3⟩ := nme_all hn A hN
  obtain ⟨P, G, hP, hA, hU⟩ := id A.ex
  have hcl : cs.length ≤ sizeLine := by rw [hcs]; exact Nat.le_trans hl (by decide)
  refine ⟨peImp (pe_callB (call_isXT (L := L) (T := fun x => Ns.contains x) h2 fun cls hc C hn => ?_) hg hm (by decide +kernel) (pa_cons h.h (pa_cons (pe_tup h1) pa_nil he2) he) (by decide) (by decide) he hpl) fun σ H Q ⟨J, env, sr, w⟩ => ?_⟩
  · obtain ⟨C', k1, k2, _⟩ := hA cls hc
    rw [k1] at hn
    cases hn
    exact ⟨P, G, k2, h3 cls hc C k1⟩
  · refine ⟨J, env, sr, wpM_mono (wpM_bind w) fun r wr v J1 H1 e1 r1 => ?_⟩
    refine ⟨by simpa using hcl, fun l hl => ?_⟩
    cases q : tX L (fun x => Ns.contains x) r.dat with
    | none => rw [q] at wr; exact wr.elim
    | some b =>
      rw [q] at wr
      have hp1 := sr.hp.ext e1
      have e2 := Ext.new hp1.sub hl (.tup (cs.map V.ref))
      exact ⟨r.dat, v, b, l, rfl, upd_same, by rw [hK]; exact (r1.dat hp1).mono e2.h, q, wr _ J1 _ (e1.trans e2) (.bl _)⟩
/-! ### a call with one argument fewer, where exceptions pass -/
theorem pd_callXD {k n : Nat} {f : Addr} {fd : FuncData} {ps : List Str} {F : List S → M R} {x : Str} {p : Pos} {gs : G (List R)} (G : FnOk X.prog X.w X.K X.mg X.base (CXX X.prog X.w) k f fd ps (spX X.K (n + 1) F)) (hx : XOk X c) (hr : Room k X.A) (hm : X.mg x = some (.ref f)) (hk : PySem.W.keepIn X.K (.ref f) = true)
    (hb : Binds X.K fd ps [.none]) (ha : PAr X c (e :: es) gs) (hT : c.K = X.K := by rfl) (hg : Gl X x := by rfl) (hdb : (x == ("__debug__" : Str)) = false := by decide) (he : starEach (e :: es) X.env = (false, eval e X.env) :: starEach es X.env := by rfl)
    (hpl : (backTo pos (starEach es X.env)).any (·.1) = false := by rfl) : PD X c (.Call (.Name x p) (e :: es) [] pos) (gN (gCallX n (fun as => F (as ++ [.d .non]))) gs) := by
  obtain ⟨E, hc, hE⟩ := hx
  refine peImp (pe_call (E := E) G hr hg hm hk hb (dvs := [.non]) (.cons rfl .nil) hc.passes ha hdb he hpl) fun σ H Q ⟨J, env, sr, w⟩ => ?_
  refine ⟨J, env, sr, wpM_mono (wpM_bind w) fun rs wr vs J1 H1 e1 r1 => ?_⟩
  unfold gCallX at wr
  split at wr
  · rename_i hl
    have h1 := sr.hp.ext e1
    have ar := r1.args h1
    rw [hT] at ar
    refine ⟨J1, rs.map toA ++ [.d .non], e1.sub, by simpa using hl, arep_non ar, ?_⟩
    dsimp only at wr
    cases q : F (rs.map toA ++ [.d .non]) with
    | bad => rw [q] at wr; exact wr
    | exc x =>
      rw [q] at wr
      exact fun v dx J' H' e2 xr => hE x wr v dx J' H' (h1.ext e2).since (hT ▸ xr)
    | ok r =>
      rw [q] at wr
      intro v J' H' e2 fr
      refine wr v J' H' (e1.trans e2) ?_
      cases r with
      | d y => exact (show Rep c.K J' y v from hT ▸ fr)
      | l m ys =>
        obtain ⟨a, us, h1, h2, h3, h4, h5⟩ := fr
        exact ⟨a, us, h1, h2, h3, e1.h.free h4, hT ▸ h5⟩
  · exact wr.elim
theorem qpd_calDX {k k' n : Nat} {F : List S → M R} {x : Str} {p : Pos} {gs : G (List R)} (G : CalD X.prog X.w X.K X.mg X.base k n x F) (hx : XOk X c) (hr : Room k' X.A) (ha : QAr X c (e :: es) gs) (hk : k ≤ k' := by decide) (hT : c.K = X.K := by rfl) (hg : Gl X x := by rfl) (hdb : (x == ("__debug__" : Str)) = false := by decide)
    (he : starEach (e :: es) X.env = (false, eval e X.env) :: starEach es X.env := by rfl) (hpl : (backTo pos (starEach es X.env)).any (·.1) = false := by rfl) : QD X c (.Call (.Name x p) (e :: es) [] pos) (gN (gCallX n (fun as => F (as ++ [.d .non]))) gs) := by
  obtain ⟨f, fd, ps, h1, h2, h3, h4⟩ := G
  exact ⟨pd_callXD h1 hx (hr.mono hk) h2 h3 h4 ha.h hT hg hdb he hpl⟩
end
end DL
set_option Elab.async false
set_option linter.all false
set_option maxRecDepth 100000
set_option maxHeartbeats 4000000
/-! The sort of tuples upon data is a sort: what it tells rises. -/
namespace DL
open PySem PySem.Spec PyProof.Rows L2
open PySem.W (KasT kas_sort kas_asc kas_desc kas_rev kas_tail3 kas_descPart kas_count kas_place kas_bin)
/-- an order of the places that may hold some alike -/
structure Ord (q : Nat → Nat → Bool) : Prop where
  asy : ∀ a b, q a b = true → q b a = false
  tra : ∀ a b c, q b a = false → q c b = false → q c a = false
section
variable {q : Nat → Nat → Bool} {n : Nat}
noncomputable abbrev at0 (p : Array Nat) (k : Nat) : Nat := p.getD k 0
noncomputable def Up (q : Nat → Nat → Bool) (p : Array Nat) (k : Nat) : Prop := ∀ i j, i ≤ j → j < k → q (at0 p j) (at0 p i) = false
noncomputable def Down (q : Nat → Nat → Bool) (p : Array Nat) (k : Nat) : Prop := ∀ i j, i ≤ j → j < k → q (at0 p i) (at0 p j) = false
theorem Ord.irr (O : Ord q) (a : Nat) : q a a = false := by
  cases h : q a a with
  | false => rfl
  | true => rw [← h]; exact (O.asy a a h)
theorem Up.one (O : Ord q) (p : Array Nat) : Up q p 1 := fun i j h1 h2 => by
  have : i = j := by omega
  rw [this]; exact O.irr _
theorem Up.more (O : Ord q) {p : Array Nat} {k : Nat} (h : Up q p k) (h1 : 1 ≤ k) (e : q (at0 p k) (at0 p (k - 1)) = false) : Up q p (k + 1) := fun i j hi hj => by
  by_cases c : j < k
  · exact h i j hi c
  · have : j = k := by omega
    subst this
    by_cases c' : i = j
    · rw [c']; exact O.irr _
    · exact O.tra _ _ _ (h i (j - 1) (by omega) (by omega)) e
theorem Down.more (O : Ord q) {p : Array Nat} {k : Nat} (h : Down q p k) (h1 : 1 ≤ k) (e : q (at0 p (k - 1)) (at0 p k) = false) : Down q p (k + 1) := fun i j hi hj => by
  by_cases c : j < k
  · exact h i j hi c
  · have : j = k := by omega
    subst this
    by_cases c' : i = j
    · rw [c']; exact O.irr _
    · exact O.tra _ _ _ e (h i (j - 1) (by omega) (by omega))
end
end DL
set_option Elab.async false
set_option linter.all false
set_option maxRecDepth 100000
set_option maxHeartbeats 4000000
/-! Data of one form: < is a total order of them. -/
namespace DL
open PySem PySem.Spec PyProof.Rows L2
open PySem.W (kas_sort)
noncomputable def ltb (x y : D) : Bool := (ltD x y).getD false
structure TotP (P : D → Prop) : Prop where
  eq : ∀ x y, P x → P y → (eqD x y = true ↔ x = y)
  lt : ∀ x y, P x → P y → (ltD x y).isSome = true
  asy : ∀ x y, P x → P y → ltb x y = true → ltb y x = false
  tri : ∀ x y, P x → P y → ltb x y = false → ltb y x = false → x = y
  tra : ∀ x y z, P x → P y → P z → ltb x y = true → ltb y z = true → ltb x z = true
noncomputable def ltbs (xs ys : List D) : Bool := ltb (.tup xs) (.tup ys)
theorem ltbs_cc (x y : D) (xs ys : List D) : ltbs (x :: xs) (y :: ys) = if eqD x y = true then ltbs xs ys else ltb x y := by
  show (if eqD x y = true then ltDs xs ys else ltD x y).getD false = _
  by_cases h : eqD x y = true
  · rw [if_pos h, if_pos h]; rfl
  · rw [if_neg h, if_neg h]; rfl
variable {P R : D → Prop}
theorem eqDs_cc (x y : D) (xs ys : List D) : eqDs (x :: xs) (y :: ys) = (eqD x y && eqDs xs ys) := by rw [eqDs]
/-- lists by their items -/
structure TotL (Q : List D → Prop) : Prop where
  eq : ∀ x y, Q x → Q y → (eqDs x y = true ↔ x = y)
  lt : ∀ x y, Q x → Q y → (ltDs x y).isSome = true
  asy : ∀ x y, Q x → Q y → ltbs x y = true → ltbs y x = false
  tri : ∀ x y, Q x → Q y → ltbs x y = false → ltbs y x = false → x = y
  tra : ∀ x y z, Q x → Q y → Q z → ltbs x y = true → ltbs y z = true → ltbs x z = true
theorem lex_tra (p : TotP P) {x y z : D} {r s t : List D} (px : P x) (py : P y) (pz : P z) (h : ltbs r s = true → ltbs s t = true → ltbs r t = true) (h1 : ltbs (x :: r) (y :: s) = true) (h2 : ltbs (y :: s) (z :: t) = true) : ltbs (x :: r) (z :: t) = true := by
  rw [ltbs_cc] at h1 h2 ⊢
  by_cases e : x = y
  · subst e
    rw [if_pos ((p.eq x x px px).mpr rfl)] at h1
    by_cases f : x = z
    · subst f
      rw [if_pos ((p.eq x x px px).mpr rfl)] at h2 ⊢
      exact h h1 h2
    · rw [if_neg fun q => f ((p.eq x z px pz).mp q)] at h2 ⊢
      exact h2
  · rw [if_neg fun q => e ((p.eq x y px py).mp q)] at h1
    by_cases f : y = z
    · subst f
      rw [if_neg fun q => e ((p.eq x y px py).mp q)]
      exact h1
    · rw [if_neg fun q => f ((p.eq y z py pz).mp q)] at h2
      have h3 := p.tra x y z px py pz h1 h2
      by_cases g : x = z
      · subst g
        have := p.asy x x px px h3
        rw [h3] at this
        cases this
      · rw [if_neg fun q => g ((p.eq x z px pz).mp q)]
        exact h3
/-- a first item and the others -/
theorem TotL.cons {Q : List D → Prop} (p : TotP P) (h : TotL Q) : TotL fun xs => ∃ x r, xs = x :: r ∧ P x ∧ Q r where
  eq := by
    rintro _ _ ⟨x, r, rfl, px, qr⟩ ⟨y, s, rfl, py, qs⟩
    rw [eqDs_cc, Bool.and_eq_true, p.eq x y px py, h.eq r s qr qs]
    exact ⟨fun e => by rw [e.1, e.2], fun e => by cases e; exact ⟨rfl, rfl⟩⟩
  lt := by
    rintro _ _ ⟨x, r, rfl, px, qr⟩ ⟨y, s, rfl, py, qs⟩
    show (if eqD x y = true then ltDs r s else ltD x y).isSome = true
    split
    · exact h.lt r s qr qs
    · exact p.lt x y px py
  asy := by
    rintro _ _ ⟨x, r, rfl, px, qr⟩ ⟨y, s, rfl, py, qs⟩ hl
    rw [ltbs_cc] at hl ⊢
    by_cases e : x = y
    · subst e
      rw [if_pos ((p.eq x x px px).mpr rfl)] at hl ⊢
      exact h.asy r s qr qs hl
    · rw [if_neg fun z => e ((p.eq x y px py).mp z)] at hl
      rw [if_neg fun z => e ((p.eq y x py px).mp z).symm]
      exact p.asy x y px py hl
  tri := by
    rintro _ _ ⟨x, r, rfl, px, qr⟩ ⟨y, s, rfl, py, qs⟩ h1 h2
    rw [ltbs_cc] at h1 h2
    by_cases e : x = y
    · subst e
      rw [if_pos ((p.eq x x px px).mpr rfl)] at h1 h2
      rw [h.tri r s qr qs h1 h2]
    · rw [if_neg fun z => e ((p.eq x y px py).mp z)] at h1
      rw [if_neg fun z => e ((p.eq y x py px).mp z).symm] at h2
      exact absurd (p.tri x y px py h1 h2) e
  tra := by
    rintro _ _ _ ⟨x, r, rfl, px, qr⟩ ⟨y, s, rfl, py, qs⟩ ⟨z, t, rfl, pz, qt⟩ h1 h2
    exact lex_tra p px py pz (h.tra r s t qr qs qt) h1 h2
theorem TotL.nil : TotL fun xs => xs = [] where
  eq := by rintro _ _ rfl rfl; simp [eqDs]
  lt := by rintro _ _ rfl rfl; rfl
  asy := by rintro _ _ rfl rfl h; cases h
  tri := by rintro _ _ rfl rfl _ _; rfl
  tra := by rintro _ _ _ rfl rfl rfl h; cases h
theorem TotP.list (p : TotP P) : TotL fun xs => ∀ x ∈ xs, P x where
  eq := by
    intro xs
    induction xs with
    | nil => intro ys _ _; cases ys <;> simp [eqDs]
    | cons x xs ih =>
      intro ys hx hy
      cases ys with
      | nil => simp [eqDs]
      | cons y ys =>
        rw [eqDs_cc, Bool.and_eq_true, p.eq x y (hx x List.mem_cons_self) (hy y List.mem_cons_self), ih ys (fun z hz => hx z (List.mem_cons_of_mem _ hz)) fun z hz => hy z (List.mem_cons_of_mem _ hz)]
        exact ⟨fun e => by rw [e.1, e.2], fun e => by cases e; exact ⟨rfl, rfl⟩⟩
  lt := by
    intro xs
    induction xs with
    | nil => intro ys _ _; rfl
    | cons x xs ih =>
      intro ys hx hy
      cases ys with
      | nil => rfl
      | cons y ys =>
        show (if eqD x y = true then ltDs xs ys else ltD x y).isSome = true
        split
        · exact ih ys (fun z hz => hx z (List.mem_cons_of_mem _ hz)) fun z hz => hy z (List.mem_cons_of_mem _ hz)
        · exact p.lt x y (hx x List.mem_cons_self) (hy y List.mem_cons_self)
  asy := by
    intro xs
    induction xs with
    | nil =>
      intro ys _ _ h
      cases ys with
      | nil => cases h
      | cons y ys => rfl
    | cons x xs ih =>
      intro ys hx hy hl
      cases ys with
      | nil => cases hl
      | cons y ys =>
        have px := hx x List.mem_cons_self
        have py := hy y List.mem_cons_self
        rw [ltbs_cc] at hl ⊢
        by_cases e : x = y
        · subst e
          rw [if_pos ((p.eq x x px px).mpr rfl)] at hl ⊢
          exact ih ys (fun z hz => hx z (List.mem_cons_of_mem _ hz)) (fun z hz => hy z (List.mem_cons_of_mem _ hz)) hl
        · rw [if_neg fun z => e ((p.eq x y px py).mp z)] at hl
          rw [if_neg fun z => e ((p.eq y x py px).mp z).symm]
          exact p.asy x y px py hl
  tri := by
    intro xs
    induction xs with
    | nil =>
      intro ys _ _ h1 h2
      cases ys with
      | nil => rfl
      | cons y ys => cases h1
    | cons x xs ih =>
      intro ys hx hy h1 h2
      cases ys with
      | nil => cases h2
      | cons y ys =>
        have px := hx x List.mem_cons_self
        have py := hy y List.mem_cons_self
        rw [ltbs_cc] at h1 h2
        by_cases e : x = y
        · subst e
          rw [if_pos ((p.eq x x px px).mpr rfl)] at h1 h2
          rw [ih ys (fun z hz => hx z (List.mem_cons_of_mem _ hz)) (fun z hz => hy z (List.mem_cons_of_mem _ hz)) h1 h2]
        · rw [if_neg fun z => e ((p.eq x y px py).mp z)] at h1
          rw [if_neg fun z => e ((p.eq y x py px).mp z).symm] at h2
          exact absurd (p.tri x y px py h1 h2) e
  tra := by
    intro xs
    induction xs with
    | nil =>
      intro ys zs _ _ _ h1 h2
      cases ys with
      | nil => cases h1
      | cons y ys =>
        cases zs with
        | nil => cases h2
        | cons z zs => rfl
    | cons x xs ih =>
      intro ys zs hx hy hz h1 h2
      cases ys with
      | nil => cases h1
      | cons y ys =>
        cases zs with
        | nil => cases h2
        | cons z zs =>
          have px := hx x List.mem_cons_self
          have py := hy y List.mem_cons_self
          have pz := hz z List.mem_cons_self
          exact lex_tra p px py pz (ih ys zs (fun z hz => hx z (List.mem_cons_of_mem _ hz)) (fun z hz => hy z (List.mem_cons_of_mem _ hz)) fun w hw => hz w (List.mem_cons_of_mem _ hw)) h1 h2
/-! ### forms -/
inductive Fm where
  | b | i | s | hom (t : Fm) | tn | tc (x r : Fm)
/-! ### what the sort tells -/
end DL
set_option Elab.async false
set_option linter.all false
set_option maxRecDepth 100000
set_option maxHeartbeats 4000000
namespace K53
open PySem DL
noncomputable def N_law_flags : List Str := ["_law_e", "_law_some"]
noncomputable def g_law_flags : G O := (gSeq (gSet 1 (gLst (gDCons (gIsX XL (fun x => x == "NoTongue") (gVar 0)) (gDCons (gIsX XL (fun x => x == "TooMany") (gVar 0)) (gDCons (gIsX XL (fun x => x == "NoCount") (gVar 0)) (gDCons (gIsX XL (fun x => x == "NoPoint") (gVar 0)) gDNil))))))
 (gRet (g2 fPlus (gVar 1) (gLst (gDCons (gIsX XL (fun x => (["NoWorld", "NoSaying", "NoMore", "NoName", "NoLetter", "NoRow"] : List Str).contains x) (gVar 0)) gDNil)))))
noncomputable def F_law_flags (as : List S) : M R := fin (g_law_flags (startE N_law_flags as))
noncomputable def N_law_same : List Str := ["_law_thing", "_law_other"]
noncomputable def g_law_same : G O := (gSeq (gIfS (gOr (gTr (g2 (fEq true) (gIs "bool" (gVar 0)) (gIs "bool" (gVar 1)))) (gTr (g2 (fEq true) (gIs "int" (gVar 0)) (gIs "int" (gVar 1))))) (gRet (gC (.bl false))) gNx)
 (gRet (g2 (fEq false) (gVar 0) (gVar 1))))
noncomputable def F_law_same (as : List S) : M R := fin (g_law_same (startE N_law_same as))
noncomputable def N_law_is : List Str := ["_law_caught", "_law_due"]
noncomputable def g_law_is : G O := (gSeq (gIfS (gOr (gTr (g2 (fIs false) (gVar 1) (gC .non))) (gTr (g2 (fIs false) (gVar 0) (gC .non)))) (gRet (gAndV (g2 (fIs false) (gVar 1) (gC .non)) (g2 (fIs false) (gVar 0) (gC .non)))) gNx)
 (gSeq (gIfS (gOr (gNot (gTr (gIsX XL (fun _ => true) (gVar 0)))) (gTr (g2 (fEq true) (gN (gCall 1 K53.F_law_flags) (gCons (gVar 0) gNil)) (gComp 1 [1] (gRng1 (gCons (gC (.int 5)) gNil)) (tgName 0) gTt (g2 (fEq false) (g2 fIx (gVar 1) (gC (.int 0))) (gVar 0)))))) (gRet (gC (.bl false))) gNx)
 (gSeq (gIfS (gTr (g2 (fEq false) (g2 fIx (gVar 1) (gC (.int 0))) (gC (.int 1)))) (gRet (gN (gCall 2 K53.F_law_same) (gCons (gXF ["TooMany"] "many" (gVar 0)) (gCons (g2 fIx (gVar 1) (gC (.int 1))) gNil)))) gNx)
 (gSeq (gIfS (gTr (g2 (fEq false) (g2 fIx (gVar 1) (gC (.int 0))) (gC (.int 2)))) (gRet (gN (gCall 2 K53.F_law_same) (gCons (gXF ["NoCount"] "told" (gVar 0)) (gCons (g2 fIx (gVar 1) (gC (.int 1))) gNil)))) gNx)
 (gRet (gOrV (g2 (fEq false) (g2 fIx (gVar 1) (gC (.int 0))) (gC (.int 0))) (gN (gCall 2 K53.F_law_same) (gCons (gXF ["NoPoint"] "point" (gVar 0)) (gCons (g2 fIx (gVar 1) (gC (.int 1))) gNil)))))))))
noncomputable def F_law_is (as : List S) : M R := fin (g_law_is (startE N_law_is as))
noncomputable def N_law_number : List Str := ["_law_cell_here", "_law_least", "_law_greatest", "_law_some"]
noncomputable def g_law_number : G O := (gSeq (gIfS (gTr (g2 (fEq true) (g2 fMod (gVar 0) (gC (.int 3))) (gC (.int 1)))) (gRet (g2 fPlus (gVar 1) (g2 fMod (g2 fDiv (gVar 0) (gC (.int 3))) (g2 fPlus (g2 fSub (gVar 2) (gVar 1)) (gC (.int 1)))))) gNx)
 (gSeq (gSet 3 (gLst (gDCons (g2 fSub (gVar 1) (gC (.int 1))) (gDCons (g2 fPlus (gVar 2) (gC (.int 1))) (gDCons (gC (.bl true)) (gDCons (gC (.bl false)) (gDCons (gC .non) (gDCons (gC (.str "1")) (gDCons (g2 fPlus (g2 fPlus (gVar 2) (gC (.int 1))) (g2 fMod (g2 fDiv (gVar 0) (gC (.int 27))) (g2 fPow (gC (.int 10)) (gC (.int 30))))) (gDCons (gTup (gDCons (gVar 1) gDNil)) (gDCons (gLst (gDCons (gVar 1) gDNil)) gDNil)))))))))))
 (gRet (g2 fIx (gVar 3) (g2 fMod (g2 fDiv (gVar 0) (gC (.int 3))) (gC (.int 9)))))))
noncomputable def F_law_number (as : List S) : M R := fin (g_law_number (startE N_law_number as))
noncomputable def N_law_count_due : List Str := ["_law_thing", "_law_least", "_law_greatest"]
noncomputable def g_law_count_due : G O := (gSeq (gIfS (gOr (gTr (gN (gCall 2 K53.F_law_same) (gCons (gVar 0) (gCons (gC (.bl true)) gNil)))) (gOr (gTr (gN (gCall 2 K53.F_law_same) (gCons (gVar 0) (gCons (gC (.bl false)) gNil)))) (gNot (gTr (gIs "int" (gVar 0)))))) (gRet (gTup (gDCons (gC (.int 2)) (gDCons (gVar 0) gDNil)))) gNx)
 (gSeq (gIfS (gOr (gTr (g2 (fI0 fun i j => .bl (decide (i < j))) (gVar 0) (gVar 1))) (gTr (g2 (fI0 fun i j => .bl (decide (j < i))) (gVar 0) (gVar 2)))) (gRet (gTup (gDCons (gC (.int 2)) (gDCons (gVar 0) gDNil)))) gNx)
 (gRet (gC .non))))
noncomputable def F_law_count_due (as : List S) : M R := fin (g_law_count_due (startE N_law_count_due as))
noncomputable def N_law_told : List Str := ["_law_script", "_law_world_here", "_law_depth", "_law_way"]
noncomputable def g_law_told : G O := (gSeq (gSet 3 (g2 fMod (gN (gCall 2 K51.F_law_cell) (gCons (gVar 0) (gCons (gC (.int 10)) gNil))) (gC (.int 4))))
 (gSeq (gIfS (gTr (g2 (fEq false) (gVar 3) (gC (.int 0)))) (gRet (gN (gCallX 2 (fun as => K51.Fkind (as ++ [.d .non]))) (gCons (gVar 1) (gCons (gVar 2) gNil)))) gNx)
 (gSeq (gIfS (gTr (g2 (fEq false) (gVar 3) (gC (.int 1)))) (gRet (gN (gCallX 3 K51.Fkind) (gCons (gVar 1) (gCons (gVar 2) (gCons (gC .non) gNil))))) gNx)
 (gSeq (gIfS (gTr (g2 (fEq false) (gVar 3) (gC (.int 2)))) (gRet (gN (gCallX 3 K51.Fkind) (gCons (gVar 1) (gCons (gVar 2) (gCons (gTup gDNil) gNil))))) gNx)
 (gRet (gN (gCallX 3 K51.Fkind) (gCons (gVar 1) (gCons (gVar 2) (gCons (gN (gCall 4 K51.F_law_row) (gCons (gVar 0) (gCons (gC (.int 11)) (gCons (g2 fIx (gVar 1) (gC (.int 0))) (gCons (gC (.int 4)) gNil))))) gNil)))))))))
noncomputable def F_law_told (as : List S) : M R := fin (g_law_told (startE N_law_told as))
noncomputable def Nlaw : List Str := ["_law_script", "_law_world_here", "_law_depth", "_law_due", "_law_power", "_law_k", "_law_caught", "_law_found", "_law_e"]
noncomputable def glaw : G O := (gSeq (gSet 1 (gN (gCall 3 K51.F_law_one) (gCons (gVar 0) (gCons (gLst (gDCons (gC (.int 2)) (gDCons (gC (.int 8)) (gDCons (gC (.int 1)) (gDCons (gC (.int 4)) (gDCons (gC (.int 3)) (gDCons (gC (.int 5)) (gDCons (gC (.int 6)) (gDCons (gC (.int 7)) gDNil))))))))) (gCons (gC (.int 0)) gNil)))))
 (gSeq (gSet 2 (gN (gCall 3 K53.F_law_number) (gCons (gN (gCall 2 K51.F_law_cell) (gCons (gVar 0) (gCons (gC (.int 9)) gNil))) (gCons (gC (.int 0)) (gCons (gC (.int 6)) gNil)))))
 (gSeq (gSet 3 (gN (gCall 3 K53.F_law_count_due) (gCons (gVar 2) (gCons (gC (.int 0)) (gCons (gC (.int 6)) gNil)))))
 (gSeq (gSet 4 (gC (.int 1)))
 (gSeq (gIfS (gTr (g2 (fIs false) (gVar 3) (gC .non))) (gSeq (gFor (gRng1 (gCons (gVar 2) gNil)) (tgName 5) (gSet 4 (g2 fTimes (gVar 4) (g2 fIx (gVar 1) (gC (.int 0))))))
 (gIfS (gTr (g2 (fI0 fun i j => .bl (decide (j < i))) (gVar 4) (gC (.int 600)))) (gSet 3 (gTup (gDCons (gC (.int 1)) (gDCons (gVar 4) gDNil)))) gNx)) gNx)
 (gSeq (gSet 6 (gC .non))
 (gSeq (gSet 7 (gC .non))
 (gSeq (gTry 8 6 XL (gSet 7 (gN (gCallX 3 K53.F_law_told) (gCons (gVar 0) (gCons (gVar 1) (gCons (gVar 2) gNil))))))
 (gRet (gAndV (gN (gCall 2 K53.F_law_is) (gCons (gVar 6) (gCons (gVar 3) gNil))) (gOrV (g2 (fIs true) (gVar 3) (gC .non)) (gIs "tuple" (gVar 7)))))))))))))
noncomputable def Flaw (as : List S) : M R := fin (glaw (startE Nlaw as))
end K53
set_option Elab.async false
set_option linter.all false
set_option maxRecDepth 100000
set_option maxHeartbeats 4000000
namespace K53
open PySem PySem.Spec PyProof.Rows L2 DL DX
structure Blt (w : World) (K : PySem.W.Frag) (mg : Str → Option Value) : Prop where
  ValueError : mg "ValueError" = none
  bool : mg "bool" = none
  int : mg "int" = none
  isinstance : mg "isinstance" = none
  len : mg "len" = none
  range : mg "range" = none
  sorted : mg "sorted" = none
  tuple : mg "tuple" = none
  MOST_DEPTH : GlobD K mg "MOST_DEPTH" (.int 6)
  MOST_POWER : GlobD K mg "MOST_POWER" (.int 600)
  xall : XAll K mg XL
  xf_told : XFl K "NoCount" "told"
  xf_point : XFl K "NoPoint" "point"
  xf_many : XFl K "TooMany" "many"
end K53
set_option Elab.async false
set_option linter.all false
set_option maxRecDepth 100000
set_option maxHeartbeats 4000000
namespace K53
open PySem PySem.Spec PyProof.Rows L2 DL DX
section
variable {P : Program} {w : World} {K : PySem.W.Frag} {mg : Str → Option Value} {base : Heap} {f : Addr} {fd : FuncData}
noncomputable abbrev sis_whole : Stmt := top 13
theorem scis_whole : FnScope ["thing"] ["thing"] (defScope sis_whole) := ⟨rfl, rfl, rfl, by decide +kernel, rfl, by decide +kernel, by decide +kernel⟩
theorem calis_whole (m : Blt w K mg)  (F : Fun K "is_whole" "is_whole" sis_whole f fd) (hm : mg "is_whole" = some (.ref f)) : Cal P w K mg base 1 1 "is_whole" K01.Fis_whole :=
  have sc := scis_whole
  qcal_of (k := 0) (gB := K01.gis_whole) F hm sc (fun _ _ _ _ _ _ us hl => match us, hl with | [_], _ => rfl) (fun cdv A outer s H E J T hr =>
 (qpds_one (qpd1_ret (qpd_and (qpd_isinst kit_int boot_int_ m.int (qpd_var 0) m.isinstance) (qpd_and1 (qpd_not (qpd_isinst kit_bool boot_bool_ m.bool (qpd_var 0) m.isinstance))))))) (fun as r _ h => h)
end
end K53
set_option Elab.async false
set_option linter.all false
set_option maxRecDepth 100000
set_option maxHeartbeats 4000000
namespace K53
open PySem PySem.Spec PyProof.Rows L2 DL DX
section
variable {P : Program} {w : World} {K : PySem.W.Frag} {mg : Str → Option Value} {base : Heap} {f : Addr} {fd : FuncData}
noncomputable abbrev sneed_count : Stmt := top 15
theorem scneed_count : FnScope ["told", "least", "most"] ["told", "least", "most"] (defScope sneed_count) := ⟨rfl, rfl, rfl, by decide +kernel, rfl, by decide +kernel, by decide +kernel⟩
theorem calneed_count (m : Blt w K mg) (his_whole : Cal P w K mg base 1 1 "is_whole" K01.Fis_whole) (rNoCount : RCls P w K mg base 1 "NoCount" "told") (F : Fun K "need_count" "need_count" sneed_count f fd) (hm : mg "need_count" = some (.ref f)) : CalX P w K mg base 3 3 "need_count" K51.Fneed_count :=
  have sc := scneed_count
  qcalX_of (k := 2) (gB := K51.gneed_count) F hm sc (fun _ _ _ _ _ _ us hl => match us, hl with | [_, _, _], _ => rfl) (fun cdv A outer s H E J hr =>
 (qpds_one (qpd1_if (qPBw_pb (qpb_or (qpb_not (qpb_val (qpd_cal his_whole hr (qpa_cons' (qpd_var 0) qpa_nil')))) (qpb_or (qpb_cmp op_lt (bd_I0 fun _ _ _ => .bl _) (qpd_var 0) (qpd_var 1)) (qpb_or1 (qpb_cmp op_gt (bd_I0 fun _ _ _ => .bl _) (qpd_var 0) (qpd_var 2)))))) (qpds_one (qpd1_rse rNoCount xok_cx hr (qpad_cons (qpd_var 0) qpad_nil))) qpds_nil))) (fun _ _ _ => rfl)
end
end K53
set_option Elab.async false
set_option linter.all false
set_option maxRecDepth 100000
set_option maxHeartbeats 4000000
namespace K53
open PySem PySem.Spec PyProof.Rows L2 DL DX
section
variable {P : Program} {w : World} {K : PySem.W.Frag} {mg : Str → Option Value} {base : Heap} {f : Addr} {fd : FuncData}
noncomputable abbrev spower : Stmt := top 19
theorem scpower : FnScope ["many", "depth", "told", "step"] ["many", "depth"] (defScope spower) := ⟨rfl, rfl, rfl, by decide +kernel, rfl, by decide +kernel, by decide +kernel⟩
theorem calpower (m : Blt w K mg)  (F : Fun K "power" "power" spower f fd) (hm : mg "power" = some (.ref f)) : Cal P w K mg base 1 2 "power" K51.Fpower :=
  have sc := scpower
  qcal_of (k := 0) (gB := K51.gpower) F hm sc (fun _ _ _ _ _ _ us hl => match us, hl with | [_, _], _ => rfl) (fun cdv A outer s H E J T hr =>
 (qpds_cons (qpd1_set 2 sc.nd qpd_int)
 (qpds_cons (qpd1_for (qpit_range1 (qpa_cons' (qpd_var 1) qpa_nil') m.range) (qptg_name 3 sc.nd) (qpds_one (qpd1_augM 2 sc.nd (qpd_var 0))))
 (qpds_one (qpd1_ret (qpd_var 2)))))) (fun as r _ h => h)
end
end K53
set_option Elab.async false
set_option linter.all false
set_option maxRecDepth 100000
set_option maxHeartbeats 4000000
namespace K53
open PySem PySem.Spec PyProof.Rows L2 DL DX
section
variable {P : Program} {w : World} {K : PySem.W.Frag} {mg : Str → Option Value} {base : Heap} {f : Addr} {fd : FuncData}
noncomputable abbrev ssorted_once : Stmt := top 20
theorem scsorted_once : FnScope ["told", "kept", "one"] ["told"] (defScope ssorted_once) := ⟨rfl, rfl, rfl, by decide +kernel, rfl, by decide +kernel, by decide +kernel⟩
theorem calsorted_once (m : Blt w K mg)  (F : Fun K "sorted_once" "sorted_once" ssorted_once f fd) (hm : mg "sorted_once" = some (.ref f)) : Cal P w K mg base 1 1 "sorted_once" K51.Fsorted_once :=
  have sc := scsorted_once
  qcal_of (k := 0) (gB := K51.gsorted_once) F hm sc (fun _ _ _ _ _ _ us hl => match us, hl with | [_], _ => rfl) (fun cdv A outer s H E J T hr =>
 (qpds_cons (qpd1_set 1 sc.nd (qpd_lst qpad_nil))
 (qpds_cons (qpd1_for (qpit_any (qpd_sortT hr.units (qpa_cons' (qpd_var 0) qpa_nil') m.sorted)) (qptg_name 2 sc.nd) (qpds_one (qpd1_if (qPBw_pb (qpb_or (qpb_not (qpb_tru (qpd_var 1))) (qpb_or1 (qpb_ne hr.units (qpd_index (qpd_var 1) (qpd_neg qpd_int)) (qpd_var 2))))) (qpds_one (qpd1_append 1 (qpd_var 2))) qpds_nil)))
 (qpds_one (qpd1_ret (qpd_tuple (qpa_cons' (qpd_var 1) qpa_nil') m.tuple)))))) (fun as r _ h => h)
end
end K53
set_option Elab.async false
set_option linter.all false
set_option maxRecDepth 100000
set_option maxHeartbeats 4000000
namespace K53
open PySem PySem.Spec PyProof.Rows L2 DL DX
section
variable {P : Program} {w : World} {K : PySem.W.Frag} {mg : Str → Option Value} {base : Heap} {f : Addr} {fd : FuncData}
noncomputable abbrev sface_of : Stmt := top 21
theorem scface_of : FnScope ["world", "row", "ahead", "last", "many", "marks", "arrows", "same", "bearing", "loops", "outward", "inward"] ["world", "row"] (defScope sface_of) := ⟨rfl, rfl, rfl, by decide +kernel, rfl, by decide +kernel, by decide +kernel⟩
theorem calface_of (m : Blt w K mg)  (F : Fun K "face_of" "face_of" sface_of f fd) (hm : mg "face_of" = some (.ref f)) : Cal P w K mg base 1 2 "face_of" K51.Fface_of :=
  have sc := scface_of
  qcal_of (k := 0) (gB := K51.gface_of) F hm sc (fun _ _ _ _ _ _ us hl => match us, hl with | [_, _], _ => rfl) (fun cdv A outer s H E J T hr =>
 (qpds_cons (qpd1_if (qpb_eq hr.units (qpd_len (qpa_cons' (qpd_var 1) qpa_nil') m.len) qpd_int) (qpds_one (qpd1_ret (qpd_tup qpad_nil))) qpds_nil)
 (qpds_cons (qpd1_star (qpd_var 1) (qptgs_cons (qptg_name 2 sc.nd) (qptgs_cons (qptg_name 3 sc.nd) qptgs_nil)))
 (qpds_cons (qpd1_tup (qpd_var 0) (qptg_tup (qptgs_cons (qptg_name 4 sc.nd) (qptgs_cons (qptg_name 5 sc.nd) (qptgs_cons (qptg_name 6 sc.nd) qptgs_nil)))))
 (qpds_cons (qpd1_set 7 sc.nd (qpd_tuple (qpa_cons' (qpd_comp ["point"] [3] (qpic_any (qpd_var 2)) (fun _ _ _ _ _ hc => ⟨(qptg_name 0 (nodS rfl)), qpifs_nil, (qpd_eq hr.units (qpd_var 0) (qpd_var 1))⟩)) qpa_nil') m.tuple))
 (qpds_cons (qpd1_set 8 sc.nd (qpd_tuple (qpa_cons' (qpd_comp ["name", "points"] [3] (qpic_any (qpd_var 5)) (fun _ _ _ _ _ hc => ⟨(qptg_tup (qptgs_cons (qptg_name 0 (nodS rfl)) (qptgs_cons (qptg_name 1 (nodS rfl)) qptgs_nil))), qpifs_nil, (qpd_in hr.units (qpd_var 2) (qpd_var 1))⟩)) qpa_nil') m.tuple))
 (qpds_cons (qpd1_set 9 sc.nd (qpd_tuple (qpa_cons' (qpd_comp ["name", "pairs"] [3] (qpic_any (qpd_var 6)) (fun _ _ _ _ _ hc => ⟨(qptg_tup (qptgs_cons (qptg_name 0 (nodS rfl)) (qptgs_cons (qptg_name 1 (nodS rfl)) qptgs_nil))), qpifs_nil, (qpd_in hr.units (qpd_tup (qpad_cons (qpd_var 2) (qpad_cons (qpd_var 2) qpad_nil))) (qpd_var 1))⟩)) qpa_nil') m.tuple))
 (qpds_cons (qpd1_set 10 sc.nd (qpd_tuple (qpa_cons' (qpd_comp2 ["name", "pairs"] [2, 3] (qpic_any (qpd_var 6)) (fun _ _ _ _ _ hc => ⟨(qptg_tup (qptgs_cons (qptg_name 0 (nodS rfl)) (qptgs_cons (qptg_name 1 (nodS rfl)) qptgs_nil))), qpifs_nil, (qpd_tuple (qpa_cons' (qpd_comp ["point"] [3, 1] (qpic_any (qpd_var 2)) (fun _ _ _ _ _ hc => ⟨(qptg_name 0 (nodS rfl)), qpifs_nil, (qpd_in hr.units (qpd_tup (qpad_cons (qpd_var 1) (qpad_cons (qpd_var 0) qpad_nil))) (qpd_var 2))⟩) (hcl := cls_in2 hc rfl)) qpa_nil') m.tuple)⟩)) qpa_nil') m.tuple))
 (qpds_cons (qpd1_set 11 sc.nd (qpd_tuple (qpa_cons' (qpd_comp2 ["name", "pairs"] [2, 3] (qpic_any (qpd_var 6)) (fun _ _ _ _ _ hc => ⟨(qptg_tup (qptgs_cons (qptg_name 0 (nodS rfl)) (qptgs_cons (qptg_name 1 (nodS rfl)) qptgs_nil))), qpifs_nil, (qpd_tuple (qpa_cons' (qpd_comp ["point"] [3, 1] (qpic_any (qpd_var 2)) (fun _ _ _ _ _ hc => ⟨(qptg_name 0 (nodS rfl)), qpifs_nil, (qpd_in hr.units (qpd_tup (qpad_cons (qpd_var 0) (qpad_cons (qpd_var 1) qpad_nil))) (qpd_var 2))⟩) (hcl := cls_in2 hc rfl)) qpa_nil') m.tuple)⟩)) qpa_nil') m.tuple))
 (qpds_one (qpd1_ret (qpd_tup (qpad_cons (qpd_var 7) (qpad_cons (qpd_var 8) (qpad_cons (qpd_var 9) (qpad_cons (qpd_var 10) (qpad_cons (qpd_var 11) qpad_nil))))))))))))))))) (fun as r _ h => h)
end
end K53
set_option Elab.async false
set_option linter.all false
set_option maxRecDepth 100000
set_option maxHeartbeats 4000000
namespace K53
open PySem PySem.Spec PyProof.Rows L2 DL DX
section
variable {P : Program} {w : World} {K : PySem.W.Frag} {mg : Str → Option Value} {base : Heap} {f : Addr} {fd : FuncData}
noncomputable abbrev skind_of : Stmt := top 22
theorem sckind_of : FnScope ["world", "depth", "row", "face"] ["world", "depth", "row"] (defScope skind_of) := ⟨rfl, rfl, rfl, by decide +kernel, rfl, by decide +kernel, by decide +kernel⟩
theorem calkind_of (m : Blt w K mg) (hface_of : Cal P w K mg base 1 2 "face_of" K51.Fface_of) (hsorted_once : Cal P w K mg base 1 1 "sorted_once" K51.Fsorted_once) (F : Fun K "kind_of" "kind_of" skind_of f fd) (hm : mg "kind_of" = some (.ref f)) : ∀ fu : Nat, Cal P w K mg base (1 + fu) 3 "kind_of" (K51.Fkind_of fu)
  | 0 => cal_bad (ps := ["world", "depth", "row"]) F hm (fun _ _ _ _ _ _ us hl => match us, hl with | [_, _, _], _ => rfl) (fun _ => rfl)
  | fu + 1 =>
    have sc := sckind_of
    have hself := calkind_of m hface_of hsorted_once F hm fu
    qcal_of (k := 1 + fu) (gB := K51.gkind_of (K51.Fkind_of fu)) F hm sc (fun _ _ _ _ _ _ us hl => match us, hl with | [_, _, _], _ => rfl) (fun cdv A outer s H E J T hr =>
 (qpds_cons (qpd1_set 3 sc.nd (qpd_cal hface_of hr (qpa_cons' (qpd_var 0) (qpa_cons' (qpd_var 2) qpa_nil')) (by omega)))
 (qpds_cons (qpd1_if (qpb_eq hr.units (qpd_var 1) qpd_int) (qpds_one (qpd1_ret (qpd_tup (qpad_cons (qpd_var 3) (qpad_cons (qpd_tup qpad_nil) qpad_nil))))) qpds_nil)
 (qpds_one (qpd1_ret (qpd_tup (qpad_cons (qpd_var 3) (qpad_cons (qpd_cal hsorted_once hr (qpa_cons' (qpd_comp ["point"] [0, 1, 2] (qPIt_pic (qpit_range1 (qpa_cons' (qpd_index (qpd_var 0) qpd_int) qpa_nil') m.range)) (fun _ _ _ _ _ hc => ⟨(qptg_name 0 (nodS rfl)), qpifs_nil, (qpd_cal hself hr (qpa_cons' (qpd_var 1) (qpa_cons' (qpd_sub (qpd_var 2) qpd_int) (qpa_cons' (qpd_add4 (qpd_var 3) (qpd_tup (qpad_cons (qpd_var 0) qpad_nil))) qpa_nil'))) (by omega))⟩)) qpa_nil') (by omega)) qpad_nil)))))))) (fun as r _ h => h)
end
end K53
set_option Elab.async false
set_option linter.all false
set_option maxRecDepth 100000
set_option maxHeartbeats 4000000
namespace K53
open PySem PySem.Spec PyProof.Rows L2 DL DX
section
variable {P : Program} {w : World} {K : PySem.W.Frag} {mg : Str → Option Value} {base : Heap} {f : Addr} {fd : FuncData}
noncomputable abbrev skind : Stmt := top 23
theorem sckind : FnScope ["world", "depth", "row", "many"] ["world", "depth", "row"] (defScope skind) := ⟨rfl, rfl, rfl, by decide +kernel, rfl, by decide +kernel, by decide +kernel⟩
theorem fokkind (m : Blt w K mg) (hneed_count : CalX P w K mg base 3 3 "need_count" K51.Fneed_count) (hpower : Cal P w K mg base 1 2 "power" K51.Fpower) (hkind_of : Cal P w K mg base 11 3 "kind_of" (K51.Fkind_of 10)) (rTooMany : RCls P w K mg base 1 "TooMany" "many") (F : FunD K "kind" "kind" skind f fd) : FnOk P w K mg base (CXX P w) 12 f fd ["world", "depth", "row"] (spX K 3 K51.Fkind) :=
  have sc := sckind
  fn_okXD (k := 11) (gB := K51.gkind) F sc (fun cdv A outer s H E J hr => QDs.h (
 (qpds_cons (qpd1_expr (qpd_calX hneed_count xok_cx hr (qpa_cons' (qpd_var 1) (qpa_cons' qpd_int (qpa_cons' (qpd_globD m.MOST_DEPTH) qpa_nil')))))
 (qpds_cons (qpd1_set 3 sc.nd (qpd_cal hpower hr (qpa_cons' (qpd_index (qpd_var 0) qpd_int) (qpa_cons' (qpd_var 1) qpa_nil'))))
 (qpds_cons (qpd1_if (qpb_cmp op_gt (bd_I0 fun _ _ _ => .bl _) (qpd_var 3) (qpd_globD m.MOST_POWER)) (qpds_one (qpd1_rse rTooMany xok_cx hr (qpad_cons (qpd_var 3) qpad_nil))) qpds_nil)
 (qpds_one (qpd1_ret (qpd_cal hkind_of hr (qpa_cons' (qpd_var 0) (qpa_cons' (qpd_var 1) (qpa_cons' (qpd_ife (qpb_is (qpd_var 2) qpd_non) (qpd_tup qpad_nil) (qpd_var 2)) qpa_nil'))))))))))) (fun _ _ _ => rfl)
theorem calkind (G : FnOk P w K mg base (CXX P w) 12 f fd ["world", "depth", "row"] (spX K 3 K51.Fkind)) (F : FunD K "kind" "kind" skind f fd) (hm : mg "kind" = some (.ref f)) : CalX P w K mg base 12 3 "kind" K51.Fkind := ⟨f, fd, ["world", "depth", "row"], G, hm, F.kp, F.bindsAll (fun T kV doc pm an cdv ct us hl => match us, hl with | [_, _, _], _ => ⟨_, rfl, rfl⟩)⟩
theorem caldkind (G : FnOk P w K mg base (CXX P w) 12 f fd ["world", "depth", "row"] (spX K 3 K51.Fkind)) (F : FunD K "kind" "kind" skind f fd) (hm : mg "kind" = some (.ref f)) : CalD P w K mg base 12 2 "kind" K51.Fkind := ⟨f, fd, ["world", "depth", "row"], G, hm, F.kp, F.bindsOne (fun T kV doc pm an cdv ct us hl => match us, hl with | [_, _], _ => ⟨_, rfl, rfl⟩)⟩
end
end K53
set_option Elab.async false
set_option linter.all false
set_option maxRecDepth 100000
set_option maxHeartbeats 4000000
namespace K53
open PySem PySem.Spec PyProof.Rows L2 DL DX
section
variable {P : Program} {w : World} {K : PySem.W.Frag} {mg : Str → Option Value} {base : Heap} {f : Addr} {fd : FuncData}
noncomputable abbrev s_law_cell : Stmt := top 25
theorem sc_law_cell : FnScope ["_law_script", "_law_k"] ["_law_script", "_law_k"] (defScope s_law_cell) := ⟨rfl, rfl, rfl, by decide +kernel, rfl, by decide +kernel, by decide +kernel⟩
theorem cal_law_cell (m : Blt w K mg)  (F : Fun K "_law_cell" "_law_cell" s_law_cell f fd) (hm : mg "_law_cell" = some (.ref f)) : Cal P w K mg base 1 2 "_law_cell" K51.F_law_cell :=
  have sc := sc_law_cell
  qcal_of (k := 0) (gB := K51.g_law_cell) F hm sc (fun _ _ _ _ _ _ us hl => match us, hl with | [_, _], _ => rfl) (fun cdv A outer s H E J T hr =>
 (qpds_cons (qpd1_if (qpb_cmp op_lt (bd_I0 fun _ _ _ => .bl _) (qpd_var 1) (qpd_len (qpa_cons' (qpd_var 0) qpa_nil') m.len)) (qpds_one (qpd1_ret (qpd_mod (qpd_index (qpd_var 0) (qpd_var 1)) (qpd_pow qpd_int qpd_int)))) qpds_nil)
 (qpds_one (qpd1_ret qpd_int)))) (fun as r _ h => h)
end
end K53
set_option Elab.async false
set_option linter.all false
set_option maxRecDepth 100000
set_option maxHeartbeats 4000000
namespace K53
open PySem PySem.Spec PyProof.Rows L2 DL DX
section
variable {P : Program} {w : World} {K : PySem.W.Frag} {mg : Str → Option Value} {base : Heap} {f : Addr} {fd : FuncData}
noncomputable abbrev s_law_names : Stmt := top 26
theorem sc_law_names : FnScope ["_law_cell_here", "_law_many", "_law_letters", "_law_sign", "_law_stem", "_law_found", "_law_k", "_law_other", "_law_name"] ["_law_cell_here", "_law_many"] (defScope s_law_names) := ⟨rfl, rfl, rfl, by decide +kernel, rfl, by decide +kernel, by decide +kernel⟩
theorem cal_law_names (m : Blt w K mg)  (F : Fun K "_law_names" "_law_names" s_law_names f fd) (hm : mg "_law_names" = some (.ref f)) : Cal P w K mg base 1 2 "_law_names" K51.F_law_names :=
  have sc := sc_law_names
  qcal_of (k := 0) (gB := K51.g_law_names) F hm sc (fun _ _ _ _ _ _ us hl => match us, hl with | [_, _], _ => rfl) (fun cdv A outer s H E J T hr =>
 (qpds_cons (qpd1_set 2 sc.nd qpd_str)
 (qpds_cons (qpd1_set 3 sc.nd (qpd_index (qpd_var 2) (qpd_mod (qpd_div (qpd_var 0) qpd_int) qpd_int)))
 (qpds_cons (qpd1_set 4 sc.nd (qpd_times (qpd_var 3) (qpd_plus qpd_int (qpd_mod (qpd_div (qpd_var 0) qpd_int) qpd_int))))
 (qpds_cons (qpd1_set 5 sc.nd (qpd_lst qpad_nil))
 (qpds_cons (qpd1_for (qpit_range1 (qpa_cons' (qpd_var 1) qpa_nil') m.range) (qptg_name 6 sc.nd) (qpds_cons (qpd1_set 7 sc.nd (qpd_index (qpd_var 2) (qpd_mod (qpd_plus (qpd_div (qpd_var 0) qpd_int) (qpd_times qpd_int (qpd_var 6))) qpd_int)))
 (qpds_cons (qpd1_set 8 sc.nd (qpd_index (qpd_lst (qpad_cons (qpd_plus (qpd_var 4) (qpd_var 7)) (qpad_cons (qpd_plus (qpd_var 7) (qpd_var 4)) (qpad_cons (qpd_times (qpd_var 3) (qpd_plus (qpd_var 6) qpd_int)) qpad_nil)))) (qpd_mod (qpd_var 0) qpd_int)))
 (qpds_cons (qpd1_if (qpb_eq hr.units (qpd_var 8) qpd_str) (qpds_one (qpd1_set 8 sc.nd qpd_str)) qpds_nil)
 (qpds_one (qpd1_append 5 (qpd_var 8)))))))
 (qpds_one (qpd1_ret (qpd_sorted (qpa_cons' (qpd_var 5) qpa_nil') m.sorted))))))))) (fun as r _ h => h)
end
end K53
set_option Elab.async false
set_option linter.all false
set_option maxRecDepth 100000
set_option maxHeartbeats 4000000
namespace K53
open PySem PySem.Spec PyProof.Rows L2 DL DX
section
variable {P : Program} {w : World} {K : PySem.W.Frag} {mg : Str → Option Value} {base : Heap} {f : Addr} {fd : FuncData}
noncomputable abbrev s_law_bits : Stmt := top 27
theorem sc_law_bits : FnScope ["_law_cell_here", "_law_size", "_law_found", "_law_k"] ["_law_cell_here", "_law_size"] (defScope s_law_bits) := ⟨rfl, rfl, rfl, by decide +kernel, rfl, by decide +kernel, by decide +kernel⟩
theorem cal_law_bits (m : Blt w K mg)  (F : Fun K "_law_bits" "_law_bits" s_law_bits f fd) (hm : mg "_law_bits" = some (.ref f)) : Cal P w K mg base 1 2 "_law_bits" K51.F_law_bits :=
  have sc := sc_law_bits
  qcal_of (k := 0) (gB := K51.g_law_bits) F hm sc (fun _ _ _ _ _ _ us hl => match us, hl with | [_, _], _ => rfl) (fun cdv A outer s H E J T hr =>
 (qpds_cons (qpd1_set 2 sc.nd (qpd_lst qpad_nil))
 (qpds_cons (qpd1_for (qpit_range1 (qpa_cons' (qpd_var 1) qpa_nil') m.range) (qptg_name 3 sc.nd) (qpds_cons (qpd1_append 2 (qpd_eq hr.units (qpd_mod (qpd_var 0) qpd_int) qpd_int))
 (qpds_one (qpd1_set 0 sc.nd (qpd_div (qpd_var 0) qpd_int)))))
 (qpds_one (qpd1_ret (qpd_var 2)))))) (fun as r _ h => h)
end
end K53
set_option Elab.async false
set_option linter.all false
set_option maxRecDepth 100000
set_option maxHeartbeats 4000000
namespace K53
open PySem PySem.Spec PyProof.Rows L2 DL DX
section
variable {P : Program} {w : World} {K : PySem.W.Frag} {mg : Str → Option Value} {base : Heap} {f : Addr} {fd : FuncData}
noncomputable abbrev s_law_world : Stmt := top 28
theorem sc_law_world : FnScope ["_law_names_here", "_law_many", "_law_cells", "_law_marks", "_law_k", "_law_bits_here", "_law_arrows"] ["_law_names_here", "_law_many", "_law_cells"] (defScope s_law_world) := ⟨rfl, rfl, rfl, by decide +kernel, rfl, by decide +kernel, by decide +kernel⟩
theorem cal_law_world (m : Blt w K mg) (h_law_bits : Cal P w K mg base 1 2 "_law_bits" K51.F_law_bits) (F : Fun K "_law_world" "_law_world" s_law_world f fd) (hm : mg "_law_world" = some (.ref f)) : Cal P w K mg base 2 3 "_law_world" K51.F_law_world :=
  have sc := sc_law_world
  qcal_of (k := 1) (gB := K51.g_law_world) F hm sc (fun _ _ _ _ _ _ us hl => match us, hl with | [_, _, _], _ => rfl) (fun cdv A outer s H E J T hr =>
 (qpds_cons (qpd1_set 3 sc.nd (qpd_lst qpad_nil))
 (qpds_cons (qpd1_for (qpit_range1 (qpa_cons' (qpd_len (qpa_cons' (qpd_index (qpd_var 0) qpd_int) qpa_nil') m.len) qpa_nil') m.range) (qptg_name 4 sc.nd) (qpds_cons (qpd1_set 5 sc.nd (qpd_cal h_law_bits hr (qpa_cons' (qpd_index (qpd_var 2) (qpd_var 4)) (qpa_cons' (qpd_var 1) qpa_nil'))))
 (qpds_one (qpd1_append 3 (qpd_tup (qpad_cons (qpd_index (qpd_index (qpd_var 0) qpd_int) (qpd_var 4)) (qpad_cons (qpd_tuple (qpa_cons' (qpd_comp ["_law_p"] [5] (qPIt_pic (qpit_range1 (qpa_cons' (qpd_var 1) qpa_nil') m.range)) (fun _ _ _ _ _ hc => ⟨(qptg_name 0 (nodS rfl)), (qpifs_one (qpb_tru (qpd_index (qpd_var 1) (qpd_var 0)))), (qpd_var 0)⟩)) qpa_nil') m.tuple) qpad_nil)))))))
 (qpds_cons (qpd1_set 6 sc.nd (qpd_lst qpad_nil))
 (qpds_cons (qpd1_for (qpit_range1 (qpa_cons' (qpd_len (qpa_cons' (qpd_index (qpd_var 0) qpd_int) qpa_nil') m.len) qpa_nil') m.range) (qptg_name 4 sc.nd) (qpds_cons (qpd1_set 5 sc.nd (qpd_cal h_law_bits hr (qpa_cons' (qpd_index (qpd_var 2) (qpd_plus qpd_int (qpd_var 4))) (qpa_cons' (qpd_times (qpd_var 1) (qpd_var 1)) qpa_nil'))))
 (qpds_one (qpd1_append 6 (qpd_tup (qpad_cons (qpd_index (qpd_index (qpd_var 0) qpd_int) (qpd_var 4)) (qpad_cons (qpd_tuple (qpa_cons' (qpd_comp ["_law_p"] [5, 1] (qPIt_pic (qpit_range1 (qpa_cons' (qpd_times (qpd_var 1) (qpd_var 1)) qpa_nil') m.range)) (fun _ _ _ _ _ hc => ⟨(qptg_name 0 (nodS rfl)), (qpifs_one (qpb_tru (qpd_index (qpd_var 1) (qpd_var 0)))), (qpd_tup (qpad_cons (qpd_div (qpd_var 0) (qpd_var 2)) (qpad_cons (qpd_mod (qpd_var 0) (qpd_var 2)) qpad_nil)))⟩)) qpa_nil') m.tuple) qpad_nil)))))))
 (qpds_one (qpd1_ret (qpd_tup (qpad_cons (qpd_var 1) (qpad_cons (qpd_tuple (qpa_cons' (qpd_var 3) qpa_nil') m.tuple) (qpad_cons (qpd_tuple (qpa_cons' (qpd_var 6) qpa_nil') m.tuple) qpad_nil))))))))))) (fun as r _ h => h)
end
end K53
set_option Elab.async false
set_option linter.all false
set_option maxRecDepth 100000
set_option maxHeartbeats 4000000
namespace K53
open PySem PySem.Spec PyProof.Rows L2 DL DX
section
variable {P : Program} {w : World} {K : PySem.W.Frag} {mg : Str → Option Value} {base : Heap} {f : Addr} {fd : FuncData}
noncomputable abbrev s_law_one : Stmt := top 29
theorem sc_law_one : FnScope ["_law_script", "_law_sizes", "_law_at", "_law_first", "_law_second", "_law_marks", "_law_names_here"] ["_law_script", "_law_sizes", "_law_at"] (defScope s_law_one) := ⟨rfl, rfl, rfl, by decide +kernel, rfl, by decide +kernel, by decide +kernel⟩
theorem cal_law_one (m : Blt w K mg) (h_law_cell : Cal P w K mg base 1 2 "_law_cell" K51.F_law_cell) (h_law_names : Cal P w K mg base 1 2 "_law_names" K51.F_law_names) (h_law_world : Cal P w K mg base 2 3 "_law_world" K51.F_law_world) (F : Fun K "_law_one" "_law_one" s_law_one f fd) (hm : mg "_law_one" = some (.ref f)) : Cal P w K mg base 3 3 "_law_one" K51.F_law_one :=
  have sc := sc_law_one
  qcal_of (k := 2) (gB := K51.g_law_one) F hm sc (fun _ _ _ _ _ _ us hl => match us, hl with | [_, _, _], _ => rfl) (fun cdv A outer s H E J T hr =>
 (qpds_cons (qpd1_set 3 sc.nd (qpd_cal h_law_cell hr (qpa_cons' (qpd_var 0) (qpa_cons' (qpd_var 2) qpa_nil'))))
 (qpds_cons (qpd1_set 4 sc.nd (qpd_cal h_law_cell hr (qpa_cons' (qpd_var 0) (qpa_cons' (qpd_plus (qpd_var 2) qpd_int) qpa_nil'))))
 (qpds_cons (qpd1_set 5 sc.nd (qpd_cal h_law_names hr (qpa_cons' (qpd_div (qpd_var 4) qpd_int) (qpa_cons' (qpd_index (qpd_lst (qpad_cons qpd_int (qpad_cons qpd_int (qpad_cons qpd_int (qpad_cons qpd_int qpad_nil))))) (qpd_mod (qpd_var 4) qpd_int)) qpa_nil'))))
 (qpds_cons (qpd1_frz 5 (qpd1_set 6 sc.nd (qpd_tup (qpad_cons (qpd_var 5) (qpad_cons (qpd_cal h_law_names hr (qpa_cons' (qpd_cal h_law_cell hr (qpa_cons' (qpd_var 0) (qpa_cons' (qpd_plus (qpd_var 2) qpd_int) qpa_nil'))) (qpa_cons' (qpd_index (qpd_lst (qpad_cons qpd_int (qpad_cons qpd_int (qpad_cons qpd_int (qpad_cons qpd_int (qpad_cons qpd_int qpad_nil)))))) (qpd_mod (qpd_div (qpd_var 4) qpd_int) qpd_int)) qpa_nil'))) qpad_nil)))))
 (qpds_one (qpd1_ret (qpd_cal h_law_world hr (qpa_cons' (qpd_var 6) (qpa_cons' (qpd_index (qpd_var 1) (qpd_mod (qpd_var 3) qpd_int)) (qpa_cons' (qpd_comp ["_law_k"] [0, 2] (qPIt_pic (qpit_range1 (qpa_cons' qpd_int qpa_nil') m.range)) (fun _ _ _ _ _ hc => ⟨(qptg_name 0 (nodS rfl)), qpifs_nil, (qpd_cal h_law_cell hr (qpa_cons' (qpd_var 1) (qpa_cons' (qpd_plus (qpd_plus (qpd_var 2) qpd_int) (qpd_var 0)) qpa_nil')))⟩)) qpa_nil'))))))))))) (fun as r _ h => h)
end
end K53
set_option Elab.async false
set_option linter.all false
set_option maxRecDepth 100000
set_option maxHeartbeats 4000000
namespace K53
open PySem PySem.Spec PyProof.Rows L2 DL DX
section
variable {P : Program} {w : World} {K : PySem.W.Frag} {mg : Str → Option Value} {base : Heap} {f : Addr} {fd : FuncData}
noncomputable abbrev s_law_flags : Stmt := top 30
theorem sc_law_flags : FnScope ["_law_e", "_law_some"] ["_law_e"] (defScope s_law_flags) := ⟨rfl, rfl, rfl, by decide +kernel, rfl, by decide +kernel, by decide +kernel⟩
theorem cal_law_flags (m : Blt w K mg)  (F : Fun K "_law_flags" "_law_flags" s_law_flags f fd) (hm : mg "_law_flags" = some (.ref f)) : Cal P w K mg base 1 1 "_law_flags" K53.F_law_flags :=
  have sc := sc_law_flags
  qcal_of (k := 0) (gB := K53.g_law_flags) F hm sc (fun _ _ _ _ _ _ us hl => match us, hl with | [_], _ => rfl) (fun cdv A outer s H E J T hr =>
 (qpds_cons (qpd1_set 1 sc.nd (qpd_lst (qpad_cons (qpd_isC m.xall (by decide) (qpd_var 0) m.isinstance) (qpad_cons (qpd_isC m.xall (by decide) (qpd_var 0) m.isinstance) (qpad_cons (qpd_isC m.xall (by decide) (qpd_var 0) m.isinstance) (qpad_cons (qpd_isC m.xall (by decide) (qpd_var 0) m.isinstance) qpad_nil))))))
 (qpds_one (qpd1_ret (qpd_plus (qpd_var 1) (qpd_lst (qpad_cons (qpd_isT m.xall (nme_cons (nme_cons (nme_cons (nme_cons (nme_cons (nme_cons nme_nil)))))) (by decide) (qpd_var 0) m.isinstance) qpad_nil))))))) (fun as r _ h => h)
end
end K53
set_option Elab.async false
set_option linter.all false
set_option maxRecDepth 100000
set_option maxHeartbeats 4000000
namespace K53
open PySem PySem.Spec PyProof.Rows L2 DL DX
section
variable {P : Program} {w : World} {K : PySem.W.Frag} {mg : Str → Option Value} {base : Heap} {f : Addr} {fd : FuncData}
noncomputable abbrev s_law_same : Stmt := top 31
theorem sc_law_same : FnScope ["_law_thing", "_law_other"] ["_law_thing", "_law_other"] (defScope s_law_same) := ⟨rfl, rfl, rfl, by decide +kernel, rfl, by decide +kernel, by decide +kernel⟩
theorem cal_law_same (m : Blt w K mg)  (F : Fun K "_law_same" "_law_same" s_law_same f fd) (hm : mg "_law_same" = some (.ref f)) : Cal P w K mg base 1 2 "_law_same" K53.F_law_same :=
  have sc := sc_law_same
  qcal_of (k := 0) (gB := K53.g_law_same) F hm sc (fun _ _ _ _ _ _ us hl => match us, hl with | [_, _], _ => rfl) (fun cdv A outer s H E J T hr =>
 (qpds_cons (qpd1_if (qPBw_pb (qpb_or (qpb_ne hr.units (qpd_isinst kit_bool boot_bool_ m.bool (qpd_var 0) m.isinstance) (qpd_isinst kit_bool boot_bool_ m.bool (qpd_var 1) m.isinstance)) (qpb_or1 (qpb_ne hr.units (qpd_isinst kit_int boot_int_ m.int (qpd_var 0) m.isinstance) (qpd_isinst kit_int boot_int_ m.int (qpd_var 1) m.isinstance))))) (qpds_one (qpd1_ret qpd_bl)) qpds_nil)
 (qpds_one (qpd1_ret (qpd_eq hr.units (qpd_var 0) (qpd_var 1)))))) (fun as r _ h => h)
end
end K53
set_option Elab.async false
set_option linter.all false
set_option maxRecDepth 100000
set_option maxHeartbeats 4000000
namespace K53
open PySem PySem.Spec PyProof.Rows L2 DL DX
section
variable {P : Program} {w : World} {K : PySem.W.Frag} {mg : Str → Option Value} {base : Heap} {f : Addr} {fd : FuncData}
noncomputable abbrev s_law_is : Stmt := top 32
theorem sc_law_is : FnScope ["_law_caught", "_law_due"] ["_law_caught", "_law_due"] (defScope s_law_is) := ⟨rfl, rfl, rfl, by decide +kernel, rfl, by decide +kernel, by decide +kernel⟩
theorem cal_law_is (m : Blt w K mg) (h_law_flags : Cal P w K mg base 1 1 "_law_flags" K53.F_law_flags) (h_law_same : Cal P w K mg base 1 2 "_law_same" K53.F_law_same) (F : Fun K "_law_is" "_law_is" s_law_is f fd) (hm : mg "_law_is" = some (.ref f)) : Cal P w K mg base 2 2 "_law_is" K53.F_law_is :=
  have sc := sc_law_is
  qcal_of (k := 1) (gB := K53.g_law_is) F hm sc (fun _ _ _ _ _ _ us hl => match us, hl with | [_, _], _ => rfl) (fun cdv A outer s H E J T hr =>
 (qpds_cons (qpd1_if (qPBw_pb (qpb_or (qpb_is (qpd_var 1) qpd_non) (qpb_or1 (qpb_is (qpd_var 0) qpd_non)))) (qpds_one (qpd1_ret (qpd_and (qpd_is (qpd_var 1) qpd_non) (qpd_and1 (qpd_is (qpd_var 0) qpd_non))))) qpds_nil)
 (qpds_cons (qpd1_if (qPBw_pb (qpb_or (qpb_not (qpb_val (qpd_isV m.xall (qpd_var 0) m.ValueError m.isinstance))) (qpb_or1 (qpb_ne hr.units (qpd_cal h_law_flags hr (qpa_cons' (qpd_var 0) qpa_nil')) (qpd_comp ["_law_k"] [1] (qPIt_pic (qpit_range1 (qpa_cons' qpd_int qpa_nil') m.range)) (fun _ _ _ _ _ hc => ⟨(qptg_name 0 (nodS rfl)), qpifs_nil, (qpd_eq hr.units (qpd_index (qpd_var 1) qpd_int) (qpd_var 0))⟩)))))) (qpds_one (qpd1_ret qpd_bl)) qpds_nil)
 (qpds_cons (qpd1_if (qpb_eq hr.units (qpd_index (qpd_var 1) qpd_int) qpd_int) (qpds_one (qpd1_ret (qpd_cal h_law_same hr (qpa_cons' (qpd_xfld m.xf_many (qpd_var 0)) (qpa_cons' (qpd_index (qpd_var 1) qpd_int) qpa_nil'))))) qpds_nil)
 (qpds_cons (qpd1_if (qpb_eq hr.units (qpd_index (qpd_var 1) qpd_int) qpd_int) (qpds_one (qpd1_ret (qpd_cal h_law_same hr (qpa_cons' (qpd_xfld m.xf_told (qpd_var 0)) (qpa_cons' (qpd_index (qpd_var 1) qpd_int) qpa_nil'))))) qpds_nil)
 (qpds_one (qpd1_ret (qpd_or (qpd_eq hr.units (qpd_index (qpd_var 1) qpd_int) qpd_int) (qpd_and1 (qpd_cal h_law_same hr (qpa_cons' (qpd_xfld m.xf_point (qpd_var 0)) (qpa_cons' (qpd_index (qpd_var 1) qpd_int) qpa_nil')))))))))))) (fun as r _ h => h)
end
end K53
set_option Elab.async false
set_option linter.all false
set_option maxRecDepth 100000
set_option maxHeartbeats 4000000
namespace K53
open PySem PySem.Spec PyProof.Rows L2 DL DX
section
variable {P : Program} {w : World} {K : PySem.W.Frag} {mg : Str → Option Value} {base : Heap} {f : Addr} {fd : FuncData}
noncomputable abbrev s_law_number : Stmt := top 33
theorem sc_law_number : FnScope ["_law_cell_here", "_law_least", "_law_greatest", "_law_some"] ["_law_cell_here", "_law_least", "_law_greatest"] (defScope s_law_number) := ⟨rfl, rfl, rfl, by decide +kernel, rfl, by decide +kernel, by decide +kernel⟩
theorem cal_law_number (m : Blt w K mg)  (F : Fun K "_law_number" "_law_number" s_law_number f fd) (hm : mg "_law_number" = some (.ref f)) : Cal P w K mg base 1 3 "_law_number" K53.F_law_number :=
  have sc := sc_law_number
  qcal_of (k := 0) (gB := K53.g_law_number) F hm sc (fun _ _ _ _ _ _ us hl => match us, hl with | [_, _, _], _ => rfl) (fun cdv A outer s H E J T hr =>
 (qpds_cons (qpd1_if (qpb_ne hr.units (qpd_mod (qpd_var 0) qpd_int) qpd_int) (qpds_one (qpd1_ret (qpd_plus (qpd_var 1) (qpd_mod (qpd_div (qpd_var 0) qpd_int) (qpd_plus (qpd_sub (qpd_var 2) (qpd_var 1)) qpd_int))))) qpds_nil)
 (qpds_cons (qpd1_set 3 sc.nd (qpd_lst (qpad_cons (qpd_sub (qpd_var 1) qpd_int) (qpad_cons (qpd_plus (qpd_var 2) qpd_int) (qpad_cons qpd_bl (qpad_cons qpd_bl (qpad_cons qpd_non (qpad_cons qpd_str (qpad_cons (qpd_plus (qpd_plus (qpd_var 2) qpd_int) (qpd_mod (qpd_div (qpd_var 0) qpd_int) (qpd_pow qpd_int qpd_int))) (qpad_cons (qpd_tup (qpad_cons (qpd_var 1) qpad_nil)) (qpad_cons (qpd_lst (qpad_cons (qpd_var 1) qpad_nil)) qpad_nil)))))))))))
 (qpds_one (qpd1_ret (qpd_index (qpd_var 3) (qpd_mod (qpd_div (qpd_var 0) qpd_int) qpd_int))))))) (fun as r _ h => h)
end
end K53
set_option Elab.async false
set_option linter.all false
set_option maxRecDepth 100000
set_option maxHeartbeats 4000000
namespace K53
open PySem PySem.Spec PyProof.Rows L2 DL DX
section
variable {P : Program} {w : World} {K : PySem.W.Frag} {mg : Str → Option Value} {base : Heap} {f : Addr} {fd : FuncData}
noncomputable abbrev s_law_count_due : Stmt := top 34
theorem sc_law_count_due : FnScope ["_law_thing", "_law_least", "_law_greatest"] ["_law_thing", "_law_least", "_law_greatest"] (defScope s_law_count_due) := ⟨rfl, rfl, rfl, by decide +kernel, rfl, by decide +kernel, by decide +kernel⟩
theorem cal_law_count_due (m : Blt w K mg) (h_law_same : Cal P w K mg base 1 2 "_law_same" K53.F_law_same) (F : Fun K "_law_count_due" "_law_count_due" s_law_count_due f fd) (hm : mg "_law_count_due" = some (.ref f)) : Cal P w K mg base 2 3 "_law_count_due" K53.F_law_count_due :=
  have sc := sc_law_count_due
  qcal_of (k := 1) (gB := K53.g_law_count_due) F hm sc (fun _ _ _ _ _ _ us hl => match us, hl with | [_, _, _], _ => rfl) (fun cdv A outer s H E J T hr =>
 (qpds_cons (qpd1_if (qPBw_pb (qpb_or (qpb_val (qpd_cal h_law_same hr (qpa_cons' (qpd_var 0) (qpa_cons' qpd_bl qpa_nil')))) (qpb_or (qpb_val (qpd_cal h_law_same hr (qpa_cons' (qpd_var 0) (qpa_cons' qpd_bl qpa_nil')))) (qpb_or1 (qpb_not (qpb_val (qpd_isinst kit_int boot_int_ m.int (qpd_var 0) m.isinstance))))))) (qpds_one (qpd1_ret (qpd_tup (qpad_cons qpd_int (qpad_cons (qpd_var 0) qpad_nil))))) qpds_nil)
 (qpds_cons (qpd1_if (qPBw_pb (qpb_or (qpb_cmp op_lt (bd_I0 fun _ _ _ => .bl _) (qpd_var 0) (qpd_var 1)) (qpb_or1 (qpb_cmp op_gt (bd_I0 fun _ _ _ => .bl _) (qpd_var 0) (qpd_var 2))))) (qpds_one (qpd1_ret (qpd_tup (qpad_cons qpd_int (qpad_cons (qpd_var 0) qpad_nil))))) qpds_nil)
 (qpds_one (qpd1_ret qpd_non))))) (fun as r _ h => h)
end
end K53
set_option Elab.async false
set_option linter.all false
set_option maxRecDepth 100000
set_option maxHeartbeats 4000000
namespace K53
open PySem PySem.Spec PyProof.Rows L2 DL DX
section
variable {P : Program} {w : World} {K : PySem.W.Frag} {mg : Str → Option Value} {base : Heap} {f : Addr} {fd : FuncData}
noncomputable abbrev s_law_row : Stmt := top 35
theorem sc_law_row : FnScope ["_law_script", "_law_at", "_law_many", "_law_most", "_law_found", "_law_k"] ["_law_script", "_law_at", "_law_many", "_law_most"] (defScope s_law_row) := ⟨rfl, rfl, rfl, by decide +kernel, rfl, by decide +kernel, by decide +kernel⟩
theorem cal_law_row (m : Blt w K mg) (h_law_cell : Cal P w K mg base 1 2 "_law_cell" K51.F_law_cell) (F : Fun K "_law_row" "_law_row" s_law_row f fd) (hm : mg "_law_row" = some (.ref f)) : Cal P w K mg base 2 4 "_law_row" K51.F_law_row :=
  have sc := sc_law_row
  qcal_of (k := 1) (gB := K51.g_law_row) F hm sc (fun _ _ _ _ _ _ us hl => match us, hl with | [_, _, _, _], _ => rfl) (fun cdv A outer s H E J T hr =>
 (qpds_cons (qpd1_set 4 sc.nd (qpd_tup qpad_nil))
 (qpds_cons (qpd1_for (qpit_range1 (qpa_cons' (qpd_mod (qpd_cal h_law_cell hr (qpa_cons' (qpd_var 0) (qpa_cons' (qpd_var 1) qpa_nil'))) (qpd_add4 (qpd_var 3) qpd_int)) qpa_nil') m.range) (qptg_name 5 sc.nd) (qpds_one (qpd1_set 4 sc.nd (qpd_add4 (qpd_var 4) (qpd_tup (qpad_cons (qpd_mod (qpd_cal h_law_cell hr (qpa_cons' (qpd_var 0) (qpa_cons' (qpd_add4 (qpd_add4 (qpd_var 1) qpd_int) (qpd_var 5)) qpa_nil'))) (qpd_var 2)) qpad_nil))))))
 (qpds_one (qpd1_ret (qpd_var 4)))))) (fun as r _ h => h)
end
end K53
set_option Elab.async false
set_option linter.all false
set_option maxRecDepth 100000
set_option maxHeartbeats 4000000
namespace K53
open PySem PySem.Spec PyProof.Rows L2 DL DX
section
variable {P : Program} {w : World} {K : PySem.W.Frag} {mg : Str → Option Value} {base : Heap} {f : Addr} {fd : FuncData}
noncomputable abbrev s_law_told : Stmt := top 36
theorem sc_law_told : FnScope ["_law_script", "_law_world_here", "_law_depth", "_law_way"] ["_law_script", "_law_world_here", "_law_depth"] (defScope s_law_told) := ⟨rfl, rfl, rfl, by decide +kernel, rfl, by decide +kernel, by decide +kernel⟩
theorem cal_law_told (m : Blt w K mg) (h_law_cell : Cal P w K mg base 1 2 "_law_cell" K51.F_law_cell) (hkind : CalX P w K mg base 12 3 "kind" K51.Fkind) (h_law_row : Cal P w K mg base 2 4 "_law_row" K51.F_law_row) (hdkind : CalD P w K mg base 12 2 "kind" K51.Fkind) (F : Fun K "_law_told" "_law_told" s_law_told f fd) (hm : mg "_law_told" = some (.ref f)) : CalX P w K mg base 13 3 "_law_told" K53.F_law_told :=
  have sc := sc_law_told
  qcalX_of (k := 12) (gB := K53.g_law_told) F hm sc (fun _ _ _ _ _ _ us hl => match us, hl with | [_, _, _], _ => rfl) (fun cdv A outer s H E J hr =>
 (qpds_cons (qpd1_set 3 sc.nd (qpd_mod (qpd_cal h_law_cell hr (qpa_cons' (qpd_var 0) (qpa_cons' qpd_int qpa_nil'))) qpd_int))
 (qpds_cons (qpd1_if (qpb_eq hr.units (qpd_var 3) qpd_int) (qpds_one (qpd1_ret (qpd_calDX hdkind xok_cx hr (qpa_cons' (qpd_var 1) (qpa_cons' (qpd_var 2) qpa_nil'))))) qpds_nil)
 (qpds_cons (qpd1_if (qpb_eq hr.units (qpd_var 3) qpd_int) (qpds_one (qpd1_ret (qpd_calX hkind xok_cx hr (qpa_cons' (qpd_var 1) (qpa_cons' (qpd_var 2) (qpa_cons' qpd_non qpa_nil')))))) qpds_nil)
 (qpds_cons (qpd1_if (qpb_eq hr.units (qpd_var 3) qpd_int) (qpds_one (qpd1_ret (qpd_calX hkind xok_cx hr (qpa_cons' (qpd_var 1) (qpa_cons' (qpd_var 2) (qpa_cons' (qpd_tup qpad_nil) qpa_nil')))))) qpds_nil)
 (qpds_one (qpd1_ret (qpd_calX hkind xok_cx hr (qpa_cons' (qpd_var 1) (qpa_cons' (qpd_var 2) (qpa_cons' (qpd_cal h_law_row hr (qpa_cons' (qpd_var 0) (qpa_cons' qpd_int (qpa_cons' (qpd_index (qpd_var 1) qpd_int) (qpa_cons' qpd_int qpa_nil'))))) qpa_nil'))))))))))) (fun _ _ _ => rfl)
end
end K53
set_option Elab.async false
set_option linter.all false
set_option maxRecDepth 100000
set_option maxHeartbeats 4000000
namespace K53
open PySem PySem.Spec PyProof.Rows L2 DL DX
section
variable {P : Program} {w : World} {K : PySem.W.Frag} {mg : Str → Option Value} {base : Heap} {f : Addr} {fd : FuncData}
noncomputable abbrev slaw : Stmt := top 37
theorem sclaw : FnScope ["_law_script", "_law_world_here", "_law_depth", "_law_due", "_law_power", "_law_k", "_law_caught", "_law_found", "_law_e"] ["_law_script"] (defScope slaw) := ⟨rfl, rfl, rfl, by decide +kernel, rfl, by decide +kernel, by decide +kernel⟩
theorem oklaw (m : Blt w K mg) (h_law_one : Cal P w K mg base 3 3 "_law_one" K51.F_law_one) (h_law_cell : Cal P w K mg base 1 2 "_law_cell" K51.F_law_cell) (h_law_number : Cal P w K mg base 1 3 "_law_number" K53.F_law_number) (h_law_count_due : Cal P w K mg base 2 3 "_law_count_due" K53.F_law_count_due) (h_law_told : CalX P w K mg base 13 3 "_law_told" K53.F_law_told) (h_law_is : Cal P w K mg base 2 2 "_law_is" K53.F_law_is) (F : Fun K "law" "law" slaw f fd) : FnOk P w K mg base CX0 14 f fd ["_law_script"] (spD K 1 K53.Flaw) :=
  have sc := sclaw
  qfn_okD (k := 13) (gB := K53.glaw) F sc (fun cdv A outer s H E J T hr =>
 (qpds_cons (qpd1_set 1 sc.nd (qpd_cal h_law_one hr (qpa_cons' (qpd_var 0) (qpa_cons' (qpd_lst (qpad_cons qpd_int (qpad_cons qpd_int (qpad_cons qpd_int (qpad_cons qpd_int (qpad_cons qpd_int (qpad_cons qpd_int (qpad_cons qpd_int (qpad_cons qpd_int qpad_nil))))))))) (qpa_cons' qpd_int qpa_nil')))))
 (qpds_cons (qpd1_set 2 sc.nd (qpd_cal h_law_number hr (qpa_cons' (qpd_cal h_law_cell hr (qpa_cons' (qpd_var 0) (qpa_cons' qpd_int qpa_nil'))) (qpa_cons' qpd_int (qpa_cons' qpd_int qpa_nil')))))
 (qpds_cons (qpd1_set 3 sc.nd (qpd_cal h_law_count_due hr (qpa_cons' (qpd_var 2) (qpa_cons' qpd_int (qpa_cons' qpd_int qpa_nil')))))
 (qpds_cons (qpd1_set 4 sc.nd qpd_int)
 (qpds_cons (qpd1_if (qpb_is (qpd_var 3) qpd_non) (qpds_cons (qpd1_for (qpit_range1 (qpa_cons' (qpd_var 2) qpa_nil') m.range) (qptg_name 5 sc.nd) (qpds_one (qpd1_set 4 sc.nd (qpd_times (qpd_var 4) (qpd_index (qpd_var 1) qpd_int)))))
 (qpds_one (qpd1_if (qpb_cmp op_gt (bd_I0 fun _ _ _ => .bl _) (qpd_var 4) qpd_int) (qpds_one (qpd1_set 3 sc.nd (qpd_tup (qpad_cons qpd_int (qpad_cons (qpd_var 4) qpad_nil))))) qpds_nil))) qpds_nil)
 (qpds_cons (qpd1_set 6 sc.nd qpd_non)
 (qpds_cons (qpd1_set 7 sc.nd qpd_non)
 (qpds_cons (qpd1_try (i := 8) (j := 6) m.xall (qtry_one (qtry_set 7 sc.nd (qtry_cal h_law_told hr (fun _ _ _ => (qpa_cons' (qpd_var 0) (qpa_cons' (qpd_var 1) (qpa_cons' (qpd_var 2) qpa_nil'))))))) sc.nd)
 (qpds_one (qpd1_ret (qpd_and (qpd_cal h_law_is hr (qpa_cons' (qpd_var 6) (qpa_cons' (qpd_var 3) qpa_nil'))) (qpd_and1 (qpd_or (qpd_isnot (qpd_var 3) qpd_non) (qpd_and1 (qpd_isinst kit_tuple boot_tuple_ m.tuple (qpd_var 7) m.isinstance)))))))))))))))) (fun as r _ h => h)
end
end K53
set_option Elab.async false
set_option linter.all false
set_option maxRecDepth 100000
set_option maxHeartbeats 4000000
namespace K53
open PySem DL K01 WP K51
section
variable {t u : G O} {g : G R} {env e : Ev} {x : Exc} {b : G Bool}
theorem x_seq (h : t env = .exc x) : gSeq t u env = .exc x := by
  show (t env >>= _) = _
  rw [h]; rfl
theorem x_next (h : t env = .ok (.nx e)) (k : u e = .exc x) : gSeq t u env = .exc x := by
  show (t env >>= _) = _
  rw [h]; exact k
theorem x_drop (h : g env = .exc x) : gDrop g env = .exc x := by
  show (g env >>= _) = _
  rw [h]; rfl
theorem x_ret (h : g env = .exc x) : gRet g env = .exc x := by
  show (g env >>= _) = _
  rw [h]; rfl
theorem x_set {i : Nat} (h : g env = .exc x) : gSet i g env = .exc x := by
  show (g env >>= _) = _
  rw [h]; rfl
theorem x_yes (h : b env = .ok true) (k : t env = .exc x) : gIfS b t u env = .exc x := by rw [K01.ifs_yes h]; exact k
theorem x_fin (h : t env = .exc x) : fin (t env) = .exc x := by rw [h]; rfl
theorem x_c2 {F : List S → M R} {h : G R} {a c : R} (hx : g env = .ok a) (hy : h env = .ok c) (hF : F [toA a, toA c] = .exc x) : gN (gCallX 2 F) (gCons g (gCons h gNil)) env = .exc x := by
  show (gCons g (gCons h gNil) env >>= _) = _
  unfold gCons gNil
  rw [hx, hy]
  show (match F [toA a, toA c] with | .ok r => M.ok (frR r) | .exc x => .exc x | .bad => M.bad) = _
  rw [hF]
theorem x_c3 {F : List S → M R} {h k : G R} {a c d : R} (hx : g env = .ok a) (hy : h env = .ok c) (hw : k env = .ok d) (hF : F [toA a, toA c, toA d] = .exc x) : gN (gCallX 3 F) (gCons g (gCons h (gCons k gNil))) env = .exc x := by
  show (gCons g (gCons h (gCons k gNil)) env >>= _) = _
  unfold gCons gNil
  rw [hx, hy, hw]
  show (match F [toA a, toA c, toA d] with | .ok r => M.ok (frR r) | .exc x => .exc x | .bad => M.bad) = _
  rw [hF]
theorem o_c2 {F : List S → M R} {h : G R} {a c z : R} (hx : g env = .ok a) (hy : h env = .ok c) (hF : F [toA a, toA c] = .ok z) : gN (gCallX 2 F) (gCons g (gCons h gNil)) env = .ok (frR z) := by
  show (gCons g (gCons h gNil) env >>= _) = _
  unfold gCons gNil
  rw [hx, hy]
  show (match F [toA a, toA c] with | .ok r => M.ok (frR r) | .exc x => .exc x | .bad => M.bad) = _
  rw [hF]
end
/-! ### what is no number from 0 to 6 -/
inductive Bad : D → Prop
  | low (i : Int) : i < 0 → Bad (.int i)
  | high (i : Int) : 6 < i → Bad (.int i)
  | bl (b : Bool) : Bad (.bl b)
  | non : Bad .non
  | str (s : Str) : Bad (.str s)
  | tup : Bad (.tup [.int 0])
  | lst : Bad (.lst [.int 0])
theorem Bad.dp {d : D} (h : Bad d) : dep d ≤ 50 := by cases h <;> first | exact Nat.zero_le _ | decide
theorem need_bad (d : D) (h : Bad d) : Fneed_count [.d d, .d (.int 0), .d (.int 6)] = .exc ⟨"NoCount", ["told"], [d]⟩ := by
  refine x_fin (x_yes ?_ rfl)
  cases h with
  | low i hi =>
    show (if decide (i < 0) = true then M.ok true else M.ok (decide ((6 : Int) < i))) = M.ok true
    rw [decide_eq_true hi]; rfl
  | high i hi =>
    show (if decide (i < 0) = true then M.ok true else M.ok (decide ((6 : Int) < i))) = M.ok true
    rw [decide_eq_false (show ¬ i < 0 by omega), decide_eq_true hi]; rfl
  | bl b => rfl
  | non => rfl
  | str s => rfl
  | tup => rfl
  | lst => rfl
theorem kind_bad (w : Wd) (d r : D) (h : Bad d) : Fkind [.d w.d, .d d, .d r] = .exc ⟨"NoCount", ["told"], [d]⟩ := by
  refine x_fin (x_seq (x_drop ?_))
  show (gCons (gVar 1) (gCons (gC (.int 0)) (gCons (gC (.int 6)) gNil)) _ >>= gCallX 3 Fneed_count) = _
  show gCallX 3 Fneed_count [.d d, .d (.int 0), .d (.int 6)] = _
  show (match Fneed_count [.d d, .d (.int 0), .d (.int 6)] with | .ok r => M.ok (frR r) | .exc x => .exc x | .bad => M.bad) = _
  rw [need_bad d h]
theorem kind_many (w : Wd) (hw : WOk w) (n : Nat) (r : D) (hn : n ≤ 6) (hp : 600 < w.m ^ n) : Fkind [.d w.d, .d (.int n), .d r] = .exc ⟨"TooMany", ["many"], [.int ((w.m ^ n : Nat) : Int)]⟩ := by
  refine x_fin (x_next (e := [some (.d w.d), some (.d (.int n)), some (.d r), none]) ?_ (x_next (e := [some (.d w.d), some (.d (.int n)), some (.d r), some (.d (.int ((w.m ^ n : Nat) : Int)))]) ?_ (x_seq (x_yes (b := gTr _) (show M.ok (decide ((600 : Int) < ((w.m ^ n : Nat) : Int))) = _ from by rw [decide_eq_true (by omega)]) rfl))))
  · show (gN _ _ _ >>= _) = _
    rw [x3 rfl rfl rfl (E_need n hn)]
    rfl
  · show (gN _ _ _ >>= _) = _
    rw [c2 (two rfl rfl (ix0 _ _)) rfl (E_power w.m n hw.hi hn)]
    rfl
theorem E_number (c : Int) (hc : 0 ≤ c) : ∃ d : D, F_law_number [.d (.int c), .d (.int 0), .d (.int 6)] = .ok (.d d) ∧ ((∃ n : Nat, n ≤ 6 ∧ d = .int n) ∨ Bad d) := by
  have key : Wp (F_law_number [.d (.int c), .d (.int 0), .d (.int 6)]) fun r => ∃ d : D, r = .d d ∧ ((∃ n : Nat, n ≤ 6 ∧ d = .int n) ∨ Bad d) := by
    refine w_fin (w_seq (l_if (c := !(c % 3 == 1)) rfl (fun _ => ?_) fun _ => ?_))
    · refine l_ret (two rfl (two rfl rfl (t_mod _ _ (by decide))) rfl) rfl ⟨_, rfl, _, rfl, .inl ⟨(c / 3 % 7).toNat, by omega, ?_⟩⟩
      show D.int (0 + c / 3 % (6 - 0 + 1)) = _
      rw [show (6 - 0 + 1 : Int) = 7 by decide]
      congr 1; omega
    · refine l_nx (s_set (lst_ok rfl (by show 9 ≤ 1000; decide)) rfl ?_)
      have hb : 0 ≤ c / 27 % 10 ^ 30 := Int.emod_nonneg _ (by decide)
      obtain ⟨d, hd, e⟩ := ix_mem (xs := [.int (0 - 1), .int (6 + 1), .bl true, .bl false, .non, .str "1", .int (6 + 1 + c / 27 % 10 ^ 30), .tup [.int 0], .lst [.int 0]]) (h := fun d : D => d) (.l .own ([.int (0 - 1), .int (6 + 1), .bl true, .bl false, .non, .str "1", .int (6 + 1 + c / 27 % 10 ^ 30), .tup [.int 0], .lst [.int 0]].map fun d : D => d)) rfl (c / 3 % 9) (by omega) (by show _ < (9 : Int); omega)
      refine l_ret (two rfl rfl e) rfl ⟨_, rfl, d, rfl, .inr ?_⟩
      simp only [List.mem_cons, List.not_mem_nil, or_false] at hd
      rcases hd with rfl | rfl | rfl | rfl | rfl | rfl | rfl | rfl | rfl
      · exact .low _ (by decide)
      · exact .high _ (by decide)
      · exact .bl _
      · exact .bl _
      · exact .non
      · exact .str _
      · exact .high _ (by omega)
      · exact .tup
      · exact .lst
  obtain ⟨_, h, d, rfl, k⟩ := key
  exact ⟨d, h, k⟩
theorem same_self (d : D) (h : dep d ≤ 60) : F_law_same [.d d, .d d] = .ok (.d (.bl true)) := by
  refine eq_fin (s_skip ?_ (l_ret (two rfl rfl (eq_ok _ _ _ h h)) rfl ?_))
  · show (if (!(subT (tyD d) "bool" == subT (tyD d) "bool")) = true then M.ok true else M.ok (!(subT (tyD d) "int" == subT (tyD d) "int"))) = M.ok false
    simp
  · show O.rt (.d (.bl (eqD d d))) = _
    rw [eqD_refl]
theorem due_good (n : Nat) (hn : n ≤ 6) : F_law_count_due [.d (.int n), .d (.int 0), .d (.int 6)] = .ok (.d .non) := by
  refine eq_fin (s_skip ?_ (s_skip ?_ (l_ret rfl rfl rfl)))
  · rfl
  · show (if decide ((n : Int) < 0) = true then M.ok true else M.ok (decide ((6 : Int) < n))) = M.ok false
    rw [decide_eq_false (show ¬ (n : Int) < 0 by omega), decide_eq_false (show ¬ (6 : Int) < n by omega)]
    rfl
theorem due_bad (d : D) (h : Bad d) : F_law_count_due [.d d, .d (.int 0), .d (.int 6)] = .ok (.d (.tup [.int 2, d])) := by
  cases h with
  | low i hi =>
    refine eq_fin (s_skip rfl (w_seq (l_yes ?_ (l_ret (tup_ok (dl_cons rfl rfl (dl_cons rfl rfl dl_nil)) t2) rfl rfl))))
    show (if decide (i < 0) = true then M.ok true else M.ok (decide ((6 : Int) < i))) = M.ok true
    rw [decide_eq_true hi]; rfl
  | high i hi =>
    refine eq_fin (s_skip rfl (w_seq (l_yes ?_ (l_ret (tup_ok (dl_cons rfl rfl (dl_cons rfl rfl dl_nil)) t2) rfl rfl))))
    show (if decide (i < 0) = true then M.ok true else M.ok (decide ((6 : Int) < i))) = M.ok true
    rw [decide_eq_false (show ¬ i < 0 by omega), decide_eq_true hi]; rfl
  | bl b => cases b <;> rfl
  | non => rfl
  | str s => rfl
  | tup => rfl
  | lst => rfl
theorem is_none : F_law_is [.d .non, .d .non] = .ok (.d (.bl true)) := rfl
theorem flags_count (ns : List Str) (ds : List D) : F_law_flags [.d (.exn "NoCount" ns ds)] = .ok (.l .fresh [.bl false, .bl false, .bl true, .bl false, .bl false]) := rfl
theorem flags_many (ns : List Str) (ds : List D) : F_law_flags [.d (.exn "TooMany" ns ds)] = .ok (.l .fresh [.bl false, .bl true, .bl false, .bl false, .bl false]) := rfl
theorem is_count (d : D) (h : dep d ≤ 50) : F_law_is [.d (.exn "NoCount" ["told"] [d]), .d (.tup [.int 2, d])] = .ok (.d (.bl true)) := by
  refine eq_fin (s_skip rfl (s_skip ?_ (s_skip ?_ (w_seq (l_yes ?_ (l_ret (c2 rfl (two rfl rfl (ix1 _ _ _)) (same_self d (by omega))) rfl rfl))))))
  · show (gNot _ _ >>= _) = _
    rw [show gNot (gTr (gIsX XL (fun _ => true) (gVar 0))) (startE N_law_is [.d (.exn "NoCount" ["told"] [d]), .d (.tup [.int 2, d])]) = .ok false from rfl, bind_ok, if_neg (by decide)]
    show (g2 _ _ _ _ >>= _) = _
    rw [two (x := frR (.l .fresh [.bl false, .bl false, .bl true, .bl false, .bl false])) (y := .l .fresh [.bl false, .bl false, .bl true, .bl false, .bl false]) (c1 rfl (flags_count _ _)) rfl rfl]
    rfl
  · rfl
  · rfl
theorem is_many (i : Int) : F_law_is [.d (.exn "TooMany" ["many"] [.int i]), .d (.tup [.int 1, .int i])] = .ok (.d (.bl true)) := by
  refine eq_fin (s_skip rfl (s_skip ?_ (w_seq (l_yes ?_ (l_ret (c2 rfl (two rfl rfl (ix1 _ _ _)) (same_self (.int i) (Nat.zero_le _))) rfl rfl)))))
  · show (gNot _ _ >>= _) = _
    rw [show gNot (gTr (gIsX XL (fun _ => true) (gVar 0))) (startE N_law_is [.d (.exn "TooMany" ["many"] [.int i]), .d (.tup [.int 1, .int i])]) = .ok false from rfl, bind_ok, if_neg (by decide)]
    show (g2 _ _ _ _ >>= _) = _
    rw [two (x := frR (.l .fresh [.bl false, .bl true, .bl false, .bl false, .bl false])) (y := .l .fresh [.bl false, .bl true, .bl false, .bl false, .bl false]) (c1 rfl (flags_many _ _)) rfl rfl]
    rfl
  · rfl
theorem told_exc (ns : List Int) (w : Wd) (hw : WOk w) (d : D) (x : Exc) (h : ∀ r : D, Fkind [.d w.d, .d d, .d r] = .exc x) : F_law_told [.bor (ns.map .int), .d w.d, .d d] = .exc x := by
  have c10 := K51.cell_pos ns 10
  have hc := E_cellI ns 10 10 rfl
  refine x_fin (x_next (e := [some (.bor (ns.map .int)), some (.d w.d), some (.d d), some (.d (.int (K51.cellV ns 10 % 4)))]) ?_ ?_)
  · show (g2 _ _ _ _ >>= _) = _
    rw [two (c2 rfl rfl hc) rfl (t_mod _ 4 (by decide))]
    rfl
  obtain ⟨k, hk, k4⟩ : ∃ k : Nat, K51.cellV ns 10 % 4 = k ∧ k < 4 := ⟨(K51.cellV ns 10 % 4).toNat, by omega, by omega⟩
  rw [hk]
  match k, k4 with
  | 0, _ => exact x_seq (x_yes rfl (x_ret (x_c2 rfl rfl (h .non))))
  | 1, _ => exact x_next rfl (x_seq (x_yes rfl (x_ret (x_c3 rfl rfl rfl (h .non)))))
  | 2, _ => exact x_next rfl (x_next rfl (x_seq (x_yes rfl (x_ret (x_c3 rfl rfl (tup_ok dl_nil (by decide)) (h (.tup [])))))))
  | 3, _ =>
    obtain ⟨ps, hr, lr, _⟩ := E_row ns 11 w.m hw.lo 4 (by decide)
    exact x_next rfl (x_next rfl (x_next rfl (x_ret (x_c3 rfl rfl (c4 rfl rfl (two rfl rfl (ix0 _ _)) rfl hr) (h (.tup (ps.map dN)))))))
theorem told_ok (ns : List Int) (w : Wd) (hw : WOk w) (n : Nat) (hn : n ≤ 6) (hp : w.m ^ n ≤ 600) : ∃ xs, F_law_told [.bor (ns.map .int), .d w.d, .d (.int n)] = .ok (.d (.tup xs)) := by
  have c10 := K51.cell_pos ns 10
  have hc := E_cellI ns 10 10 rfl
  have kt : ∀ row, ∃ xs, kindD w n row = .tup xs := fun row => ⟨_, kind_eq w n row⟩
  have key : Wp (F_law_told [.bor (ns.map .int), .d w.d, .d (.int n)]) fun r => ∃ xs, r = .d (.tup xs) := by
    refine w_fin (s_set (two (c2 rfl rfl hc) rfl (t_mod _ 4 (by decide))) rfl ?_)
    obtain ⟨k, hk, k4⟩ : ∃ k : Nat, K51.cellV ns 10 % 4 = k ∧ k < 4 := ⟨(K51.cellV ns 10 % 4).toNat, by omega, by omega⟩
    rw [hk]
    match k, k4 with
    | 0, _ =>
      obtain ⟨xs, e⟩ := kt []
      exact w_seq (l_yes rfl (l_ret (o_c2 rfl rfl (E_kind0 w hw n hn hp)) rfl ⟨_, rfl, xs, by rw [e]⟩))
    | 1, _ =>
      obtain ⟨xs, e⟩ := kt []
      exact s_skip rfl (w_seq (l_yes rfl (l_ret (x3 rfl rfl rfl (E_kind0 w hw n hn hp)) rfl ⟨_, rfl, xs, by rw [e]⟩)))
    | 2, _ =>
      obtain ⟨xs, e⟩ := kt []
      exact s_skip rfl (s_skip rfl (w_seq (l_yes rfl (l_ret (x3 rfl rfl (tup_ok dl_nil (by decide)) (E_kind w hw n [] hn hp (by decide))) rfl ⟨_, rfl, xs, by rw [e]⟩))))
    | 3, _ =>
      obtain ⟨ps, hr, lr, _⟩ := E_row ns 11 w.m hw.lo 4 (by decide)
      obtain ⟨xs, e⟩ := kt ps
      exact s_skip rfl (s_skip rfl (s_skip rfl (l_ret (x3 rfl rfl (c4 rfl rfl (two rfl rfl (ix0 _ _)) rfl hr) (E_kind w hw n ps hn hp (by omega))) rfl ⟨_, rfl, xs, by rw [e]⟩)))
  obtain ⟨_, h, xs, rfl⟩ := key
  exact ⟨xs, h⟩
theorem w_try {i j : Nat} {L : List Str} {g : G O} {env : Ev} {Q : O → Prop} {x : Exc} (h : g env = .exc x) (hL : L.contains x.cls = true) (k : Q (.nx ((env.set j (some (.d (.exn x.cls x.ns x.ds)))).set i none))) : Wp (gTry i j L g env) Q := by
  refine ⟨_, ?_, k⟩
  unfold gTry
  rw [h]
  show (if L.contains x.cls = true then _ else _) = _
  rw [if_pos hL]
theorem w_tryO {i j : Nat} {L : List Str} {g : G O} {env : Ev} {Q : O → Prop} (h : Wp (g env) Q) : Wp (gTry i j L g env) Q := by
  obtain ⟨o, h1, h2⟩ := h
  refine ⟨o, ?_, h2⟩
  unfold gTry
  rw [h1]
theorem main_ok (ns : List Int) (h : ns.length ≤ 63) : Flaw [.bor (ns.map .int)] = .ok (.d (.bl true)) := by
  obtain ⟨w, hw, wo, _⟩ := E_one ns [2, 8, 1, 4, 3, 5, 6, 7] rfl (by decide)
  obtain ⟨d, hd, hcase⟩ := E_number (K51.cellV ns 9) (K51.cell_pos ns 9)
  refine eq_fin (s_set (c3 rfl (lst_ok rfl (by show 8 ≤ 1000; decide)) rfl hw) rfl (s_set (c3 (c2 rfl rfl (E_cellI ns 9 9 rfl)) rfl rfl hd) rfl ?_))
  rcases hcase with ⟨n, hn, rfl⟩ | hbad
  · refine s_set (c3 rfl rfl rfl (due_good n hn)) rfl (s_set rfl rfl (w_seq (l_yes rfl ?_)))
    have loop : Wp (gFor (gRng1 (gCons (gVar 2) gNil)) (tgName 5) (gSet 4 (g2 fTimes (gVar 4) (g2 fIx (gVar 1) (gC (.int 0))))) [some (.bor (ns.map .int)), some (.d w.d), some (.d (.int n)), some (.d .non), some (.d (.int 1)), none, none, none, none])
        fun o => ∃ y, o = .nx [some (.bor (ns.map .int)), some (.d w.d), some (.d (.int n)), some (.d .non), some (.d (.int ((w.m ^ n : Nat) : Int))), y, none, none, none] := by
      refine l_for (rng1 (n := n) rfl (by omega)) ?_
      refine w_rng (fun k env => ∃ y, env = [some (.bor (ns.map .int)), some (.d w.d), some (.d (.int n)), some (.d .non), some (.d (.int ((w.m ^ k : Nat) : Int))), y, none, none, none]) ⟨none, rfl⟩ ?_ ?_
      · rintro k hk _ ⟨y, rfl⟩
        have hi := wo.hi
        refine ⟨_, rfl, l_set (two rfl (two rfl rfl (ix0 _ _)) (t_times _ _ (by omega) (by omega))) rfl ⟨_, rfl, some (.d (.int k)), ?_⟩⟩
        rw [Nat.pow_succ, Int.natCast_mul]
        rfl
      · rintro _ ⟨y, rfl⟩
        exact ⟨y, rfl⟩
    refine w_seq (loop.mono fun o ⟨y, ho⟩ => ?_)
    subst ho
    refine l_if (c := decide ((600 : Int) < ((w.m ^ n : Nat) : Int))) rfl (fun hc => ?_) fun hc => l_nx ?_
    · have hc : 600 < w.m ^ n := by have := of_decide_eq_true hc; omega
      refine l_set (tup_ok (dl_cons rfl rfl (dl_cons rfl rfl dl_nil)) t2) rfl (s_set rfl rfl (s_set rfl rfl (w_seq (w_try (x_set (x_c3 rfl rfl rfl (told_exc ns w wo _ _ fun r => kind_many w wo n r hn hc))) rfl ?_))))
      refine l_ret (r := .d (.bl true)) ?_ rfl rfl
      show (gN _ _ _ >>= _) = _
      rw [c2 rfl rfl (is_many _)]
      rfl
    · have hc : w.m ^ n ≤ 600 := by have := of_decide_eq_false hc; omega
      obtain ⟨xs, hk⟩ := told_ok ns w wo n hn hc
      refine s_set rfl rfl (s_set rfl rfl (w_seq (w_tryO (l_set (x3 rfl rfl rfl hk) rfl ?_))))
      refine l_ret (r := .d (.bl true)) ?_ rfl rfl
      show (gN _ _ _ >>= _) = _
      rw [c2 rfl rfl is_none]
      rfl
  · refine s_set (c3 rfl rfl rfl (due_bad d hbad)) rfl (s_set rfl rfl (s_skip rfl (s_set rfl rfl (s_set rfl rfl (w_seq (w_try (x_set (x_c3 rfl rfl rfl (told_exc ns w wo _ _ fun r => kind_bad w d r hbad))) rfl ?_))))))
    refine l_ret (r := .d (.bl true)) ?_ rfl rfl
    show (gN _ _ _ >>= _) = _
    rw [c2 rfl rfl (is_count d hbad.dp)]
    rfl
end K53
set_option Elab.async false
set_option linter.all false
set_option maxRecDepth 100000
set_option maxHeartbeats 4000000
namespace K53
open PySem PySem.Spec PyProof.Rows L2 DL DX
theorem all_mk {l : PySem.W.OpenLaw} {w : World} {K : PySem.W.Frag} {h : Heap} {mg : Str → Option Value} {fa : Addr} (X : K.In h) (G : h.Ns mainGlobals mg) (hfa : mg "law" = some (.ref fa))
    {f0 : Addr} {od0 an0 : Option Addr} {sl0 : Array (Option Value)} {oc0 kV0 dc0 pm0 cd0 ct0 : Value}
    {f1 : Addr} {od1 an1 : Option Addr} {sl1 : Array (Option Value)} {oc1 kV1 dc1 pm1 cd1 ct1 : Value}
    {f2 : Addr} {od2 an2 : Option Addr} {sl2 : Array (Option Value)} {oc2 kV2 dc2 pm2 cd2 ct2 : Value}
    {f3 : Addr} {od3 an3 : Option Addr} {sl3 : Array (Option Value)} {oc3 kV3 dc3 pm3 cd3 ct3 : Value}
    {f4 : Addr} {od4 an4 : Option Addr} {sl4 : Array (Option Value)} {oc4 kV4 dc4 pm4 cd4 ct4 : Value}
    {f5 : Addr} {od5 an5 : Option Addr} {sl5 : Array (Option Value)} {oc5 kV5 dc5 pm5 cd5 ct5 : Value}
    {T6 : Addr} {oT6 : Value} {dT6 : Option Addr} {nT6 : Nat} {sT6 : Array (Option Value)}
    {f6 : Addr} {od6 an6 : Option Addr} {sl6 : Array (Option Value)} {oc6 kV6 dc6 pm6 cd6 ct6 : Value}
    {f7 : Addr} {od7 an7 : Option Addr} {sl7 : Array (Option Value)} {oc7 kV7 dc7 pm7 cd7 ct7 : Value}
    {f8 : Addr} {od8 an8 : Option Addr} {sl8 : Array (Option Value)} {oc8 kV8 dc8 pm8 cd8 ct8 : Value}
    {f9 : Addr} {od9 an9 : Option Addr} {sl9 : Array (Option Value)} {oc9 kV9 dc9 pm9 cd9 ct9 : Value}
    {f10 : Addr} {od10 an10 : Option Addr} {sl10 : Array (Option Value)} {oc10 kV10 dc10 pm10 cd10 ct10 : Value}
    {f11 : Addr} {od11 an11 : Option Addr} {sl11 : Array (Option Value)} {oc11 kV11 dc11 pm11 cd11 ct11 : Value}
    {f12 : Addr} {od12 an12 : Option Addr} {sl12 : Array (Option Value)} {oc12 kV12 dc12 pm12 cd12 ct12 : Value}
    {f13 : Addr} {od13 an13 : Option Addr} {sl13 : Array (Option Value)} {oc13 kV13 dc13 pm13 cd13 ct13 : Value}
    {f14 : Addr} {od14 an14 : Option Addr} {sl14 : Array (Option Value)} {oc14 kV14 dc14 pm14 cd14 ct14 : Value}
    {f15 : Addr} {od15 an15 : Option Addr} {sl15 : Array (Option Value)} {oc15 kV15 dc15 pm15 cd15 ct15 : Value}
    {f16 : Addr} {od16 an16 : Option Addr} {sl16 : Array (Option Value)} {oc16 kV16 dc16 pm16 cd16 ct16 : Value}
    {f17 : Addr} {od17 an17 : Option Addr} {sl17 : Array (Option Value)} {oc17 kV17 dc17 pm17 cd17 ct17 : Value}
    {f18 : Addr} {od18 an18 : Option Addr} {sl18 : Array (Option Value)} {oc18 kV18 dc18 pm18 cd18 ct18 : Value}
    {f19 : Addr} {od19 an19 : Option Addr} {sl19 : Array (Option Value)} {oc19 kV19 dc19 pm19 cd19 ct19 : Value}
    {t1 : Tok}
    {t2 : Tok}
    {xcP xnP : Addr} {nmPx qPx : Str} {bsPx : List Value} {snPx : List Str} {suPx : List Value} {abPx : Bool} {coPx : Option Bool} {ddPx : Option Addr} {kaPx kbPx kcPx kdPx kePx : Option Value}
    {cnPx : Value} {dnPx : Option Addr} {esPx : Array DictEntry} {epPx : Nat} {slPx : Array (Option Value)}
    {xc0 xn0 : Addr} {nm0x q0x : Str} {bs0x : List Value} {sn0x : List Str} {su0x : List Value} {ab0x : Bool} {co0x : Option Bool} {dd0x : Option Addr} {ka0x kb0x kc0x kd0x ke0x : Option Value}
    {xc1 xn1 : Addr} {nm1x q1x : Str} {bs1x : List Value} {sn1x : List Str} {su1x : List Value} {ab1x : Bool} {co1x : Option Bool} {dd1x : Option Addr} {ka1x kb1x kc1x kd1x ke1x : Option Value}
    {xc2 xn2 : Addr} {nm2x q2x : Str} {bs2x : List Value} {sn2x : List Str} {su2x : List Value} {ab2x : Bool} {co2x : Option Bool} {dd2x : Option Addr} {ka2x kb2x kc2x kd2x ke2x : Option Value}
    {xc3 xn3 : Addr} {nm3x q3x : Str} {bs3x : List Value} {sn3x : List Str} {su3x : List Value} {ab3x : Bool} {co3x : Option Bool} {dd3x : Option Addr} {ka3x kb3x kc3x kd3x ke3x : Option Value}
    {xc4 xn4 : Addr} {nm4x q4x : Str} {bs4x : List Value} {sn4x : List Str} {su4x : List Value} {ab4x : Bool} {co4x : Option Bool} {dd4x : Option Addr} {ka4x kb4x kc4x kd4x ke4x : Option Value}
    {xc5 xn5 : Addr} {nm5x q5x : Str} {bs5x : List Value} {sn5x : List Str} {su5x : List Value} {ab5x : Bool} {co5x : Option Bool} {dd5x : Option Addr} {ka5x kb5x kc5x kd5x ke5x : Option Value}
    {xc6 xn6 : Addr} {nm6x q6x : Str} {bs6x : List Value} {sn6x : List Str} {su6x : List Value} {ab6x : Bool} {co6x : Option Bool} {dd6x : Option Addr} {ka6x kb6x kc6x kd6x ke6x : Option Value}
    {xc7 xn7 : Addr} {nm7x q7x : Str} {bs7x : List Value} {sn7x : List Str} {su7x : List Value} {ab7x : Bool} {co7x : Option Bool} {dd7x : Option Addr} {ka7x kb7x kc7x kd7x ke7x : Option Value}
    {xc8 xn8 : Addr} {nm8x q8x : Str} {bs8x : List Value} {sn8x : List Str} {su8x : List Value} {ab8x : Bool} {co8x : Option Bool} {dd8x : Option Addr} {ka8x kb8x kc8x kd8x ke8x : Option Value}
    {xc9 xn9 : Addr} {nm9x q9x : Str} {bs9x : List Value} {sn9x : List Str} {su9x : List Value} {ab9x : Bool} {co9x : Option Bool} {dd9x : Option Addr} {ka9x kb9x kc9x kd9x ke9x : Option Value}
    {cn7x : Value} {dn7x : Option Addr} {es7x : Array DictEntry} {ep7x : Nat} {sl7x : Array (Option Value)}
    {xf7 : Addr} {od7x an7x : Option Addr} {fs7x : Array (Option Value)} {oc7x kV7x dc7x pm7x cd7x ct7x : Value}
    {cn6x : Value} {dn6x : Option Addr} {es6x : Array DictEntry} {ep6x : Nat} {sl6x : Array (Option Value)}
    {xf6 : Addr} {od6x an6x : Option Addr} {fs6x : Array (Option Value)} {oc6x kV6x dc6x pm6x cd6x ct6x : Value}
    {mcP : Value}
    (a0 : PySem.W.nsIn K mainGlobals "is_whole" = some (some (.ref f0)))
    (l0 : K.lookup f0 = some ⟨oc0, od0, .func (PySem.W.fnOf "is_whole" "is_whole" (defArgs sis_whole) (defBody sis_whole) (defScope sis_whole) .none kV0 dc0 pm0 an0 cd0 ct0), sl0⟩)
    (c0 : PySem.W.codeIn K cd0 "is_whole" = true)
    (k0 : PySem.W.keepIn K (.ref f0) = true)
    (a1 : PySem.W.nsIn K mainGlobals "need_count" = some (some (.ref f1)))
    (l1 : K.lookup f1 = some ⟨oc1, od1, .func (PySem.W.fnOf "need_count" "need_count" (defArgs sneed_count) (defBody sneed_count) (defScope sneed_count) .none kV1 dc1 pm1 an1 cd1 ct1), sl1⟩)
    (c1 : PySem.W.codeIn K cd1 "need_count" = true)
    (k1 : PySem.W.keepIn K (.ref f1) = true)
    (a2 : PySem.W.nsIn K mainGlobals "power" = some (some (.ref f2)))
    (l2 : K.lookup f2 = some ⟨oc2, od2, .func (PySem.W.fnOf "power" "power" (defArgs spower) (defBody spower) (defScope spower) .none kV2 dc2 pm2 an2 cd2 ct2), sl2⟩)
    (c2 : PySem.W.codeIn K cd2 "power" = true)
    (k2 : PySem.W.keepIn K (.ref f2) = true)
    (a3 : PySem.W.nsIn K mainGlobals "sorted_once" = some (some (.ref f3)))
    (l3 : K.lookup f3 = some ⟨oc3, od3, .func (PySem.W.fnOf "sorted_once" "sorted_once" (defArgs ssorted_once) (defBody ssorted_once) (defScope ssorted_once) .none kV3 dc3 pm3 an3 cd3 ct3), sl3⟩)
    (c3 : PySem.W.codeIn K cd3 "sorted_once" = true)
    (k3 : PySem.W.keepIn K (.ref f3) = true)
    (a4 : PySem.W.nsIn K mainGlobals "face_of" = some (some (.ref f4)))
    (l4 : K.lookup f4 = some ⟨oc4, od4, .func (PySem.W.fnOf "face_of" "face_of" (defArgs sface_of) (defBody sface_of) (defScope sface_of) .none kV4 dc4 pm4 an4 cd4 ct4), sl4⟩)
    (c4 : PySem.W.codeIn K cd4 "face_of" = true)
    (k4 : PySem.W.keepIn K (.ref f4) = true)
    (a5 : PySem.W.nsIn K mainGlobals "kind_of" = some (some (.ref f5)))
    (l5 : K.lookup f5 = some ⟨oc5, od5, .func (PySem.W.fnOf "kind_of" "kind_of" (defArgs skind_of) (defBody skind_of) (defScope skind_of) .none kV5 dc5 pm5 an5 cd5 ct5), sl5⟩)
    (c5 : PySem.W.codeIn K cd5 "kind_of" = true)
    (k5 : PySem.W.keepIn K (.ref f5) = true)
    (a6 : PySem.W.nsIn K mainGlobals "kind" = some (some (.ref f6)))
    (l6 : K.lookup f6 = some ⟨oc6, od6, .func (PySem.W.fnOf "kind" "kind" (defArgs skind) (defBody skind) (defScope skind) (.ref T6) kV6 dc6 pm6 an6 cd6 ct6), sl6⟩)
    (c6 : PySem.W.codeIn K cd6 "kind" = true)
    (k6 : PySem.W.keepIn K (.ref f6) = true)
    (lT6 : K.lookup T6 = some ⟨oT6, dT6, .seq #[.none] nT6, sT6⟩)
    (a7 : PySem.W.nsIn K mainGlobals "_law_cell" = some (some (.ref f7)))
    (l7 : K.lookup f7 = some ⟨oc7, od7, .func (PySem.W.fnOf "_law_cell" "_law_cell" (defArgs s_law_cell) (defBody s_law_cell) (defScope s_law_cell) .none kV7 dc7 pm7 an7 cd7 ct7), sl7⟩)
    (c7 : PySem.W.codeIn K cd7 "_law_cell" = true)
    (k7 : PySem.W.keepIn K (.ref f7) = true)
    (a8 : PySem.W.nsIn K mainGlobals "_law_names" = some (some (.ref f8)))
    (l8 : K.lookup f8 = some ⟨oc8, od8, .func (PySem.W.fnOf "_law_names" "_law_names" (defArgs s_law_names) (defBody s_law_names) (defScope s_law_names) .none kV8 dc8 pm8 an8 cd8 ct8), sl8⟩)
    (c8 : PySem.W.codeIn K cd8 "_law_names" = true)
    (k8 : PySem.W.keepIn K (.ref f8) = true)
    (a9 : PySem.W.nsIn K mainGlobals "_law_bits" = some (some (.ref f9)))
    (l9 : K.lookup f9 = some ⟨oc9, od9, .func (PySem.W.fnOf "_law_bits" "_law_bits" (defArgs s_law_bits) (defBody s_law_bits) (defScope s_law_bits) .none kV9 dc9 pm9 an9 cd9 ct9), sl9⟩)
    (c9 : PySem.W.codeIn K cd9 "_law_bits" = true)
    (k9 : PySem.W.keepIn K (.ref f9) = true)
    (a10 : PySem.W.nsIn K mainGlobals "_law_world" = some (some (.ref f10)))
    (l10 : K.lookup f10 = some ⟨oc10, od10, .func (PySem.W.fnOf "_law_world" "_law_world" (defArgs s_law_world) (defBody s_law_world) (defScope s_law_world) .none kV10 dc10 pm10 an10 cd10 ct10), sl10⟩)
    (c10 : PySem.W.codeIn K cd10 "_law_world" = true)
    (k10 : PySem.W.keepIn K (.ref f10) = true)
    (a11 : PySem.W.nsIn K mainGlobals "_law_one" = some (some (.ref f11)))
    (l11 : K.lookup f11 = some ⟨oc11, od11, .func (PySem.W.fnOf "_law_one" "_law_one" (defArgs s_law_one) (defBody s_law_one) (defScope s_law_one) .none kV11 dc11 pm11 an11 cd11 ct11), sl11⟩)
    (c11 : PySem.W.codeIn K cd11 "_law_one" = true)
    (k11 : PySem.W.keepIn K (.ref f11) = true)
    (a12 : PySem.W.nsIn K mainGlobals "_law_flags" = some (some (.ref f12)))
    (l12 : K.lookup f12 = some ⟨oc12, od12, .func (PySem.W.fnOf "_law_flags" "_law_flags" (defArgs s_law_flags) (defBody s_law_flags) (defScope s_law_flags) .none kV12 dc12 pm12 an12 cd12 ct12), sl12⟩)
    (c12 : PySem.W.codeIn K cd12 "_law_flags" = true)
    (k12 : PySem.W.keepIn K (.ref f12) = true)
    (a13 : PySem.W.nsIn K mainGlobals "_law_same" = some (some (.ref f13)))
    (l13 : K.lookup f13 = some ⟨oc13, od13, .func (PySem.W.fnOf "_law_same" "_law_same" (defArgs s_law_same) (defBody s_law_same) (defScope s_law_same) .none kV13 dc13 pm13 an13 cd13 ct13), sl13⟩)
    (c13 : PySem.W.codeIn K cd13 "_law_same" = true)
    (k13 : PySem.W.keepIn K (.ref f13) = true)
    (a14 : PySem.W.nsIn K mainGlobals "_law_is" = some (some (.ref f14)))
    (l14 : K.lookup f14 = some ⟨oc14, od14, .func (PySem.W.fnOf "_law_is" "_law_is" (defArgs s_law_is) (defBody s_law_is) (defScope s_law_is) .none kV14 dc14 pm14 an14 cd14 ct14), sl14⟩)
    (c14 : PySem.W.codeIn K cd14 "_law_is" = true)
    (k14 : PySem.W.keepIn K (.ref f14) = true)
    (a15 : PySem.W.nsIn K mainGlobals "_law_number" = some (some (.ref f15)))
    (l15 : K.lookup f15 = some ⟨oc15, od15, .func (PySem.W.fnOf "_law_number" "_law_number" (defArgs s_law_number) (defBody s_law_number) (defScope s_law_number) .none kV15 dc15 pm15 an15 cd15 ct15), sl15⟩)
    (c15 : PySem.W.codeIn K cd15 "_law_number" = true)
    (k15 : PySem.W.keepIn K (.ref f15) = true)
    (a16 : PySem.W.nsIn K mainGlobals "_law_count_due" = some (some (.ref f16)))
    (l16 : K.lookup f16 = some ⟨oc16, od16, .func (PySem.W.fnOf "_law_count_due" "_law_count_due" (defArgs s_law_count_due) (defBody s_law_count_due) (defScope s_law_count_due) .none kV16 dc16 pm16 an16 cd16 ct16), sl16⟩)
    (c16 : PySem.W.codeIn K cd16 "_law_count_due" = true)
    (k16 : PySem.W.keepIn K (.ref f16) = true)
    (a17 : PySem.W.nsIn K mainGlobals "_law_row" = some (some (.ref f17)))
    (l17 : K.lookup f17 = some ⟨oc17, od17, .func (PySem.W.fnOf "_law_row" "_law_row" (defArgs s_law_row) (defBody s_law_row) (defScope s_law_row) .none kV17 dc17 pm17 an17 cd17 ct17), sl17⟩)
    (c17 : PySem.W.codeIn K cd17 "_law_row" = true)
    (k17 : PySem.W.keepIn K (.ref f17) = true)
    (a18 : PySem.W.nsIn K mainGlobals "_law_told" = some (some (.ref f18)))
    (l18 : K.lookup f18 = some ⟨oc18, od18, .func (PySem.W.fnOf "_law_told" "_law_told" (defArgs s_law_told) (defBody s_law_told) (defScope s_law_told) .none kV18 dc18 pm18 an18 cd18 ct18), sl18⟩)
    (c18 : PySem.W.codeIn K cd18 "_law_told" = true)
    (k18 : PySem.W.keepIn K (.ref f18) = true)
    (a19 : PySem.W.nsIn K mainGlobals "law" = some (some (.ref f19)))
    (l19 : K.lookup f19 = some ⟨oc19, od19, .func (PySem.W.fnOf "law" "law" (defArgs slaw) (defBody slaw) (defScope slaw) .none kV19 dc19 pm19 an19 cd19 ct19), sl19⟩)
    (c19 : PySem.W.codeIn K cd19 "law" = true)
    (k19 : PySem.W.keepIn K (.ref f19) = true)
    (z0 : PySem.W.nsIn K mainGlobals "ValueError" = some none)
    (z1 : PySem.W.nsIn K mainGlobals "bool" = some none)
    (z2 : PySem.W.nsIn K mainGlobals "int" = some none)
    (z3 : PySem.W.nsIn K mainGlobals "isinstance" = some none)
    (z4 : PySem.W.nsIn K mainGlobals "len" = some none)
    (z5 : PySem.W.nsIn K mainGlobals "range" = some none)
    (z6 : PySem.W.nsIn K mainGlobals "sorted" = some none)
    (z7 : PySem.W.nsIn K mainGlobals "tuple" = some none)
    (gMOST_DEPTH : PySem.W.nsIn K mainGlobals "MOST_DEPTH" = some (some (.int 6 t1)))
    (gMOST_POWER : PySem.W.nsIn K mainGlobals "MOST_POWER" = some (some (.int 600 t2)))
    (xaP : PySem.W.nsIn K mainGlobals "PickError" = some (some (.ref xcP)))
    (xlP : K.lookup xcP = some (excClassObj nmPx qPx xcP xnP bsPx vbm true snPx suPx abPx coPx ddPx kaPx kbPx kcPx kdPx kePx "ValueError.__new__"))
    (xmP : K.lookup xnP = some ⟨cnPx, dnPx, .dict esPx epPx, slPx⟩)
    (xsP : strK esPx = true)
    (xqP : (quiet.all fun n => (nsFind esPx n).isNone) = true)
    (xgP : PySem.W.specialIn K (.builtin "object.__class__") "__get__" = some (some (.builtin "getset_descriptor.__get__")))
    (xtP : PySem.W.takesIn K (.builtin "object.__class__") = some true)
    (xa0 : PySem.W.nsIn K mainGlobals "NoWorld" = some (some (.ref xc0)))
    (xl0 : K.lookup xc0 = some (excClassObj nm0x q0x xc0 xn0 bs0x (.ref xcP :: vbm) true sn0x su0x ab0x co0x dd0x ka0x kb0x kc0x kd0x ke0x "ValueError.__new__"))
    (xg0 : PySem.W.findIn K (.ref xc0) "__getattribute__" = some (some (.builtin "BaseException.__getattribute__")))
    (xh0 : PySem.W.findIn K (.ref xc0) "__getattr__" = some none)
    (xk0 : PySem.W.findIn K (.ref xc0) "__class__" = some (some (.builtin "object.__class__")))
    (xa1 : PySem.W.nsIn K mainGlobals "NoTongue" = some (some (.ref xc1)))
    (xl1 : K.lookup xc1 = some (excClassObj nm1x q1x xc1 xn1 bs1x (.ref xcP :: vbm) true sn1x su1x ab1x co1x dd1x ka1x kb1x kc1x kd1x ke1x "ValueError.__new__"))
    (xg1 : PySem.W.findIn K (.ref xc1) "__getattribute__" = some (some (.builtin "BaseException.__getattribute__")))
    (xh1 : PySem.W.findIn K (.ref xc1) "__getattr__" = some none)
    (xk1 : PySem.W.findIn K (.ref xc1) "__class__" = some (some (.builtin "object.__class__")))
    (xa2 : PySem.W.nsIn K mainGlobals "NoSaying" = some (some (.ref xc2)))
    (xl2 : K.lookup xc2 = some (excClassObj nm2x q2x xc2 xn2 bs2x (.ref xcP :: vbm) true sn2x su2x ab2x co2x dd2x ka2x kb2x kc2x kd2x ke2x "ValueError.__new__"))
    (xg2 : PySem.W.findIn K (.ref xc2) "__getattribute__" = some (some (.builtin "BaseException.__getattribute__")))
    (xh2 : PySem.W.findIn K (.ref xc2) "__getattr__" = some none)
    (xk2 : PySem.W.findIn K (.ref xc2) "__class__" = some (some (.builtin "object.__class__")))
    (xa3 : PySem.W.nsIn K mainGlobals "NoMore" = some (some (.ref xc3)))
    (xl3 : K.lookup xc3 = some (excClassObj nm3x q3x xc3 xn3 bs3x (.ref xcP :: vbm) true sn3x su3x ab3x co3x dd3x ka3x kb3x kc3x kd3x ke3x "ValueError.__new__"))
    (xg3 : PySem.W.findIn K (.ref xc3) "__getattribute__" = some (some (.builtin "BaseException.__getattribute__")))
    (xh3 : PySem.W.findIn K (.ref xc3) "__getattr__" = some none)
    (xk3 : PySem.W.findIn K (.ref xc3) "__class__" = some (some (.builtin "object.__class__")))
    (xa4 : PySem.W.nsIn K mainGlobals "NoName" = some (some (.ref xc4)))
    (xl4 : K.lookup xc4 = some (excClassObj nm4x q4x xc4 xn4 bs4x (.ref xcP :: vbm) true sn4x su4x ab4x co4x dd4x ka4x kb4x kc4x kd4x ke4x "ValueError.__new__"))
    (xg4 : PySem.W.findIn K (.ref xc4) "__getattribute__" = some (some (.builtin "BaseException.__getattribute__")))
    (xh4 : PySem.W.findIn K (.ref xc4) "__getattr__" = some none)
    (xk4 : PySem.W.findIn K (.ref xc4) "__class__" = some (some (.builtin "object.__class__")))
    (xa5 : PySem.W.nsIn K mainGlobals "NoLetter" = some (some (.ref xc5)))
    (xl5 : K.lookup xc5 = some (excClassObj nm5x q5x xc5 xn5 bs5x (.ref xcP :: vbm) true sn5x su5x ab5x co5x dd5x ka5x kb5x kc5x kd5x ke5x "ValueError.__new__"))
    (xg5 : PySem.W.findIn K (.ref xc5) "__getattribute__" = some (some (.builtin "BaseException.__getattribute__")))
    (xh5 : PySem.W.findIn K (.ref xc5) "__getattr__" = some none)
    (xk5 : PySem.W.findIn K (.ref xc5) "__class__" = some (some (.builtin "object.__class__")))
    (xa6 : PySem.W.nsIn K mainGlobals "TooMany" = some (some (.ref xc6)))
    (xl6 : K.lookup xc6 = some (excClassObj nm6x q6x xc6 xn6 bs6x (.ref xcP :: vbm) true sn6x su6x ab6x co6x dd6x ka6x kb6x kc6x kd6x ke6x "ValueError.__new__"))
    (xg6 : PySem.W.findIn K (.ref xc6) "__getattribute__" = some (some (.builtin "BaseException.__getattribute__")))
    (xh6 : PySem.W.findIn K (.ref xc6) "__getattr__" = some none)
    (xk6 : PySem.W.findIn K (.ref xc6) "__class__" = some (some (.builtin "object.__class__")))
    (xa7 : PySem.W.nsIn K mainGlobals "NoCount" = some (some (.ref xc7)))
    (xl7 : K.lookup xc7 = some (excClassObj nm7x q7x xc7 xn7 bs7x (.ref xcP :: vbm) true sn7x su7x ab7x co7x dd7x ka7x kb7x kc7x kd7x ke7x "ValueError.__new__"))
    (xg7 : PySem.W.findIn K (.ref xc7) "__getattribute__" = some (some (.builtin "BaseException.__getattribute__")))
    (xh7 : PySem.W.findIn K (.ref xc7) "__getattr__" = some none)
    (xk7 : PySem.W.findIn K (.ref xc7) "__class__" = some (some (.builtin "object.__class__")))
    (xa8 : PySem.W.nsIn K mainGlobals "NoPoint" = some (some (.ref xc8)))
    (xl8 : K.lookup xc8 = some (excClassObj nm8x q8x xc8 xn8 bs8x (.ref xcP :: vbm) true sn8x su8x ab8x co8x dd8x ka8x kb8x kc8x kd8x ke8x "ValueError.__new__"))
    (xg8 : PySem.W.findIn K (.ref xc8) "__getattribute__" = some (some (.builtin "BaseException.__getattribute__")))
    (xh8 : PySem.W.findIn K (.ref xc8) "__getattr__" = some none)
    (xk8 : PySem.W.findIn K (.ref xc8) "__class__" = some (some (.builtin "object.__class__")))
    (xa9 : PySem.W.nsIn K mainGlobals "NoRow" = some (some (.ref xc9)))
    (xl9 : K.lookup xc9 = some (excClassObj nm9x q9x xc9 xn9 bs9x (.ref xcP :: vbm) true sn9x su9x ab9x co9x dd9x ka9x kb9x kc9x kd9x ke9x "ValueError.__new__"))
    (xg9 : PySem.W.findIn K (.ref xc9) "__getattribute__" = some (some (.builtin "BaseException.__getattribute__")))
    (xh9 : PySem.W.findIn K (.ref xc9) "__getattr__" = some none)
    (xk9 : PySem.W.findIn K (.ref xc9) "__class__" = some (some (.builtin "object.__class__")))
    (xftold : PySem.W.findIn K (.ref xc7) "told" = some none)
    (xfpoint : PySem.W.findIn K (.ref xc8) "point" = some none)
    (xfmany : PySem.W.findIn K (.ref xc6) "many" = some none)
    (xp7 : PySem.W.keepIn K (.ref xc7) = true)
    (xm7 : K.lookup xn7 = some ⟨cn7x, dn7x, .dict es7x ep7x, sl7x⟩)
    (xs7 : strK es7x = true)
    (xi7 : nsFind es7x "__init__" = some (.ref xf7))
    (xj7 : nsFind es7x "__setattr__" = none)
    (xo7 : nsFind es7x "told" = none)
    (xu7 : K.lookup xf7 = some ⟨oc7x, od7x, .func (PySem.W.fnOf "__init__" "NoCount.__init__" (defArgs (topC 9 0)) (defBody (topC 9 0)) (defScope (topC 9 0)) .none kV7x dc7x pm7x an7x cd7x ct7x), fs7x⟩)
    (xv7 : PySem.W.codeIn K cd7x "NoCount.__init__" = true)
    (xw7 : PySem.W.keepIn K (.ref xf7) = true)
    (xz7 : oc7x = .type "function")
    (xp6 : PySem.W.keepIn K (.ref xc6) = true)
    (xm6 : K.lookup xn6 = some ⟨cn6x, dn6x, .dict es6x ep6x, sl6x⟩)
    (xs6 : strK es6x = true)
    (xi6 : nsFind es6x "__init__" = some (.ref xf6))
    (xj6 : nsFind es6x "__setattr__" = none)
    (xo6 : nsFind es6x "many" = none)
    (xu6 : K.lookup xf6 = some ⟨oc6x, od6x, .func (PySem.W.fnOf "__init__" "TooMany.__init__" (defArgs (topC 8 0)) (defBody (topC 8 0)) (defScope (topC 8 0)) .none kV6x dc6x pm6x an6x cd6x ct6x), fs6x⟩)
    (xv6 : PySem.W.codeIn K cd6x "TooMany.__init__" = true)
    (xw6 : PySem.W.keepIn K (.ref xf6) = true)
    (xz6 : oc6x = .type "function")
    (xyP : PySem.W.specialIn K (.ref xcP) "__getattribute__" = some (some (.builtin "type.__getattribute__")))
    (xbP : PySem.W.typeIn K (.ref xcP) = some mcP)
    (xrP : PySem.W.readsIn K xcP mcP = true)
    (xeP : PySem.W.findCls K (.ref xcP) mcP "__init__" = some (.val (.builtin "ValueError.__init__")))
    (xd : (xcP :: ([("NoWorld", xc0), ("NoTongue", xc1), ("NoSaying", xc2), ("NoMore", xc3), ("NoName", xc4), ("NoLetter", xc5), ("TooMany", xc6), ("NoCount", xc7), ("NoPoint", xc8), ("NoRow", xc9)] : List (Str × Addr)).map (fun p : Str × Addr => p.2)).Nodup) :
    ∃ fd : FuncData, (∀ (s : Shared) (v : Value), BindsTo s fd ⟨[v], []⟩ [("_law_script", v)]) ∧ ∀ base : Heap, K.In base → base.Ns mainGlobals mg → FnOk l.prog w K mg base CX0 14 fa fd ["_law_script"] (spD K 1 K53.Flaw) := by
  have e := hfa.symm.trans (PySem.W.mg_of X G a19)
  cases e
  have F0 := fun_mk (st := sis_whole) l0 c0 k0
  have F1 := fun_mk (st := sneed_count) l1 c1 k1
  have F2 := fun_mk (st := spower) l2 c2 k2
  have F3 := fun_mk (st := ssorted_once) l3 c3 k3
  have F4 := fun_mk (st := sface_of) l4 c4 k4
  have F5 := fun_mk (st := skind_of) l5 c5 k5
  have F6 := funD_mk (st := skind) l6 c6 k6 lT6
  have F7 := fun_mk (st := s_law_cell) l7 c7 k7
  have F8 := fun_mk (st := s_law_names) l8 c8 k8
  have F9 := fun_mk (st := s_law_bits) l9 c9 k9
  have F10 := fun_mk (st := s_law_world) l10 c10 k10
  have F11 := fun_mk (st := s_law_one) l11 c11 k11
  have F12 := fun_mk (st := s_law_flags) l12 c12 k12
  have F13 := fun_mk (st := s_law_same) l13 c13 k13
  have F14 := fun_mk (st := s_law_is) l14 c14 k14
  have F15 := fun_mk (st := s_law_number) l15 c15 k15
  have F16 := fun_mk (st := s_law_count_due) l16 c16 k16
  have F17 := fun_mk (st := s_law_row) l17 c17 k17
  have F18 := fun_mk (st := s_law_told) l18 c18 k18
  have F19 := fun_mk (st := slaw) l19 c19 k19
  have GX0 := gx_mk xlP xmP xsP xqP xgP xtP
  have m : Blt w K mg := ⟨PySem.W.mg_none_of X G z0,
      PySem.W.mg_none_of X G z1,
      PySem.W.mg_none_of X G z2,
      PySem.W.mg_none_of X G z3,
      PySem.W.mg_none_of X G z4,
      PySem.W.mg_none_of X G z5,
      PySem.W.mg_none_of X G z6,
      PySem.W.mg_none_of X G z7,
      ⟨_, (.int 6), PySem.W.mg_of X G gMOST_DEPTH, ⟨_, rfl⟩, fun _ => (.int _)⟩,
      ⟨_, (.int 600), PySem.W.mg_of X G gMOST_POWER, ⟨_, rfl⟩, fun _ => (.int _)⟩,
      show XAll K mg XL from xall_mk GX0 (PySem.W.mg_of X G xaP) (ps := ([("NoWorld", xc0), ("NoTongue", xc1), ("NoSaying", xc2), ("NoMore", xc3), ("NoName", xc4), ("NoLetter", xc5), ("TooMany", xc6), ("NoCount", xc7), ("NoPoint", xc8), ("NoRow", xc9)] : List (Str × Addr))) (List.forall_mem_cons.mpr ⟨⟨xa0, xe_mk xl0 xg0 xh0 xk0, PySem.W.mg_of X G xa0⟩, List.forall_mem_cons.mpr ⟨⟨xa1, xe_mk xl1 xg1 xh1 xk1, PySem.W.mg_of X G xa1⟩, List.forall_mem_cons.mpr ⟨⟨xa2, xe_mk xl2 xg2 xh2 xk2, PySem.W.mg_of X G xa2⟩, List.forall_mem_cons.mpr ⟨⟨xa3, xe_mk xl3 xg3 xh3 xk3, PySem.W.mg_of X G xa3⟩, List.forall_mem_cons.mpr ⟨⟨xa4, xe_mk xl4 xg4 xh4 xk4, PySem.W.mg_of X G xa4⟩, List.forall_mem_cons.mpr ⟨⟨xa5, xe_mk xl5 xg5 xh5 xk5, PySem.W.mg_of X G xa5⟩, List.forall_mem_cons.mpr ⟨⟨xa6, xe_mk xl6 xg6 xh6 xk6, PySem.W.mg_of X G xa6⟩, List.forall_mem_cons.mpr ⟨⟨xa7, xe_mk xl7 xg7 xh7 xk7, PySem.W.mg_of X G xa7⟩, List.forall_mem_cons.mpr ⟨⟨xa8, xe_mk xl8 xg8 xh8 xk8, PySem.W.mg_of X G xa8⟩, List.forall_mem_cons.mpr ⟨⟨xa9, xe_mk xl9 xg9 xh9 xk9, PySem.W.mg_of X G xa9⟩, fun _ z => nomatch z⟩⟩⟩⟩⟩⟩⟩⟩⟩⟩) xd,
      xfl_mk xa7 (xe_mk xl7 xg7 xh7 xk7) xftold,
      xfl_mk xa8 (xe_mk xl8 xg8 xh8 xk8) xfpoint,
      xfl_mk xa6 (xe_mk xl6 xg6 xh6 xk6) xfmany⟩
  refine ⟨PySem.W.fnOf "law" "law" (defArgs slaw) (defBody slaw) (defScope slaw) .none kV19 dc19 pm19 an19 cd19 ct19, fun s v => .of_eq rfl, fun base _ _ => ?_⟩
  have R_NoCount : RCls l.prog w K mg base 1 "NoCount" "told" := rcls_mk (st := (topC 9 0)) GX0 (xe_mk xl7 xg7 xh7 xk7) (PySem.W.mg_of X G xaP) (PySem.W.mg_of X G xa7) xa7 xl7 xm7 xs7 xi7 xj7 xo7 (fun_mk (st := (topC 9 0)) xu7 xv7 xw7) xp7 ⟨_, xu7, xz7⟩ ⟨rfl, rfl, rfl, by decide +kernel, rfl, by decide +kernel, by decide +kernel⟩ rfl (fun _ => ⟨_, rfl⟩) (fun _ _ _ _ _ _ => rfl) (.inl rfl) (.inl rfl) (by decide) (by rw [typeLookup_type, builtinLookup_eq_fast]; kernel_rfl) xyP xrP xeP (by decide) (by decide) (fun _ _ _ _ _ _ us hl => match us, hl with | [_, _], _ => rfl)
  have R_TooMany : RCls l.prog w K mg base 1 "TooMany" "many" := rcls_mk (st := (topC 8 0)) GX0 (xe_mk xl6 xg6 xh6 xk6) (PySem.W.mg_of X G xaP) (PySem.W.mg_of X G xa6) xa6 xl6 xm6 xs6 xi6 xj6 xo6 (fun_mk (st := (topC 8 0)) xu6 xv6 xw6) xp6 ⟨_, xu6, xz6⟩ ⟨rfl, rfl, rfl, by decide +kernel, rfl, by decide +kernel, by decide +kernel⟩ rfl (fun _ => ⟨_, rfl⟩) (fun _ _ _ _ _ _ => rfl) (.inl rfl) (.inl rfl) (by decide) (by rw [typeLookup_type, builtinLookup_eq_fast]; kernel_rfl) xyP xrP xeP (by decide) (by decide) (fun _ _ _ _ _ _ us hl => match us, hl with | [_, _], _ => rfl)
  have C_is_whole := calis_whole (P := l.prog) (w := w) (base := base) m  F0 (PySem.W.mg_of X G a0)
  have C_need_count := calneed_count (P := l.prog) (w := w) (base := base) m C_is_whole R_NoCount F1 (PySem.W.mg_of X G a1)
  have C_power := calpower (P := l.prog) (w := w) (base := base) m  F2 (PySem.W.mg_of X G a2)
  have C_sorted_once := calsorted_once (P := l.prog) (w := w) (base := base) m  F3 (PySem.W.mg_of X G a3)
  have C_face_of := calface_of (P := l.prog) (w := w) (base := base) m  F4 (PySem.W.mg_of X G a4)
  have C_kind_of := calkind_of (P := l.prog) (w := w) (base := base) m C_face_of C_sorted_once F5 (PySem.W.mg_of X G a5) 10
  have O_kind := fokkind (P := l.prog) (w := w) (base := base) m C_need_count C_power C_kind_of R_TooMany F6
  have C_kind := calkind O_kind F6 (PySem.W.mg_of X G a6)
  have D_kind := caldkind O_kind F6 (PySem.W.mg_of X G a6)
  have C__law_cell := cal_law_cell (P := l.prog) (w := w) (base := base) m  F7 (PySem.W.mg_of X G a7)
  have C__law_names := cal_law_names (P := l.prog) (w := w) (base := base) m  F8 (PySem.W.mg_of X G a8)
  have C__law_bits := cal_law_bits (P := l.prog) (w := w) (base := base) m  F9 (PySem.W.mg_of X G a9)
  have C__law_world := cal_law_world (P := l.prog) (w := w) (base := base) m C__law_bits F10 (PySem.W.mg_of X G a10)
  have C__law_one := cal_law_one (P := l.prog) (w := w) (base := base) m C__law_cell C__law_names C__law_world F11 (PySem.W.mg_of X G a11)
  have C__law_flags := cal_law_flags (P := l.prog) (w := w) (base := base) m  F12 (PySem.W.mg_of X G a12)
  have C__law_same := cal_law_same (P := l.prog) (w := w) (base := base) m  F13 (PySem.W.mg_of X G a13)
  have C__law_is := cal_law_is (P := l.prog) (w := w) (base := base) m C__law_flags C__law_same F14 (PySem.W.mg_of X G a14)
  have C__law_number := cal_law_number (P := l.prog) (w := w) (base := base) m  F15 (PySem.W.mg_of X G a15)
  have C__law_count_due := cal_law_count_due (P := l.prog) (w := w) (base := base) m C__law_same F16 (PySem.W.mg_of X G a16)
  have C__law_row := cal_law_row (P := l.prog) (w := w) (base := base) m C__law_cell F17 (PySem.W.mg_of X G a17)
  have C__law_told := cal_law_told (P := l.prog) (w := w) (base := base) m C__law_cell C_kind C__law_row D_kind F18 (PySem.W.mg_of X G a18)
  exact oklaw m C__law_one C__law_cell C__law_number C__law_count_due C__law_told C__law_is F19
theorem sp_main (K : PySem.W.Frag) (H : Hp) (a : Addr) (ns : List Int) (hl : ns.length ≤ 63) (hO : Only H) (hS : SqL K H a (ns.map V.int)) : spD K 1 K53.Flaw [.ref a] H (fun v _ => v = .bl true) fun _ _ _ => False := by
  refine ⟨fun _ => none, [.bor (ns.map D.int)], fun _ _ z => (by cases z), rfl, ⟨_, [], rfl, ⟨a, _, rfl, hS, ?_⟩, rfl⟩, ?_⟩
  · exact K01.reps_ints ns
  · rw [main_ok ns hl]
    intro v J H2 _ r
    cases r
    rfl
theorem walk {l : PySem.W.OpenLaw} {q : Program} {loose : List Str} {XP : (Str → Option Value) → Heap → Prop} {YP : World → Heap → Prop} {d : DefRec} {K : Params → PySem.W.Frag} (hn : l.most = some 63) (hdf : d.params.defaults = [])
    (hY : ∀ (w : World) (h : Heap), YP w h → (K w.params).In h)
    (F : ∀ (w : World) (mg : Str → Option Value) (fa : Addr) (h : Heap), (K w.params).In h → h.Ns mainGlobals mg → mg d.name = some (.ref fa) →
      ∃ fd : FuncData, (∀ (s : Shared) (u : Value), BindsTo s fd ⟨[u], []⟩ [("_law_script", u)]) ∧ ∀ base : Heap, (K w.params).In base → base.Ns mainGlobals mg → FnOk l.prog w (K w.params) mg base CX0 14 fa fd ["_law_script"] (spD (K w.params) 1 K53.Flaw)) :
    PySem.W.WalkO q loose XP YP l.row.toRowW d [] (fun f vs => PySem.call f vs) :=
  L2.walk_of (n := 63) (k := 14) (x := "_law_script") (CX := fun _ => CX0) (sp := fun w => spD (K w.params) 1 K53.Flaw) hn (by decide) hdf ⟨rfl, by decide, by decide⟩ hY F (fun w H a ns hl hO hS => sp_main _ H a ns hl hO hS) fun _ _ _ _ _ z => z
end K53
open PySem PySem.W PyProof.Rows
set_option maxRecDepth 100000 in
set_option maxHeartbeats 0 in
theorem PySem.Challenge.cw_pickalike_k53_kinds_refused_holds : PySem.Challenge.rw_pickalike_k53_kinds_refused.Holds := by
  refine holds_law K53.look fun said => ?_
  refine holds_open (q := K53.VW) (XP := XL K53.VW []) (YP := Hook.says K53.HK) K53.left (Hook.of K53.HK) (Hook.keeps K53.HK) (fun s e => xl_of s (Bool.and_eq_true_iff.mp e).1) XL.keeps (by rfl) (by rfl) (by rfl) (fun s e => recFacts_of (Bool.and_eq_true_iff.mp e).2) (by rfl) said (by decide +kernel) ⟨rfl, rfl, rfl, rfl, rfl, by decide +kernel⟩ ?hw ?hc
  (case hw => w_witness2)
  delta K53.HK
  k_fill
  refine K53.walk (l := PySem.Challenge.rw_pickalike_k53_kinds_refused) rfl rfl (K := K53.KF) (fun w h Y => PySem.W.kIn_of Y) ?F
  case F =>
    intro w mg fa h KX G hmg
    refine' K53.all_mk KX G hmg ?a0 ?l0 ?c0 ?k0 ?a1 ?l1 ?c1 ?k1 ?a2 ?l2 ?c2 ?k2 ?a3 ?l3 ?c3 ?k3 ?a4 ?l4 ?c4 ?k4 ?a5 ?l5 ?c5 ?k5 ?a6 ?l6 ?c6 ?k6 ?lT6 ?a7 ?l7 ?c7 ?k7 ?a8 ?l8 ?c8 ?k8 ?a9 ?l9 ?c9 ?k9 ?a10 ?l10 ?c10 ?k10 ?a11 ?l11 ?c11 ?k11 ?a12 ?l12 ?c12 ?k12 ?a13 ?l13 ?c13 ?k13 ?a14 ?l14 ?c14 ?k14 ?a15 ?l15 ?c15 ?k15 ?a16 ?l16 ?c16 ?k16 ?a17 ?l17 ?c17 ?k17 ?a18 ?l18 ?c18 ?k18 ?a19 ?l19 ?c19 ?k19 ?z0 ?z1 ?z2 ?z3 ?z4 ?z5 ?z6 ?z7 ?gMOST_DEPTH ?gMOST_POWER ?xaP ?xlP ?xmP ?xsP ?xqP ?xgP ?xtP ?xa0 ?xl0 ?xg0 ?xh0 ?xk0 ?xa1 ?xl1 ?xg1 ?xh1 ?xk1 ?xa2 ?xl2 ?xg2 ?xh2 ?xk2 ?xa3 ?xl3 ?xg3 ?xh3 ?xk3 ?xa4 ?xl4 ?xg4 ?xh4 ?xk4 ?xa5 ?xl5 ?xg5 ?xh5 ?xk5 ?xa6 ?xl6 ?xg6 ?xh6 ?xk6 ?xa7 ?xl7 ?xg7 ?xh7 ?xk7 ?xa8 ?xl8 ?xg8 ?xh8 ?xk8 ?xa9 ?xl9 ?xg9 ?xh9 ?xk9 ?xftold ?xfpoint ?xfmany ?xp7 ?xm7 ?xs7 ?xi7 ?xj7 ?xo7 ?xu7 ?xv7 ?xw7 ?xz7 ?xp6 ?xm6 ?xs6 ?xi6 ?xj6 ?xo6 ?xu6 ?xv6 ?xw6 ?xz6 ?xyP ?xbP ?xrP ?xeP ?xd
    (case a0 => k_is)
    (case l0 => k_is)
    (case c0 => k_is)
    (case k0 => k_is)
    (case a1 => k_is)
    (case l1 => k_is)
    (case c1 => k_is)
    (case k1 => k_is)
    (case a2 => k_is)
    (case l2 => k_is)
    (case c2 => k_is)
    (case k2 => k_is)
    (case a3 => k_is)
    (case l3 => k_is)
    (case c3 => k_is)
    (case k3 => k_is)
    (case a4 => k_is)
    (case l4 => k_is)
    (case c4 => k_is)
    (case k4 => k_is)
    (case a5 => k_is)
    (case l5 => k_is)
    (case c5 => k_is)
    (case k5 => k_is)
    (case a6 => k_is)
    (case l6 => k_is)
    (case c6 => k_is)
    (case k6 => k_is)
    (case lT6 => k_is)
    (case a7 => k_is)
    (case l7 => k_is)
    (case c7 => k_is)
    (case k7 => k_is)
    (case a8 => k_is)
    (case l8 => k_is)
    (case c8 => k_is)
    (case k8 => k_is)
    (case a9 => k_is)
    (case l9 => k_is)
    (case c9 => k_is)
    (case k9 => k_is)
    (case a10 => k_is)
    (case l10 => k_is)
    (case c10 => k_is)
    (case k10 => k_is)
    (case a11 => k_is)
    (case l11 => k_is)
    (case c11 => k_is)
    (case k11 => k_is)
    (case a12 => k_is)
    (case l12 => k_is)
    (case c12 => k_is)
    (case k12 => k_is)
    (case a13 => k_is)
    (case l13 => k_is)
    (case c13 => k_is)
    (case k13 => k_is)
    (case a14 => k_is)
    (case l14 => k_is)
    (case c14 => k_is)
    (case k14 => k_is)
    (case a15 => k_is)
    (case l15 => k_is)
    (case c15 => k_is)
    (case k15 => k_is)
    (case a16 => k_is)
    (case l16 => k_is)
    (case c16 => k_is)
    (case k16 => k_is)
    (case a17 => k_is)
    (case l17 => k_is)
    (case c17 => k_is)
    (case k17 => k_is)
    (case a18 => k_is)
    (case l18 => k_is)
    (case c18 => k_is)
    (case k18 => k_is)
    (case a19 => k_is)
    (case l19 => k_is)
    (case c19 => k_is)
    (case k19 => k_is)
    (case z0 => k_is)
    (case z1 => k_is)
    (case z2 => k_is)
    (case z3 => k_is)
    (case z4 => k_is)
    (case z5 => k_is)
    (case z6 => k_is)
    (case z7 => k_is)
    (case gMOST_DEPTH => k_is)
    (case gMOST_POWER => k_is)
    (case xaP => k_is)
    (case xlP => k_is)
    (case xmP => k_is)
    (case xsP => rfl)
    (case xqP => rfl)
    (case xgP => k_is)
    (case xtP => k_is)
    (case xa0 => k_is)
    (case xl0 => k_is)
    (case xg0 => k_is)
    (case xh0 => k_is)
    (case xk0 => k_is)
    (case xa1 => k_is)
    (case xl1 => k_is)
    (case xg1 => k_is)
    (case xh1 => k_is)
    (case xk1 => k_is)
    (case xa2 => k_is)
    (case xl2 => k_is)
    (case xg2 => k_is)
    (case xh2 => k_is)
    (case xk2 => k_is)
    (case xa3 => k_is)
    (case xl3 => k_is)
    (case xg3 => k_is)
    (case xh3 => k_is)
    (case xk3 => k_is)
    (case xa4 => k_is)
    (case xl4 => k_is)
    (case xg4 => k_is)
    (case xh4 => k_is)
    (case xk4 => k_is)
    (case xa5 => k_is)
    (case xl5 => k_is)
    (case xg5 => k_is)
    (case xh5 => k_is)
    (case xk5 => k_is)
    (case xa6 => k_is)
    (case xl6 => k_is)
    (case xg6 => k_is)
    (case xh6 => k_is)
    (case xk6 => k_is)
    (case xa7 => k_is)
    (case xl7 => k_is)
    (case xg7 => k_is)
    (case xh7 => k_is)
    (case xk7 => k_is)
    (case xa8 => k_is)
    (case xl8 => k_is)
    (case xg8 => k_is)
    (case xh8 => k_is)
    (case xk8 => k_is)
    (case xa9 => k_is)
    (case xl9 => k_is)
    (case xg9 => k_is)
    (case xh9 => k_is)
    (case xk9 => k_is)
    (case xftold => k_is)
    (case xfpoint => k_is)
    (case xfmany => k_is)
    (case xp7 => k_is)
    (case xm7 => k_is)
    (case xs7 => rfl)
    (case xi7 => rfl)
    (case xj7 => rfl)
    (case xo7 => rfl)
    (case xu7 => k_is)
    (case xv7 => k_is)
    (case xw7 => k_is)
    (case xz7 => rfl)
    (case xp6 => k_is)
    (case xm6 => k_is)
    (case xs6 => rfl)
    (case xi6 => rfl)
    (case xj6 => rfl)
    (case xo6 => rfl)
    (case xu6 => k_is)
    (case xv6 => k_is)
    (case xw6 => k_is)
    (case xz6 => rfl)
    (case xyP => k_is)
    (case xbP => k_is)
    (case xrP => k_is)
    (case xeP => k_is)
    (case xd => decide)
