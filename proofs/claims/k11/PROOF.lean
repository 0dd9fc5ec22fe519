import PyProof.Rows.All
import Wide.All
import OpenK.AllK
import Wide.FinOn
import Lean
import PyProof.EqAt
import PyProof.EqKinds
import PyProof.TupleCall
import PyProof.NeKinds
import PySem.Challenge.RW_pickalike_k11_what_is_a_saying
set_option Elab.async false
set_option linter.all false
set_option maxRecDepth 100000
/-! THE HAND LAYER, for ints, bools, texts, own classes, LISTS and tuples (index, slices, in, append, pop ..), calls, loops. Paste it whole ahead of your own text; what your proof does not reach may be deleted. -/
namespace L2
open PySem PySem.Spec PyProof.Rows
/-- a key: an int or a str -/
abbrev Key := Sum Int Str
def keyIs : Key → Value → Bool
  | .inl k, v => Value.isInt k v
  | .inr x, v => Value.isStrOf x v
def keyH (w : World) : Key → Int
  | .inl k => hashInt k
  | .inr x => hashStr w x
theorem keyIs_shape : ∀ {k : Key} {v : Value}, keyIs k v = true → (∃ i t, k = Sum.inl i ∧ v = Value.int i t) ∨ (∃ x t, k = Sum.inr x ∧ v = Value.str x t)
  | .inl i, v, h => by
    obtain ⟨t, e⟩ := Value.isInt_shape (k := i) (v := v) h
    exact .inl ⟨i, t, rfl, e⟩
  | .inr x, v, h => by
    obtain ⟨t, e⟩ := Value.isStrOf_shape (x := x) (v := v) h
    exact .inr ⟨x, t, rfl, e⟩
theorem key_ll (a b : Int) : decide ((Sum.inl a : Key) = Sum.inl b) = (a == b) := by
  by_cases e : a = b
  · subst e; simp
  · have h : ¬ (Sum.inl a : Key) = Sum.inl b := fun q => e (Sum.inl.inj q)
    rw [decide_eq_false h]
    exact (beq_eq_false_iff_ne.mpr e).symm
theorem key_rr (a b : Str) : decide ((Sum.inr a : Key) = Sum.inr b) = decide (a = b) := by
  by_cases e : a = b
  · subst e; simp
  · have h : ¬ (Sum.inr a : Key) = Sum.inr b := fun q => e (Sum.inr.inj q)
    rw [decide_eq_false h, decide_eq_false e]
theorem key_lr (a : Int) (b : Str) : decide ((Sum.inl a : Key) = Sum.inr b) = false := decide_eq_false (fun q => nomatch q)
theorem key_rl (a : Str) (b : Int) : decide ((Sum.inr a : Key) = Sum.inl b) = false := decide_eq_false (fun q => nomatch q)
def mixKind (prog : Program) (w : World) : PySem.KeyKind prog w Key where
  is := keyIs
  hash := keyH w
  inj := fun v a b ha hb => by
    rcases keyIs_shape ha with ⟨i, t, rfl, rfl⟩ | ⟨x, t, rfl, rfl⟩
    · rcases keyIs_shape hb with ⟨j, u, rfl, e⟩ | ⟨y, u, rfl, e⟩
      · injection e with e1 _; rw [e1]
      · exact nomatch e
    · rcases keyIs_shape hb with ⟨j, u, rfl, e⟩ | ⟨y, u, rfl, e⟩
      · exact nomatch e
      · injection e with e1 _; rw [e1]
  byValue := fun k v h => by
    rcases keyIs_shape h with ⟨i, t, rfl, rfl⟩ | ⟨x, t, rfl, rfl⟩ <;> rfl
  pyHash := fun hv h => by
    rcases keyIs_shape hv with ⟨i, t, rfl, rfl⟩ | ⟨x, t, rfl, rfl⟩
    · exact wpAny_pyHash_int h
    · exact wpAny_pyHash_str h
  eqBool := fun hu hv h => by
    rcases keyIs_shape hu with ⟨i, t, rfl, rfl⟩ | ⟨x, t, rfl, rfl⟩
    · rcases keyIs_shape hv with ⟨j, u, rfl, rfl⟩ | ⟨y, u, rfl, rfl⟩
      · rw [key_ll] at h; exact wpAny_eqBool_int h
      · rw [key_lr] at h; exact SeqAt.EqAt.int_str i t y u _ _ _ _ h
    · rcases keyIs_shape hv with ⟨j, u, rfl, rfl⟩ | ⟨y, u, rfl, rfl⟩
      · rw [key_rl] at h; exact SeqAt.EqAt.str_int x t j u _ _ _ _ h
      · rw [key_rr] at h; exact wpAny_eqBool_str h
  «strs» := fun k x t v h => by
    rcases keyIs_shape h with ⟨i, u, rfl, e⟩ | ⟨y, u, rfl, e⟩
    · exact nomatch e
    · injection e with e1 _
      subst e1
      cases v <;> rfl
end L2
namespace L2
open PySem PySem.Spec PyProof.Rows
/-- a value, without the heap -/
inductive V where
  | non | bl (b : Bool) | int (i : Int) | str (x : Str) | byt (b : Array UInt8) | flt (b : UInt64) | ref (a : Addr) | ty (n : String)
  deriving DecidableEq
def RelV : V → Value → Prop
  | .non, u => u = Value.none
  | .bl b, u => u = Value.bool b
  | .int i, u => ∃ t, u = Value.int i t
  | .str x, u => ∃ t, u = Value.str x t
  | .byt b, u => ∃ t, u = Value.bytes b t
  | .flt b, u => ∃ t, u = Value.float b t
  | .ref a, u => u = Value.ref a
  | .ty n, u => u = Value.type n
abbrev Vals : List V → List Value → Prop := Paired RelV
theorem Vals.length {xs : List V} {us : List Value} (r : Vals xs us) : xs.length = us.length := Paired.length r
theorem Vals.get : ∀ {xs : List V} {us : List Value} {i : Nat} {x : V}, Vals xs us → xs[i]? = some x → ∃ u, us[i]? = some u ∧ RelV x u
  | _, _, _, _, .nil, e => by simp at e
  | _, _, 0, _, .cons r _, e => by simp at e; subst e; exact ⟨_, rfl, r⟩
  | _, _, i + 1, x, .cons _ t, e => by
    obtain ⟨u, h1, h2⟩ := Vals.get (i := i) (x := x) t (by simpa using e)
    exact ⟨u, by simpa using h1, h2⟩
theorem Vals.set {x : V} {u : Value} (r : RelV x u) : ∀ {xs : List V} {us : List Value} (i : Nat), Vals xs us → Vals (xs.set i x) (us.set i u)
  | _, _, _, .nil => .nil
  | _, _, 0, .cons _ t => .cons r t
  | _, _, i + 1, .cons q t => .cons q (Vals.set r i t)
theorem Vals.append : ∀ {xs ys : List V} {us ws : List Value}, Vals xs us → Vals ys ws → Vals (xs ++ ys) (us ++ ws)
  | _, _, _, _, .nil, s => s
  | _, _, _, _, .cons r t, s => .cons r (Vals.append t s)
theorem Vals.take : ∀ {xs : List V} {us : List Value} (n : Nat), Vals xs us → Vals (xs.take n) (us.take n)
  | _, _, 0, _ => .nil
  | _, _, _ + 1, .nil => .nil
  | _, _, n + 1, .cons r t => .cons r (Vals.take n t)
theorem Vals.drop : ∀ {xs : List V} {us : List Value} (n : Nat), Vals xs us → Vals (xs.drop n) (us.drop n)
  | _, _, 0, r => r
  | _, _, _ + 1, .nil => .nil
  | _, _, n + 1, .cons _ t => Vals.drop n t
def RelO : Option V → Option Value → Prop
  | some v, some u => RelV v u
  | none, none => True
  | _, _ => False
def KV {κ : Type} : List (κ × V) → List (κ × Value) → Prop := Paired fun (p : κ × V) (q : κ × Value) => p.1 = q.1 ∧ RelV p.2 q.2
/-- a key of a dict (00_mix): an int or a text -/
def kV : Key → V
  | .inl i => .int i
  | .inr x => .str x
/-- what stands at a tracked address -/
inductive HO where
  /-- a list -/
  | lst (xs : List V)
  /-- a tuple (never changes) -/
  | tup (xs : List V)
  /-- a dict whose keys are ints and texts; one whose keys are tuples of ints and texts (the empty one is both) -/
  | dK (kvs : List (Key × V)) | dT (kvs : List (List Key × V))
  /-- a set of ints: its members, its size -/
  | set (S : Int → Bool) (n : Nat)
  /-- an instance of the class at C, its dict at dx, its attributes -/
  | ins (C dx : Addr) (fs : List (Str × V))
  /-- the dict of the instance at x -/
  | own (x : Addr)
  /-- the dict of an exception -/
  | xd (fs : List (Str × V))
  /-- a bound method, f of x -/
  | met (f x : Addr)
  /-- a range object lo, lo + 1, .. below hi -/
  | rng (lo hi : Int)
  /-- a thing that is known to the object (the script; a dict while a loop walks it): read, never written while it is so -/
  | frz (o : Obj) (u : HO)
  /-- a code object's table -/
  | tbl (ps : Array Value)
  /-- any other thing, by what is true of its one object (a def of one's own: SetO a S n := HO.ext fun h => ..) -/
  | ext (φ : Heap → Prop)
abbrev Hp := Addr → Option HO
def upd (H : Hp) (a : Addr) (o : HO) : Hp := fun b => if b = a then some o else H b
theorem upd_same {H : Hp} {a : Addr} {o : HO} : upd H a o a = some o := by unfold upd; rw [if_pos rfl]
theorem upd_ne {H : Hp} {a b : Addr} {o : HO} (h : b ≠ a) : upd H a o b = H b := by unfold upd; rw [if_neg h]
theorem ne_of_none {H : Hp} {a b : Addr} {o : HO} (h : H a = some o) (h' : H b = none) : a ≠ b := by
  intro e; subst e; rw [h] at h'; cases h'
section
variable (P : Program) (w : World)
def ObjOk (H : Hp) (h : Heap) (a : Addr) : HO → Prop
  | .lst xs => xs.length ≤ sizeLine ∧ ∃ (its : List Value) (n : Nat), Vals xs its ∧ h.get? a = some { cls := .type "list", data := .seq its.toArray n }
  | .tup xs => xs.length ≤ sizeLine ∧ ∃ its : List Value, Vals xs its ∧ IsTup h a its.toArray
  | .dK kvs => kvs.length ≤ sizeLine ∧ (a == sysModules) = false ∧ ∃ vs, KV kvs vs ∧ h.DictOf (mixKind P w) a vs
  | .dT kvs => kvs.length ≤ sizeLine ∧ (a == sysModules) = false ∧ ∃ xs : List (List Key × Addr × Value),
      Paired (fun (p : List Key × V) (q : List Key × Addr × Value) => p.1 = q.1 ∧ H q.2.1 = some (.tup (p.1.map kV)) ∧ RelV p.2 q.2.2) kvs xs ∧
      ∃ o es ep, h.get? a = some o ∧ o.ExactDict ∧ o.data = .dict es ep ∧ es.toList = xs.map (entryOfKey (tupleKind (mixKind P w))) ∧ (xs.map (·.1)).Nodup
  | .set S n => h.SetOf (intKind P w) a S n
  | .ins C dx fs => H dx = some (.own a) ∧ fs.length ≤ 1000 ∧ dx ≠ a ∧ h.get? a = some (PySem.W.instObj C dx) ∧
      ∃ mA, h.Ns1 dx mA ∧ (∀ f, RelO (fs.lookup f) (mA f)) ∧ PySem.Within mA (fs.map (·.1))
  | .own _ => ∃ o, h.get? a = some o
  | .xd fs => ∃ mA, h.Ns1 a mA ∧ ∀ f, RelO (fs.lookup f) (mA f)
  | .rng lo hi => ∃ t u v, h.get? a = some { cls := .type "range", data := .fields #[.int lo t, .int hi u, .int 1 v] }
  | .frz o u => h.get? a = some o ∧ ObjOk H h a u
  | .tbl ps => h.get? a = some { cls := .none, data := .fields ps }
  | .met f x => h.get? a = some (PySem.W.methodObj (.ref f) (.ref x))
  | .ext φ => φ h ∧ (∃ o, h.get? a = some o) ∧ ∀ h1 h2 : Heap, φ h1 → (∀ o, h1.get? a = some o → h2.get? a = some o) → φ h2
/-- the abstract heap is held -/
def HOk (H : Hp) (h : Heap) : Prop := ∀ a o, H a = some o → ObjOk P w H h a o
end
section
variable {P : Program} {w : World} {H H' : Hp} {h h' : Heap} {a : Addr} {o : HO}
theorem ObjOk.lt (x : ObjOk P w H h a o) : a < h.objs.size := by
  cases o with
  | lst xs => obtain ⟨_, _, _, _, e⟩ := x; exact Heap.lt_size e
  | tup xs => obtain ⟨_, _, _, p⟩ := x; exact p.lt
  | dK kvs => obtain ⟨_, _, _, _, o, _, _, e, _⟩ := x; exact Heap.lt_size e
  | dT kvs => obtain ⟨_, _, _, _, o, _, _, e, _⟩ := x; exact Heap.lt_size e
  | set S n => obtain ⟨o, _, _, _, e, _⟩ := x; exact Heap.lt_size e
  | ins C dx fs => obtain ⟨_, _, _, e, _⟩ := x; exact Heap.lt_size e
  | own y => obtain ⟨_, e⟩ := x; exact Heap.lt_size e
  | xd fs => obtain ⟨_, ⟨_, _, _, e, _⟩, _⟩ := x; exact Heap.lt_size e
  | rng lo hi => obtain ⟨_, _, _, e⟩ := x; exact Heap.lt_size e
  | frz ob u => obtain ⟨e, _⟩ := x; exact Heap.lt_size e
  | tbl ps => exact Heap.lt_size (show h.get? a = some _ from x)
  | met f y => exact Heap.lt_size (show h.get? a = some _ from x)
  | ext φ => obtain ⟨_, ⟨_, e⟩, _⟩ := x; exact Heap.lt_size e
theorem Paired.mapP {α β : Type} {F G : α → β → Prop} : ∀ {l₁ : List α} {l₂ : List β}, Paired F l₁ l₂ → (∀ a b, F a b → G a b) → Paired G l₁ l₂
  | _, _, .nil, _ => .nil
  | _, _, .cons r t, f => .cons (f _ _ r) (Paired.mapP t f)
/-- what an object's description leans on: its own object, its own dict, the tuples -/
theorem ObjOk.stay (x : ObjOk P w H h a o) (k : ∀ b u, (b = a ∨ H b = some (.own a)) → h.get? b = some u → h'.get? b = some u)
    (ho : ∀ b, H b = some (.own a) → H' b = some (.own a)) (ht : ∀ b xs, H b = some (.tup xs) → H' b = some (.tup xs)) : ObjOk P w H' h' a o := by
  induction o with
  | lst xs => obtain ⟨z, its, n, r, e⟩ := x; exact ⟨z, its, n, r, k _ _ (.inl rfl) e⟩
  | tup xs => obtain ⟨z, its, r, ob, e, c⟩ := x; exact ⟨z, its, r, ob, k _ _ (.inl rfl) e, c⟩
  | dK kvs => obtain ⟨z, y, vs, r, ob, es, ep, e, c⟩ := x; exact ⟨z, y, vs, r, ob, es, ep, k _ _ (.inl rfl) e, c⟩
  | dT kvs =>
    obtain ⟨z, y, xs, r, ob, es, ep, e, c⟩ := x
    exact ⟨z, y, xs, Paired.mapP r fun p q z => ⟨z.1, ht _ _ z.2.1, z.2.2⟩, ob, es, ep, k _ _ (.inl rfl) e, c⟩
  | set S n => obtain ⟨ob, es, ep, t, e, c⟩ := x; exact ⟨ob, es, ep, t, k _ _ (.inl rfl) e, c⟩
  | ins C dx fs =>
    obtain ⟨d, z, ne, e, mA, ⟨od, es, ep, e2, c⟩, r⟩ := x
    exact ⟨ho _ d, z, ne, k _ _ (.inl rfl) e, mA, ⟨od, es, ep, k _ _ (.inr d) e2, c⟩, r⟩
  | own y => obtain ⟨ob, e⟩ := x; exact ⟨ob, k _ _ (.inl rfl) e⟩
  | xd fs => obtain ⟨mA, ⟨od, es, ep, e, c⟩, r⟩ := x; exact ⟨mA, ⟨od, es, ep, k _ _ (.inl rfl) e, c⟩, r⟩
  | rng lo hi => obtain ⟨t, u, v, e⟩ := x; exact ⟨t, u, v, k _ _ (.inl rfl) e⟩
  | frz ob u ih => obtain ⟨e, q⟩ := x; exact ⟨k _ _ (.inl rfl) e, ih q⟩
  | tbl ps =>
    have e : h.get? a = some { cls := .none, data := .fields ps } := x
    show h'.get? a = some { cls := .none, data := .fields ps }
    exact k a _ (.inl rfl) e
  | met f y =>
    have e : h.get? a = some (PySem.W.methodObj (.ref f) (.ref y)) := x
    show h'.get? a = some (PySem.W.methodObj (.ref f) (.ref y))
    exact k a _ (.inl rfl) e
  | ext φ => obtain ⟨p, ⟨o, e⟩, st⟩ := x; exact ⟨st _ _ p fun o q => k _ _ (.inl rfl) q, ⟨o, k _ _ (.inl rfl) e⟩, st⟩
theorem HOk.lt (x : HOk P w H h) (e : H a = some o) : a < h.objs.size := (x a o e).lt
theorem HOk.fresh (x : HOk P w H h) (e : h.objs.size ≤ a) : H a = none := by
  cases q : H a with
  | none => rfl
  | some u => exact absurd (Nat.lt_of_lt_of_le (x.lt q) e) (Nat.lt_irrefl _)
/-- every object of the heap is kept -/
theorem HOk.kept (x : HOk P w H h) (k : ∀ b u, h.get? b = some u → h'.get? b = some u) : HOk P w H h' := fun a o e =>
  (x a o e).stay (fun b u _ q => k b u q) (fun _ q => q) fun _ _ q => q
/-- a new object is laid and tracked -/
theorem HOk.laid (x : HOk P w H h) (k : ∀ b u, h.get? b = some u → h'.get? b = some u) (hp : h.objs.size ≤ a) (new : ObjOk P w (upd H a o) h' a o) : HOk P w (upd H a o) h' := fun b u e => by
  have hn := x.fresh hp
  by_cases hb : b = a
  · subst hb; rw [upd_same] at e; cases e; exact new
  · rw [upd_ne hb] at e
    exact (x b u e).stay (fun c v _ q => k c v q) (fun c q => by rw [upd_ne (ne_of_none q hn)]; exact q) fun c xs q => by rw [upd_ne (ne_of_none q hn)]; exact q
end
/-- what may be read as u: it is u, or a known u -/
def Rd (H : Hp) (a : Addr) (u : HO) : Prop := H a = some u ∨ ∃ o, H a = some (.frz o u)
theorem Rd.of {H : Hp} {a : Addr} {u : HO} (h : H a = some u) : Rd H a u := .inl h
theorem Rd.ok {P : Program} {w : World} {H : Hp} {h : Heap} {a : Addr} {u : HO} (r : Rd H a u) (x : HOk P w H h) : ObjOk P w H h a u := by
  rcases r with r | ⟨o, r⟩
  · exact x a u r
  · obtain ⟨_, q⟩ := x a _ r
    exact q
/-- what may be written -/
def Mut : Option HO → Prop
  | some (.lst _) => True
  | some (.dK _) => True
  | some (.dT _) => True
  | some (.set _ _) => True
  | some (.ins _ _ _) => True
  | some (.ext _) => True
  | _ => False
section
variable {P : Program} {w : World} {H : Hp} {h h' : Heap} {x e : Addr} {o' : HO}
/-- the object at e is changed: x itself, or the dict of the instance x -/
theorem HOk.write (ok : HOk P w H h) (mu : Mut (H x)) (he : e = x ∨ H e = some (.own x)) (k : ∀ b u, b ≠ e → h.get? b = some u → h'.get? b = some u) (heo : ∃ u, h'.get? e = some u)
    (new : ObjOk P w (upd H x o') h' x o') : HOk P w (upd H x o') h' := fun b u q => by
  have nown : ∀ c y, H c = some (.own y) → c ≠ x := fun c y r z => by subst z; rw [r] at mu; exact mu
  have ntup : ∀ c xs, H c = some (.tup xs) → c ≠ x := fun c xs r z => by subst z; rw [r] at mu; exact mu
  by_cases hb : b = x
  · subst hb; rw [upd_same] at q; cases q; exact new
  · rw [upd_ne hb] at q
    by_cases hbe : b = e
    · have q' : H b = some (.own x) := by
        rcases he with z | z
        · exact absurd (hbe.trans z) hb
        · rw [hbe]; exact z
      rw [q] at q'; cases q'
      obtain ⟨v, hv⟩ := heo
      exact ⟨v, by rw [hbe]; exact hv⟩
    · refine (ok b u q).stay (fun c v hc r => k c v ?_ r) (fun c r => by rw [upd_ne (nown c b r)]; exact r) fun c xs r => by rw [upd_ne (ntup c xs r)]; exact r
      rcases hc with rfl | hc
      · exact hbe
      · rintro rfl
        rcases he with z | z
        · exact nown c b hc z
        · rw [hc] at z; cases z; exact hb rfl
end
/-! ### kept unless tracked; of the frames at fs (the callers') the slots may change (an exception that passes writes there); of the records at ex (iterators) nothing is said -/
structure Un (fs ex : List Addr) (H H' : Hp) (h h' : Heap) : Prop where
  keep : ∀ b o, h.get? b = some o → H b = none → b ∉ fs → b ∉ ex → h'.get? b = some o
  slot : ∀ b o, h.get? b = some o → H b = none → b ∈ fs → b ∉ ex → ∃ sl, h'.get? b = some { o with slots := sl }
  free : ∀ b o, h.get? b = some o → H b = none → b ∉ ex → H' b = none
  there : ∀ b o, h.get? b = some o → b ∉ ex → ∃ o', h'.get? b = some o'
  tups : ∀ b xs, H b = some (.tup xs) → H' b = some (.tup xs)
  frzs : ∀ b o u, H b = some (.frz o u) → H' b = some (.frz o u)
  tbls : ∀ b ps, H b = some (.tbl ps) → ∃ more, H' b = some (.tbl (ps ++ more))
section
variable {fs fs' ex ex' : List Addr} {H H1 H2 : Hp} {h h1 h2 h' : Heap} {a x e : Addr} {o : HO}
theorem Un.any (u : Un fs ex H H1 h h1) {b : Addr} {ob : Obj} (q : h.get? b = some ob) (n : H b = none) (hx : b ∉ ex) : ∃ sl, h1.get? b = some { ob with slots := sl } := by
  by_cases hb : b ∈ fs
  · exact u.slot b ob q n hb hx
  · exact ⟨ob.slots, u.keep b ob q n hb hx⟩
theorem Un.trans (a : Un fs ex H H1 h h1) (b : Un fs ex H1 H2 h1 h2) : Un fs ex H H2 h h2 where
  keep := fun c ob q n hc hx => b.keep c ob (a.keep c ob q n hc hx) (a.free c ob q n hx) hc hx
  slot := fun c ob q n hc hx => by
    obtain ⟨sl, e1⟩ := a.slot c ob q n hc hx
    obtain ⟨sl', e2⟩ := b.slot c _ e1 (a.free c ob q n hx) hc hx
    exact ⟨sl', e2⟩
  free := fun c ob q n hx => by
    obtain ⟨o', e1⟩ := a.there c ob q hx
    exact b.free c o' e1 (a.free c ob q n hx) hx
  there := fun c ob q hx => by
    obtain ⟨o', e1⟩ := a.there c ob q hx
    exact b.there c o' e1 hx
  tups := fun c xs q => b.tups c xs (a.tups c xs q)
  frzs := fun c ob xs q => b.frzs c ob xs (a.frzs c ob xs q)
  tbls := fun c ps q => by
    obtain ⟨m1, e1⟩ := a.tbls c ps q
    obtain ⟨m2, e2⟩ := b.tbls c _ e1
    exact ⟨m1 ++ m2, by rw [e2, Array.append_assoc]⟩
theorem Un.kept (k : ∀ b u, h.get? b = some u → h'.get? b = some u) : Un fs ex H H h h' :=
  ⟨fun b ob q _ _ _ => k b ob q, fun b ob q _ _ _ => ⟨ob.slots, k b ob q⟩, fun _ _ _ n _ => n, fun b ob q _ => ⟨ob, k b ob q⟩, fun _ _ q => q, fun _ _ _ q => q, fun _ ps q => ⟨#[], by rw [q]; simp⟩⟩
theorem Un.refl : Un fs ex H H h h := Un.kept fun _ _ q => q
theorem Un.laid (k : ∀ b u, h.get? b = some u → h'.get? b = some u) (hp : h.objs.size ≤ a) (hn : H a = none) : Un fs ex H (upd H a o) h h' where
  keep := fun b u q _ _ _ => k b u q
  slot := fun b u q _ _ _ => ⟨u.slots, k b u q⟩
  free := fun b u q n _ => by rw [upd_ne (Nat.ne_of_lt (Nat.lt_of_lt_of_le (Heap.lt_size q) hp))]; exact n
  there := fun b u q _ => ⟨u, k b u q⟩
  tups := fun b xs q => by rw [upd_ne (ne_of_none q hn)]; exact q
  frzs := fun b u xs q => by rw [upd_ne (ne_of_none q hn)]; exact q
  tbls := fun b ps q => ⟨#[], by rw [upd_ne (ne_of_none q hn), q]; simp⟩
theorem Un.write (mu : Mut (H x)) (he : e = x ∨ H e = some (.own x)) (k : ∀ b u, b ≠ e → h.get? b = some u → h'.get? b = some u) (heo : ∃ u, h'.get? e = some u) : Un fs ex H (upd H x o) h h' := by
  have hx : ∀ b, H b = none → b ≠ x := fun b n z => by subst z; rw [n] at mu; exact mu
  have hb : ∀ b, H b = none → b ≠ e := fun b n z => by
    subst z
    rcases he with r | r
    · exact hx b n r
    · rw [n] at r; cases r
  have hm : ∀ b u, H b = some u → ¬ Mut (some u) → b ≠ x := fun b u q nm z => by subst z; rw [q] at mu; exact nm mu
  refine ⟨fun b u q n _ _ => k b u (hb b n) q, fun b u q n _ _ => ⟨u.slots, k b u (hb b n) q⟩, fun b u q n _ => by rw [upd_ne (hx b n)]; exact n, fun b u q _ => ?_,
    fun b xs q => by rw [upd_ne (hm b _ q fun z => z)]; exact q, fun b u xs q => by rw [upd_ne (hm b _ q fun z => z)]; exact q, fun b ps q => ⟨#[], by rw [upd_ne (hm b _ q fun z => z), q]; simp⟩⟩
  by_cases hbe : b = e
  · subst hbe; exact heo
  · exact ⟨u, k b u hbe q⟩
theorem Un.mono (u : Un fs ex H H1 h h1) (hs : ∀ b ∈ fs, b ∈ fs') (hx : ∀ b ∈ ex, b ∈ ex') : Un fs' ex' H H1 h h1 :=
  ⟨fun b ob q n hb he => u.keep b ob q n (fun z => hb (hs b z)) fun z => he (hx b z), fun _ _ q n _ he => u.any q n fun z => he (hx _ z), fun b ob q n he => u.free b ob q n fun z => he (hx b z), fun b ob q he => u.there b ob q fun z => he (hx b z), u.tups, u.frzs, u.tbls⟩
end
/-! ### the heap without what is tracked -/
def trk (h : Heap) (H : Hp) : List Addr := (List.range h.objs.size).filter fun a => (H a).isSome
def hidT (h : Heap) (H : Hp) : Heap := PySem.W.hideAll h (trk h H)
theorem hidT_size (h : Heap) (H : Hp) : (hidT h H).objs.size = h.objs.size := PySem.W.hideAll_size _ _
theorem hidT_get {h : Heap} {H : Hp} {b : Addr} {o : Obj} (e : h.get? b = some o) (n : H b = none) : (hidT h H).get? b = some o :=
  PySem.W.hideAll_get _ e fun hm => by
    have q : (H b).isSome = true := (List.mem_filter.mp hm).2
    rw [n] at q; simp at q
theorem of_hidT {h : Heap} {H : Hp} {b : Addr} {o : Obj} (e : (hidT h H).get? b = some o) : h.get? b = some o ∧ H b = none := by
  have e' : h.get? b = some o := PySem.W.of_hideAll (trk h H) e
  refine ⟨e', ?_⟩
  cases q : H b with
  | none => rfl
  | some x =>
    have hm : b ∈ trk h H := List.mem_filter.mpr ⟨List.mem_range.mpr (Heap.lt_size e'), by simp [q]⟩
    have z : (hidT h H).get? b = none := PySem.W.hideAll_none (trk h H) hm
    rw [z] at e; cases e
/-! ### OpenK's ledger, filled with every new object but one -/
def allNews (g h : Heap) (L : Addr) : List (Addr × Obj) := (List.range h.objs.size).filterMap fun a => if a = L ∨ (g.get? a).isSome = true then none else (h.get? a).map fun o => (a, o)
def rest (g h : Heap) (L d : Addr) : List (Addr × Obj) := (allNews g h L).filter fun p => decide (p.1 ≠ d)
end L2
namespace L2
open PySem PySem.Spec PyProof.Rows
/-- the module's facts, over the base: the heap at the law's entry without what is tracked there -/
structure Mod (K : PySem.W.Frag) (mg : Str → Option Value) (base : Heap) : Prop where
  kin : K.In base
  glob : base.Ns mainGlobals mg
  blt : ∃ mb, base.Ns builtinsNs mb ∧ ∀ x : Str, x ≠ "__name__" → mb x = bootBuiltins x
  nolimit : base.NoLimit
/-- the context: a def's body (or a comprehension's block) running. base: fixed through the whole law; s₀, H₀: the entry; outer: the frames whose slots others may change (a def's callers); stack: all frames that run;
   ex: iterators that were made ahead of the entry and are walked here (a comprehension's); fn: the names whose cells were made at the entry (a def: all; a comprehension's block: its own); calm: not within an except suite; pn: pins that every state bears; xe: what is wanted of an exception that leaves the code -/
structure Cx where
  prog : Program
  w : World
  K : PySem.W.Frag
  mg : Str → Option Value
  base : Heap
  A : Around
  N : List Str
  s₀ : Shared
  H₀ : Hp
  env : Env
  outer : List Env
  stack : List Env
  ex : List Addr
  fn : Str → Bool
  calm : Bool
  pn : List (Addr × Obj)
  xe : Value → Shared → Prop
/-- the callers' frames -/
def frs (l : List Env) : List Addr := l.filterMap (·.frame)
abbrev Cx.fs (X : Cx) : List Addr := frs X.outer
def Vis (sc : Scope) (x : Str) : Prop := sc.names.lookup x = some .local ∨ sc.names.lookup x = some .cell ∨ sc.names.lookup x = some .free
def Loc (sc : Scope) (x : Str) : Prop := sc.names.lookup x = some .local ∨ sc.names.lookup x = some .cell
def Look (env : Env) (h : Heap) (m : Str → Option Value) (x : Str) (u : Value) : Prop :=
  (env.kindOf x = some .local ∧ m x = some u) ∨ ((env.kindOf x = some .cell ∨ env.kindOf x = some .free) ∧ ∃ c, env.cells.lookup x = some c ∧ h.IsCell c (some u))
structure Cx.Ok (X : Cx) : Prop where
  mod : Mod X.K X.mg X.base
  kind : X.env.scope.kind = .function
  glob : X.env.globals = mainGlobals
  blt : X.env.builtins = builtinsNs
  above : X.s₀.heap.objs.size ≤ X.env.locals
  inj : ∀ x y c, X.env.cells.lookup x = some c → X.env.cells.lookup y = some c → x = y
  has : ∀ x, (X.env.kindOf x = some .cell ∨ X.env.kindOf x = some .free) → ∃ c, X.env.cells.lookup x = some c
  cab : ∀ x c, X.fn x = true → X.env.cells.lookup x = some c → X.s₀.heap.objs.size ≤ c
  hd : X.calm = true → X.A.handled = none
  frames : X.A.frames = some X.stack
  stk : X.stack = X.outer ∨ (X.stack = X.env :: X.outer ∧ X.env.frame = some X.env.locals)
  exf : ∀ b ∈ X.ex, b ≠ X.env.locals ∧ ∀ x c, X.env.cells.lookup x = some c → c ≠ b
  bs : ∀ b o, X.base.get? b = some o → X.s₀.heap.get? b = some o ∧ X.H₀ b = none
  bsz : X.base.objs.size ≤ X.s₀.heap.objs.size
  noex : ∀ b o, X.base.get? b = some o → b ∉ X.ex
  exfs : ∀ b ∈ X.ex, b ∉ X.fs
  funs : X.s₀.heap.FunFrames X.base X.outer
  frf : ∀ b ∈ X.fs, X.H₀ b = none
structure Inv (X : Cx) (pins : List (Addr × Obj)) (σ : List (Option V)) (H : Hp) (s : Shared) : Prop where
  ok : X.Ok
  os : s.os = X.s₀.os
  bare : AllBare s.gens
  base : Un X.fs X.ex X.H₀ H X.s₀.heap s.heap
  loc : ∃ m, s.heap.Ns X.env.locals m ∧ ∀ (i : Nat) (x : Str) (v : V), X.N[i]? = some x → σ[i]? = some (some v) → Vis X.env.scope x → ∃ u, RelV v u ∧ Look X.env s.heap m x u
  cell : ∀ x c, X.env.cells.lookup x = some c → ∃ v, s.heap.IsCell c v
  free : H X.env.locals = none
  freeC : ∀ x c, X.env.cells.lookup x = some c → H c = none
  pin : ∀ p ∈ X.pn ++ pins, s.heap.get? p.1 = some p.2 ∧ H p.1 = none ∧ p.1 ≠ X.env.locals ∧ p.1 ∉ X.fs ∧ ∀ v, p.2.data ≠ .cell v
  hok : HOk X.prog X.w H s.heap
  len : σ.length = X.N.length
section
variable {X : Cx} {pins : List (Addr × Obj)} {σ : List (Option V)} {H H' : Hp} {s : Shared} {h' : Heap}
theorem Cx.Ok.nofr (ok : X.Ok) {b : Addr} {o : Obj} (e : X.base.get? b = some o) : b ∉ X.fs := fun hb => by
  have := (ok.funs.mem hb).1
  rw [e] at this; cases this
theorem Inv.bs (I : Inv X pins σ H s) : ∀ b o, X.base.get? b = some o → s.heap.get? b = some o ∧ H b = none := fun b o e =>
  ⟨I.base.keep b o (I.ok.bs b o e).1 (I.ok.bs b o e).2 (I.ok.nofr e) (I.ok.noex b o e), I.base.free b o (I.ok.bs b o e).1 (I.ok.bs b o e).2 (I.ok.noex b o e)⟩
theorem Inv.bk (I : Inv X pins σ H s) : ∀ b o, X.base.get? b = some o → s.heap.get? b = some o := fun b o e => (I.bs b o e).1
theorem Inv.mod (I : Inv X pins σ H s) : Mod X.K X.mg X.base := I.ok.mod
theorem Inv.kIn (I : Inv X pins σ H s) : X.K.In s.heap := I.ok.mod.kin.keeps I.bk
theorem Inv.nolimit (I : Inv X pins σ H s) : s.heap.NoLimit := I.ok.mod.nolimit.keeps I.bk
/-- the frame over the base: for OpenK's rules (K.In X.base is I.mod.kin) -/
theorem Inv.fr (I : Inv X pins σ H s) : ∃ m, Fr X.base X.env.locals s.heap m :=
  let ⟨m, hn, _⟩ := I.loc
  ⟨m, hn, I.bk, Nat.le_trans I.ok.bsz I.ok.above⟩
theorem Inv.lt (I : Inv X pins σ H s) : X.env.locals < s.heap.objs.size := let ⟨_, hn, _⟩ := I.loc; hn.lt
theorem Inv.sz (I : Inv X pins σ H s) : X.s₀.heap.objs.size ≤ s.heap.objs.size := Nat.le_trans I.ok.above (Nat.le_of_lt I.lt)
theorem Inv.nofs (I : Inv X pins σ H s) {a : Addr} (h : s.heap.objs.size ≤ a) : a ∉ X.fs := fun hb => by
  obtain ⟨_, o, ho, _⟩ := I.ok.funs.mem hb
  exact absurd (Nat.lt_of_lt_of_le (Heap.lt_size ho) (Nat.le_trans I.sz h)) (Nat.lt_irrefl _)
theorem Inv.cne (I : Inv X pins σ H s) : ∀ x c, X.env.cells.lookup x = some c → c ≠ X.env.locals := fun x c e z => by
  obtain ⟨v, o, ho, hd⟩ := I.cell x c e
  obtain ⟨m, ⟨o', es, ep, ho', hd', _⟩, _⟩ := I.loc
  rw [z, ho'] at ho; cases ho; rw [hd'] at hd; cases hd
theorem Inv.funs (I : Inv X pins σ H s) : s.heap.FunFrames X.base X.outer := by
  have all : ∀ (l : List Env), (∀ b ∈ frs l, b ∈ X.fs) → X.s₀.heap.FunFrames X.base l → s.heap.FunFrames X.base l := by
    intro l
    induction l with
    | nil => intro _ _; trivial
    | cons env r ih =>
      intro hs hl
      obtain ⟨hk, ⟨L, o, hf, hn, ho, hd⟩, hr⟩ := hl
      have hL : L ∈ X.fs := hs L (by unfold frs; rw [List.filterMap_cons, hf]; exact List.mem_cons_self)
      obtain ⟨sl, e⟩ := I.base.slot L o ho (I.ok.frf L hL) hL fun z => I.ok.exfs L z hL
      exact ⟨hk, ⟨L, _, hf, hn, e, hd⟩, ih (fun b hb => hs b (by unfold frs; rw [List.filterMap_cons, hf]; exact List.mem_cons_of_mem _ hb)) hr⟩
  exact all X.outer (fun _ hb => hb) I.ok.funs
/-- the frames that run, for a call -/
theorem Inv.stack (I : Inv X pins σ H s) : s.heap.FunFrames X.base X.stack := by
  rcases I.ok.stk with e | ⟨e, hf⟩
  · rw [e]; exact I.funs
  · rw [e]
    obtain ⟨m, hn, _⟩ := I.loc
    refine .cons (by rw [I.ok.kind]; decide) hf hn ?_ I.funs
    exact Heap.get?_none_of_le (Nat.le_trans I.ok.bsz I.ok.above)
theorem Inv.stkSub (I : Inv X pins σ H s) : ∀ b ∈ frs X.stack, b ∈ X.env.locals :: X.fs := fun b hb => by
  rcases I.ok.stk with e | ⟨e, hf⟩
  · rw [e] at hb; exact List.mem_cons_of_mem _ hb
  · rw [e] at hb
    unfold frs at hb
    rw [List.filterMap_cons, hf] at hb
    exact hb
theorem Inv.stkFree (I : Inv X pins σ H s) : ∀ b ∈ frs X.stack, H b = none := fun b hb => by
  rcases List.mem_cons.mp (I.stkSub b hb) with e | hb
  · rw [e]; exact I.free
  · obtain ⟨_, o, ho, _⟩ := I.ok.funs.mem hb
    exact I.base.free b o ho (I.ok.frf b hb) fun z => I.ok.exfs b z hb
/-- THE STEP: the untracked objects but the frame and the records at ch are kept (the callers' frames up to slots), the frame's map is kept, the new abstract heap is held -/
theorem Inv.step {g' : Array GenState} {t' : Nat} {d' : Drawn} {ch : List Addr} (I : Inv X pins σ H s)
    (hch : ∀ b ∈ ch, (b ∈ X.ex ∨ X.s₀.heap.objs.size ≤ b) ∧ b ≠ X.env.locals ∧ (∀ x c, X.env.cells.lookup x = some c → c ≠ b) ∧ ∀ p ∈ X.pn ++ pins, p.1 ≠ b)
    (keep : ∀ b o, b ≠ X.env.locals → b ∉ X.fs → b ∉ ch → s.heap.get? b = some o → H b = none → h'.get? b = some o)
    (slot : ∀ b o, b ≠ X.env.locals → b ∈ X.fs → b ∉ ch → s.heap.get? b = some o → H b = none → ∃ sl, h'.get? b = some { o with slots := sl }) (free : ∀ b o, b ∉ ch → s.heap.get? b = some o → H b = none → H' b = none)
    (there : ∀ b o, b ∉ ch → s.heap.get? b = some o → ∃ o', h'.get? b = some o')
    (tups : ∀ b xs, H b = some (.tup xs) → H' b = some (.tup xs)) (frzs : ∀ b o u, H b = some (.frz o u) → H' b = some (.frz o u)) (tbls : ∀ b ps, H b = some (.tbl ps) → ∃ more, H' b = some (.tbl (ps ++ more)))
    (ns : ∀ m, s.heap.Ns X.env.locals m → h'.Ns X.env.locals m) (hok : HOk X.prog X.w H' h') (hg : AllBare g') :
    Inv X pins σ H' { s with heap := h', gens := g', drawn := d', toks := t' } := by
  have neL : ∀ b o, X.s₀.heap.get? b = some o → b ≠ X.env.locals := fun b o e => Nat.ne_of_lt (Nat.lt_of_lt_of_le (Heap.lt_size e) I.ok.above)
  have neC : ∀ b o, X.s₀.heap.get? b = some o → b ∉ X.ex → b ∉ ch := fun b o e hx hb => by
    rcases (hch b hb).1 with z | z
    · exact hx z
    · exact absurd (Nat.lt_of_lt_of_le (Heap.lt_size e) z) (Nat.lt_irrefl _)
  have cellK : ∀ x c, X.env.cells.lookup x = some c → ∀ v, s.heap.IsCell c v → h'.IsCell c v := fun x c e v ⟨o, ho, hd⟩ => by
    have nch : c ∉ ch := fun z => (hch c z).2.2.1 x c e rfl
    by_cases hc : c ∈ X.fs
    · obtain ⟨sl, q⟩ := slot c o (I.cne x c e) hc nch ho (I.freeC x c e)
      exact ⟨_, q, hd⟩
    · exact ⟨o, keep c o (I.cne x c e) hc nch ho (I.freeC x c e), hd⟩
  refine ⟨I.ok, I.os, hg, ⟨fun b o e n hb hx => ?_, fun b o e n hb hx => ?_, fun b o e n hx => ?_, fun b o e hx => ?_, fun b xs e => tups b xs (I.base.tups b xs e), fun b o xs e => frzs b o xs (I.base.frzs b o xs e), fun b ps e => ?_⟩, ?_, fun x c e => ?_, ?_, fun x c e => ?_, fun p hp => ?_, hok, I.len⟩
  · exact keep b o (neL b o e) hb (neC b o e hx) (I.base.keep b o e n hb hx) (I.base.free b o e n hx)
  · obtain ⟨sl, e1⟩ := I.base.slot b o e n hb hx
    obtain ⟨sl', e2⟩ := slot b _ (neL b o e) hb (neC b o e hx) e1 (I.base.free b o e n hx)
    exact ⟨sl', e2⟩
  · obtain ⟨o', e1⟩ := I.base.there b o e hx
    exact free b o' (neC b o e hx) e1 (I.base.free b o e n hx)
  · obtain ⟨o', e1⟩ := I.base.there b o e hx
    exact there b o' (neC b o e hx) e1
  · obtain ⟨m1, e1⟩ := I.base.tbls b ps e
    obtain ⟨m2, e2⟩ := tbls b _ e1
    exact ⟨m1 ++ m2, by rw [e2, Array.append_assoc]⟩
  · obtain ⟨m, hn, hl⟩ := I.loc
    refine ⟨m, ns m hn, fun i x v e1 e2 e3 => ?_⟩
    obtain ⟨u, r, l⟩ := hl i x v e1 e2 e3
    refine ⟨u, r, ?_⟩
    rcases l with l | ⟨k, c, e, z⟩
    · exact .inl l
    · exact .inr ⟨k, c, e, cellK x c e _ z⟩
  · obtain ⟨v, z⟩ := I.cell x c e
    exact ⟨v, cellK x c e v z⟩
  · obtain ⟨m, ⟨o, _, _, ho, _⟩, _⟩ := I.loc
    exact free _ o (fun z => (hch _ z).2.1 rfl) ho I.free
  · obtain ⟨v, o, ho, hd⟩ := I.cell x c e
    exact free c o (fun z => (hch c z).2.2.1 x c e rfl) ho (I.freeC x c e)
  · obtain ⟨e, n, ne, nf, d⟩ := I.pin p hp
    have nch : p.1 ∉ ch := fun z => (hch p.1 z).2.2.2 p hp rfl
    exact ⟨keep p.1 p.2 ne nf nch e n, free p.1 p.2 nch e n, ne, nf, d⟩
/-- .. where the frame's own object is kept too -/
theorem Inv.un {t' : Nat} (I : Inv X pins σ H s) (u : Un X.fs [] H H' s.heap h') (hok : HOk X.prog X.w H' h') : Inv X pins σ H' { s with heap := h', toks := t' } := by
  obtain ⟨m, ⟨o, es, ep, ho, r⟩, _⟩ := id I.loc
  obtain ⟨sl, hL⟩ := u.any ho I.free (by simp)
  exact I.step (g' := s.gens) (d' := s.drawn) (ch := []) (fun _ z => nomatch z) (fun b o _ hb _ e n => u.keep b o e n hb (by simp)) (fun b o _ hb _ e n => u.slot b o e n hb (by simp)) (fun b o _ e n => u.free b o e n (by simp)) (fun b o _ e => u.there b o e (by simp)) u.tups u.frzs u.tbls (fun m' hm => by
    obtain ⟨o', es', ep', ho', r'⟩ := hm
    rw [ho] at ho'; cases ho'
    exact ⟨_, es', ep', hL, r'⟩) hok I.bare
/-- behind a call (or a comprehension's block): the slots of this frame may have changed too, the records at ch may have turned -/
theorem Inv.call {g' : Array GenState} {t' : Nat} {d' : Drawn} {ch : List Addr} (I : Inv X pins σ H s) (u : Un (frs X.stack) ch H H' s.heap h') (hok : HOk X.prog X.w H' h') (hg : AllBare g')
    (hch : ∀ b ∈ ch, (b ∈ X.ex ∨ X.s₀.heap.objs.size ≤ b) ∧ b ≠ X.env.locals ∧ (∀ x c, X.env.cells.lookup x = some c → c ≠ b) ∧ ∀ p ∈ X.pn ++ pins, p.1 ≠ b) :
    Inv X pins σ H' { s with heap := h', gens := g', drawn := d', toks := t' } := by
  obtain ⟨m, ⟨o, es, ep, ho, r⟩, _⟩ := id I.loc
  obtain ⟨sl, hL⟩ := u.any ho I.free fun z => (hch _ z).2.1 rfl
  exact I.step (ch := ch) hch (fun b o hL hb hc e n => u.keep b o e n (fun z => (List.mem_cons.mp (I.stkSub b z)).elim hL hb) hc) (fun b o _ _ hc e n => u.any e n hc) (fun b o hc e n => u.free b o e n hc) (fun b o hc e => u.there b o e hc) u.tups u.frzs u.tbls (fun m' hm => by
    obtain ⟨o', es', ep', ho', r'⟩ := hm
    rw [ho] at ho'; cases ho'
    exact ⟨_, es', ep', hL, r'⟩) hok hg
/-- an untracked record of ours (an iterator) has turned -/
theorem Inv.turned {t' : Nat} {it : Addr} (I : Inv X pins σ H s) (k : ∀ b o, b ≠ it → s.heap.get? b = some o → h'.get? b = some o) (hn : H it = none) (hL : it ≠ X.env.locals)
    (h1 : it ∈ X.ex ∨ X.s₀.heap.objs.size ≤ it) (h2 : ∀ x c, X.env.cells.lookup x = some c → c ≠ it) (h3 : ∀ p ∈ X.pn ++ pins, p.1 ≠ it) : Inv X pins σ H { s with heap := h', toks := t' } := by
  have nit : ∀ b u, H b = some u → b ≠ it := fun b u e z => by rw [z, hn] at e; cases e
  refine I.step (g' := s.gens) (d' := s.drawn) (ch := [it]) (fun b hb => ?_) (fun b o _ _ hc e _ => k b o (fun z => hc (by simp [z])) e) (fun b o _ _ hc e _ => ⟨o.slots, k b o (fun z => hc (by simp [z])) e⟩) (fun _ _ _ _ n => n)
    (fun b o hc e => ⟨o, k b o (fun z => hc (by simp [z])) e⟩) (fun _ _ e => e) (fun _ _ _ e => e) (fun b ps e => ⟨#[], by rw [e]; simp⟩) (fun m hm => ?_) (fun b u e => ?_) I.bare
  · have e : b = it := by simpa using hb
    subst e
    exact ⟨h1, hL, h2, h3⟩
  · obtain ⟨o, es, ep, ho, r⟩ := hm
    exact ⟨o, es, ep, k _ o (Ne.symm hL) ho, r⟩
  · refine (I.hok b u e).stay (fun c v hc q => k c v ?_ q) (fun _ q => q) fun _ _ q => q
    rcases hc with z | z
    · rw [z]; exact nit b u e
    · exact nit c _ z
theorem Inv.tok (I : Inv X pins σ H s) (t : Nat) : Inv X pins σ H { s with toks := t } := I.un (h' := s.heap) (t' := t) Un.refl I.hok
/-- all objects kept -/
theorem Inv.kept {t' : Nat} (I : Inv X pins σ H s) (k : ∀ b u, s.heap.get? b = some u → h'.get? b = some u) : Inv X pins σ H { s with heap := h', toks := t' } := I.un (Un.kept k) (I.hok.kept k)
/-- a new object laid and tracked -/
theorem Inv.laid {a : Addr} {o : HO} {t' : Nat} (I : Inv X pins σ H s) (k : ∀ b u, s.heap.get? b = some u → h'.get? b = some u) (hp : s.heap.objs.size ≤ a) (new : ObjOk X.prog X.w (upd H a o) h' a o) :
    Inv X pins σ (upd H a o) { s with heap := h', toks := t' } := I.un (Un.laid k hp (I.hok.fresh hp)) (I.hok.laid k hp new)
/-- an object written -/
theorem Inv.write {x e : Addr} {o : HO} {t' : Nat} (I : Inv X pins σ H s) (mu : Mut (H x)) (he : e = x ∨ H e = some (.own x)) (k : ∀ b u, b ≠ e → s.heap.get? b = some u → h'.get? b = some u) (heo : ∃ u, h'.get? e = some u)
    (new : ObjOk X.prog X.w (upd H x o) h' x o) : Inv X pins σ (upd H x o) { s with heap := h', toks := t' } := I.un (Un.write mu he k heo) (I.hok.write mu he k heo new)
theorem Inv.pins_of {pins' : List (Addr × Obj)} (I : Inv X pins σ H s) (h : ∀ p ∈ pins', s.heap.get? p.1 = some p.2 ∧ H p.1 = none ∧ p.1 ≠ X.env.locals ∧ p.1 ∉ X.fs ∧ ∀ v, p.2.data ≠ .cell v) : Inv X pins' σ H s :=
  ⟨I.ok, I.os, I.bare, I.base, I.loc, I.cell, I.free, I.freeC, fun p hp => (List.mem_append.mp hp).elim (fun z => I.pin p (List.mem_append_left _ z)) (h p), I.hok, I.len⟩
theorem nodup_ix {N : List Str} (hN : N.Nodup) {i j : Nat} {x : Str} (a : N[i]? = some x) (b : N[j]? = some x) : i = j := by
  obtain ⟨h1, e1⟩ := List.getElem?_eq_some_iff.mp a
  obtain ⟨h2, e2⟩ := List.getElem?_eq_some_iff.mp b
  exact (List.getElem_inj hN).mp (e1.trans e2.symm)
/-- a name is stored; what changed -/
theorem store_ok2 {M : Model} {A : Around} {E : Value → Shared → Prop} {i : Nat} {x : Str} {v : V} {u : Value} {Q : Unit → Shared → Prop} (I : Inv X pins σ H s) (hN : X.N.Nodup) (hi : X.N[i]? = some x) (hx : Loc X.env.scope x) (r : RelV v u)
    (h : ∀ s', Inv X pins (σ.set i (some v)) H s' → (∃ a, Heap.SameBut a s.heap s'.heap ∧ (a = X.env.locals ∨ X.env.cells.lookup x = some a)) → Q () s') (hf : X.fn x = true ∨ X.env.scope.names.lookup x = some .local := by first | exact .inl rfl | exact .inr rfl | assumption) : wpAny M A (storeName X.env x u) Q E s := by
  obtain ⟨m, hn, hl⟩ := id I.loc
  have hcls : (X.env.scope.kind == .class || (X.env.scope.kind == .module && X.env.locals != X.env.globals)) = false := by rw [I.ok.kind]; rfl
  have hiσ : i < σ.length := by rw [I.len]; exact (List.getElem?_eq_some_iff.mp hi).1
  have cne := I.cne
  have tracked : ∀ {a : Addr} {h' : Heap}, (∃ o, s.heap.get? a = some o ∧ H a = none) → Heap.SameBut a s.heap h' → HOk X.prog X.w H h' := fun {a h'} ha hs b ob e => by
    obtain ⟨_, _, hfree⟩ := ha
    refine (I.hok b ob e).stay (fun c w' hc q => (hs.2 c ?_).trans q) (fun _ q => q) fun _ _ q => q
    rintro rfl
    rcases hc with rfl | hc
    · rw [hfree] at e; cases e
    · rw [hfree] at hc; cases hc
  rcases hx with hk | hk
  · refine wpAny_storeName_local hk hn (fun h' hn' hs => ?_) hcls
    obtain ⟨oL, _, _, hoL, _⟩ := id hn
    refine h _ ⟨I.ok, I.os, I.bare, ⟨fun b o e n hb hx => ?_, fun b o e n hb hx => ?_, I.base.free, fun b o e hx => ?_, I.base.tups, I.base.frzs, I.base.tbls⟩, ⟨_, hn', fun j y v' e1 e2 e3 => ?_⟩, fun y c e => ?_, I.free, I.freeC, fun p hp => ?_, tracked ⟨oL, hoL, I.free⟩ hs, by simpa using I.len⟩ ⟨_, hs, .inl rfl⟩
    · exact (hs.2 b (Nat.ne_of_lt (Nat.lt_of_lt_of_le (Heap.lt_size e) I.ok.above))).trans (I.base.keep b o e n hb hx)
    · obtain ⟨sl, e1⟩ := I.base.slot b o e n hb hx
      exact ⟨sl, (hs.2 b (Nat.ne_of_lt (Nat.lt_of_lt_of_le (Heap.lt_size e) I.ok.above))).trans e1⟩
    · obtain ⟨o', e1⟩ := I.base.there b o e hx
      exact ⟨o', (hs.2 b (Nat.ne_of_lt (Nat.lt_of_lt_of_le (Heap.lt_size e) I.ok.above))).trans e1⟩
    · by_cases hj : j = i
      · subst hj
        rw [hi] at e1; cases e1
        rw [List.getElem?_set_self hiσ] at e2
        cases e2
        exact ⟨u, r, .inl ⟨hk, by simp⟩⟩
      · rw [List.getElem?_set_ne (Ne.symm hj)] at e2
        obtain ⟨u', r', q⟩ := hl j y v' e1 e2 e3
        refine ⟨u', r', ?_⟩
        rcases q with ⟨k, e⟩ | ⟨k, c, e, z⟩
        · refine .inl ⟨k, ?_⟩
          have : y ≠ x := fun e => hj (nodup_ix hN e1 (e ▸ hi))
          simp [this, e]
        · exact .inr ⟨k, c, e, z.sameBut hs (cne y c e)⟩
    · obtain ⟨w', z⟩ := I.cell y c e
      exact ⟨w', z.sameBut hs (cne y c e)⟩
    · obtain ⟨e, n, ne, nf, d⟩ := I.pin p hp
      exact ⟨(hs.2 p.1 ne).trans e, n, ne, nf, d⟩
  · have hfn : X.fn x = true := by
      rcases hf with z | z
      · exact z
      · rw [z] at hk; cases hk
    obtain ⟨c, hc⟩ := I.ok.has x (.inl hk)
    obtain ⟨w', z⟩ := I.cell x c hc
    refine wpAny_storeName_cell I.ok.kind hk hc z (fun h' hc' hs => ?_)
    obtain ⟨oc, hoc, hocd⟩ := id z
    refine h { s with heap := h' } ⟨I.ok, I.os, I.bare, ⟨fun b o e n hb hx => ?_, fun b o e n hb hx => ?_, I.base.free, fun b o e hx => ?_, I.base.tups, I.base.frzs, I.base.tbls⟩, ⟨m, hn.sameBut hs (Ne.symm (cne x c hc)), fun j y v' e1 e2 e3 => ?_⟩, fun y c' e => ?_, I.free, I.freeC, fun p hp => ?_, tracked ⟨oc, hoc, I.freeC x c hc⟩ hs, by simpa using I.len⟩ ⟨c, hs, .inr hc⟩
    · exact (hs.2 b (Nat.ne_of_lt (Nat.lt_of_lt_of_le (Heap.lt_size e) (I.ok.cab x c hfn hc)))).trans (I.base.keep b o e n hb hx)
    · obtain ⟨sl, e1⟩ := I.base.slot b o e n hb hx
      exact ⟨sl, (hs.2 b (Nat.ne_of_lt (Nat.lt_of_lt_of_le (Heap.lt_size e) (I.ok.cab x c hfn hc)))).trans e1⟩
    · obtain ⟨o', e1⟩ := I.base.there b o e hx
      exact ⟨o', (hs.2 b (Nat.ne_of_lt (Nat.lt_of_lt_of_le (Heap.lt_size e) (I.ok.cab x c hfn hc)))).trans e1⟩
    · by_cases hj : j = i
      · subst hj
        rw [hi] at e1; cases e1
        rw [List.getElem?_set_self hiσ] at e2
        cases e2
        exact ⟨u, r, .inr ⟨.inl hk, c, hc, hc'⟩⟩
      · rw [List.getElem?_set_ne (Ne.symm hj)] at e2
        obtain ⟨u', r', q⟩ := hl j y v' e1 e2 e3
        refine ⟨u', r', ?_⟩
        rcases q with q | ⟨k, c', e, z'⟩
        · exact .inl q
        · refine .inr ⟨k, c', e, z'.sameBut hs ?_⟩
          rintro rfl
          exact hj (nodup_ix hN e1 (I.ok.inj _ _ _ e hc ▸ hi))
    · by_cases hcc : c' = c
      · subst hcc; exact ⟨_, hc'⟩
      · obtain ⟨w2, z2⟩ := I.cell y c' e
        exact ⟨w2, z2.sameBut hs hcc⟩
    · obtain ⟨e, n, ne, nf, d⟩ := I.pin p hp
      refine ⟨(hs.2 p.1 ?_).trans e, n, ne, nf, d⟩
      intro q
      rw [q, hoc] at e
      have q' : oc = p.2 := Option.some.inj e
      exact d w' (by rw [← q']; exact hocd)
theorem store_ok {M : Model} {A : Around} {E : Value → Shared → Prop} {i : Nat} {x : Str} {v : V} {u : Value} {Q : Unit → Shared → Prop} (I : Inv X pins σ H s) (hN : X.N.Nodup) (hi : X.N[i]? = some x) (hx : Loc X.env.scope x) (r : RelV v u)
    (h : ∀ s', Inv X pins (σ.set i (some v)) H s' → Q () s') (hf : X.fn x = true ∨ X.env.scope.names.lookup x = some .local := by first | exact .inl rfl | exact .inr rfl | assumption) : wpAny M A (storeName X.env x u) Q E s :=
  store_ok2 I hN hi hx r (fun s' I' _ => h s' I') hf
/-- behind a call or a block, the state as it is -/
theorem Inv.call' {s' : Shared} {ch : List Addr} (I : Inv X pins σ H s) (ho : s'.os = s.os) (u : Un (frs X.stack) ch H H' s.heap s'.heap) (hok : HOk X.prog X.w H' s'.heap) (hg : AllBare s'.gens)
    (hch : ∀ b ∈ ch, (b ∈ X.ex ∨ X.s₀.heap.objs.size ≤ b) ∧ b ≠ X.env.locals ∧ (∀ x c, X.env.cells.lookup x = some c → c ≠ b) ∧ ∀ p ∈ X.pn ++ pins, p.1 ≠ b) : Inv X pins σ H' s' := by
  obtain ⟨h', g', d', t', o'⟩ := s'
  have e : o' = s.os := ho
  subst e
  exact I.call (g' := g') (t' := t') (d' := d') u hok hg hch
end
/-! ### the judgements -/
/-- an exception: its class, its own dict's address (where it has one), the abstract heap behind it -/
abbrev XK := Value → Option Addr → Hp → Prop
abbrev St := List (Option V)
abbrev VK := V → Hp → Prop
/-- an expression's reading; a test's; an argument list's -/
abbrev TE := St → Hp → VK → Prop
abbrev TT := St → Hp → (Bool → Hp → Prop) → Prop
abbrev TA := St → Hp → (List V → Hp → Prop) → Prop
/-- what is wanted behind a statement -/
structure Ends where
  nx : St → Hp → Prop
  rt : VK
  bk : St → Hp → Prop := fun _ _ => False
  ct : St → Hp → Prop := fun _ _ => False
abbrev TS := Ends → St → Hp → Prop
def EP (X : Cx) (pins : List (Addr × Obj)) (σ : St) (Q : VK) (u : Value) (s' : Shared) : Prop := ∃ v H', Inv X pins σ H' s' ∧ RelV v u ∧ Q v H'
def TP (X : Cx) (pins : List (Addr × Obj)) (σ : St) (Q : Bool → Hp → Prop) (b : Bool) (s' : Shared) : Prop := ∃ H', Inv X pins σ H' s' ∧ Q b H'
def AP (X : Cx) (pins : List (Addr × Obj)) (σ : St) (Q : List V → Hp → Prop) (us : List Value) (s' : Shared) : Prop := ∃ vs H', Inv X pins σ H' s' ∧ Vals vs us ∧ Q vs H'
def SP (X : Cx) (pins : List (Addr × Obj)) (D : Ends) (f : Flow) (s' : Shared) : Prop :=
  match f with
  | .next => ∃ σ' H', Inv X pins σ' H' s' ∧ D.nx σ' H'
  | .brk => ∃ σ' H', Inv X pins σ' H' s' ∧ D.bk σ' H'
  | .cont => ∃ σ' H', Inv X pins σ' H' s' ∧ D.ct σ' H'
  | .ret u => ∃ v σ' H', Inv X pins σ' H' s' ∧ RelV v u ∧ D.rt v H'
def PE (X : Cx) (e : Expr) (t : TE) : Prop :=
  ∀ (pins : List (Addr × Obj)) (s : Shared) (σ : St) (H : Hp) (Q : VK), Inv X pins σ H s → t σ H Q → wpAny (model X.prog X.w) X.A (eval e X.env) (EP X pins σ Q) X.xe s
def PT (X : Cx) (e : Expr) (t : TT) : Prop :=
  ∀ (pins : List (Addr × Obj)) (s : Shared) (σ : St) (H : Hp) (Q : Bool → Hp → Prop), Inv X pins σ H s → t σ H Q → wpAny (model X.prog X.w) X.A (isTrue e X.env (eval e X.env)) (TP X pins σ Q) X.xe s
/-- a test whatever its 'whole' is (and, or) -/
def PW (X : Cx) (e : Expr) (t : TT) : Prop :=
  ∀ (whole : Sem Value) (pins : List (Addr × Obj)) (s : Shared) (σ : St) (H : Hp) (Q : Bool → Hp → Prop), Inv X pins σ H s → t σ H Q → wpAny (model X.prog X.w) X.A (isTrue e X.env whole) (TP X pins σ Q) X.xe s
theorem PW.pt {X : Cx} {e : Expr} {t : TT} (h : PW X e t) : PT X e t := h _
/-- an argument list (no star), from the left -/
def PA (X : Cx) (es : List Expr) (t : TA) : Prop :=
  ∀ (pos : Pos) (pins : List (Addr × Obj)) (s : Shared) (σ : St) (H : Hp) (Q : List V → Hp → Prop), Inv X pins σ H s → t σ H Q → wpAny (model X.prog X.w) X.A (spliced (backTo pos (starEach es X.env))) (AP X pins σ Q) X.xe s
def PS (X : Cx) (st : Stmt) (t : TS) : Prop :=
  ∀ (pins : List (Addr × Obj)) (s : Shared) (σ : St) (H : Hp) (D : Ends), Inv X pins σ H s → t D σ H → wpAny (model X.prog X.w) X.A (exec st X.env) (SP X pins D) X.xe s
def PSs (X : Cx) (st : List Stmt) (t : TS) : Prop :=
  ∀ (pins : List (Addr × Obj)) (s : Shared) (σ : St) (H : Hp) (D : Ends), Inv X pins σ H s → t D σ H → wpAny (model X.prog X.w) X.A (execs st X.env) (SP X pins D) X.xe s
/-- weaken the end -/
theorem thn {α : Type} {t : Sem α} {Q Q' : α → Shared → Prop} {M : Model} {A : Around} {E : Value → Shared → Prop} {s : Shared} (h : wpAny M A t Q E s) (hQ : ∀ a s, Q a s → Q' a s) : wpAny M A t Q' E s := wpAny_mono h hQ fun _ _ x => x
end L2
namespace L2
open PySem PySem.Spec PyProof.Rows
section
variable {X : Cx}
/-! ### names and constants -/
def tVar (i : Nat) : TE := fun σ H Q => ∃ v, σ[i]? = some (some v) ∧ Q v H
def tC (v : V) : TE := fun _ H Q => Q v H
theorem pe_var {i : Nat} {x : Str} {pos : Pos} (hN : X.N[i]? = some x) (hv : Vis X.env.scope x) (hd : (x == ("__debug__" : Str)) = false := by decide) (hcd : (x == ("__classdict__" : Str)) = false := by decide) : PE X (.Name x pos) (tVar i) := by
  intro pins s σ H Q I h
  obtain ⟨v, e, h⟩ := h
  obtain ⟨m, hn, hl⟩ := I.loc
  obtain ⟨u, r, l⟩ := hl i x v hN e hv
  have fin : EP X pins σ Q u s := ⟨v, H, I, r, h⟩
  rcases l with ⟨hk, hm⟩ | ⟨hk, c, hc, hcell⟩
  · exact wpAny_Name (wpAny_loadName_local I.ok.kind hk hn hm fin) hd
  · rcases hk with hk | hk
    · exact wpAny_Name (wpAny_loadName_cell I.ok.kind hk hc hcell fin) hd
    · exact wpAny_Name (wpAny_loadName_free I.ok.kind hk hc hcell fin hcd) hd
theorem pe_int {i j pos} : PE X (.Constant (.int i) j pos) (tC (.int i)) := fun _ _ _ H _ I h => wpAny_Constant_int ⟨.int i, H, I.tok _, ⟨_, rfl⟩, h⟩
theorem pe_bl {b j pos} : PE X (.Constant (.bool b) j pos) (tC (.bl b)) := fun _ _ _ H _ I h => Constant_bool ⟨.bl b, H, I, rfl, h⟩
theorem pe_non {j pos} : PE X (.Constant .none j pos) (tC .non) := fun _ _ _ H _ I h => Constant_none ⟨.non, H, I, rfl, h⟩
theorem pe_str {x j pos} : PE X (.Constant (.str x) j pos) (tC (.str x)) := fun _ _ _ H _ I h => Calls.Constant_str ⟨.str x, H, I.tok _, ⟨_, rfl⟩, h⟩
/-- a global name of the def -/
def Gl (X : Cx) (x : Str) : Prop := X.env.kindOf x = some .globalImplicit
theorem ld_glob {E : Value → Shared → Prop} {pins : List (Addr × Obj)} {s : Shared} {σ : St} {H : Hp} {x : Str} {u : Value} {pos : Pos} {Q : Value → Shared → Prop} (I : Inv X pins σ H s) (hg : Gl X x) (hm : X.mg x = some u) (h : Q u s)
    (hd : (x == ("__debug__" : Str)) = false := by decide) : wpAny (model X.prog X.w) X.A (eval (.Name x pos) X.env) Q E s :=
  Calls.Name_function_global I.ok.kind hg (Calls.loadGlobal_global (by rw [I.ok.glob]; exact I.mod.glob.keeps I.bk) hm h) hd
theorem ld_blt {E : Value → Shared → Prop} {pins : List (Addr × Obj)} {s : Shared} {σ : St} {H : Hp} {x : Str} {u : Value} {pos : Pos} {Q : Value → Shared → Prop} (I : Inv X pins σ H s) (hg : Gl X x) (hm : X.mg x = none) (hv : bootBuiltins x = some u) (h : Q u s)
    (hn : x ≠ "__name__" := by decide) (hd : (x == ("__debug__" : Str)) = false := by decide) : wpAny (model X.prog X.w) X.A (eval (.Name x pos) X.env) Q E s := by
  obtain ⟨mb, h1, h2⟩ := I.mod.blt
  exact Calls.Name_function_global I.ok.kind hg (Calls.loadGlobal_builtin (by rw [I.ok.glob]; exact I.mod.glob.keeps I.bk) hm (by rw [I.ok.blt]; exact h1.keeps I.bk) ((h2 x hn).trans hv) h) hd
/-- a module's constant, a class, a function, as a value -/
theorem pe_glob {x : Str} {v : V} {u : Value} {pos : Pos} (hg : Gl X x) (hm : X.mg x = some u) (r : RelV v u) (hd : (x == ("__debug__" : Str)) = false := by decide) : PE X (.Name x pos) (tC v) :=
  fun _ _ _ H _ I h => ld_glob I hg hm ⟨v, H, I, r, h⟩ hd
theorem pe_bltn {x : Str} {v : V} {u : Value} {pos : Pos} (hg : Gl X x) (hm : X.mg x = none) (hv : bootBuiltins x = some u) (r : RelV v u) (hn : x ≠ "__name__" := by decide) (hd : (x == ("__debug__" : Str)) = false := by decide) : PE X (.Name x pos) (tC v) :=
  fun _ _ _ H _ I h => ld_blt I hg hm hv ⟨v, H, I, r, h⟩ hn hd
/-! ### arithmetic -/
variable {a b : Expr} {ta tb : TE} {pos : Pos}
/-! ### comparisons -/
/-- a comparison as a value, as a test -/
def tB (t : TE) : TT := fun σ H Q => t σ H fun x H1 => ∃ c, x = .bl c ∧ Q c H1
/-- an expression whose value is a bool, as a test -/
theorem pt_val {e : Expr} {t : TE} (h : PE X e t) (he : ∀ whole, isTrue e X.env whole = (do let v ← whole; standAt e.pos; holding [v] (truthy v)) := by intro _; rfl) : PT X e (tB t) := by
  intro pins s σ H Q I hw
  refine isTrue_plain (thn (h pins s σ H _ I hw) fun v s1 ⟨x, H1, I1, r1, q1⟩ => ?_) (he _)
  obtain ⟨d, rfl, q⟩ := q1
  cases r1
  exact wpAny_truthy_bool ⟨H1, I1, q⟩
/-! ### and, or, not -/
variable {tA tB' : TT} {rest : List Expr}
def tAnd (t u : TT) : TT := fun σ H Q => t σ H fun c H1 => if c = true then u σ H1 Q else Q false H1
def tOr (t u : TT) : TT := fun σ H Q => t σ H fun c H1 => if c = true then Q true H1 else u σ H1 Q
def tNot (t : TT) : TT := fun σ H Q => t σ H fun c H1 => Q (!c) H1
theorem pw_and1 (ha : PT X a tA) : PW X (.BoolOp .And [a] pos) tA := by
  intro wh pins s σ H Q I h
  refine isTrue_and (thn (ha pins s σ H Q I h) fun c s1 e => ?_)
  cases c with
  | true => exact isTrue_and_nil e
  | false => exact e
theorem pw_or1 (ha : PT X a tA) : PW X (.BoolOp .Or [a] pos) tA := by
  intro wh pins s σ H Q I h
  refine isTrue_or (thn (ha pins s σ H Q I h) fun c s1 e => ?_)
  cases c with
  | false => exact isTrue_or_nil e
  | true => exact e
theorem pw_and (ha : PT X a tA) (hb : PW X (.BoolOp .And (b :: rest) pos) tB') : PW X (.BoolOp .And (a :: b :: rest) pos) (tAnd tA tB') := by
  intro wh pins s σ H Q I h
  refine isTrue_and (thn (ha pins s σ H _ I h) fun c s1 ⟨H1, I1, q1⟩ => ?_)
  cases c with
  | true => exact hb wh pins s1 σ H1 Q I1 q1
  | false => exact ⟨H1, I1, q1⟩
theorem pw_or (ha : PT X a tA) (hb : PW X (.BoolOp .Or (b :: rest) pos) tB') : PW X (.BoolOp .Or (a :: b :: rest) pos) (tOr tA tB') := by
  intro wh pins s σ H Q I h
  refine isTrue_or (thn (ha pins s σ H _ I h) fun c s1 ⟨H1, I1, q1⟩ => ?_)
  cases c with
  | true => exact ⟨H1, I1, q1⟩
  | false => exact hb wh pins s1 σ H1 Q I1 q1
theorem pt_not (ha : PT X a tA) : PT X (.UnaryOp .Not a pos) (tNot tA) := by
  intro pins s σ H Q I h
  exact isTrue_not (ha pins s σ H (fun c H1 => Q (!c) H1) I h)
/-- .. as values (bools) -/
def tAndV (ta tb : TE) : TE := fun σ H Q => ta σ H fun x H1 => ∃ c, x = .bl c ∧ if c = true then tb σ H1 Q else Q (.bl false) H1
def tNotV (ta : TE) : TE := fun σ H Q => ta σ H fun x H1 => ∃ c, x = .bl c ∧ Q (.bl (!c)) H1
theorem pe_one {op} {t : TE} (h : PE X a t) : PE X (.BoolOp op [a] pos) t := fun pins s σ H Q I hw => BoolOp_one (h pins s σ H Q I hw)
theorem pe_and (ha : PE X a ta) (hb : PE X (.BoolOp .And (b :: rest) pos) tb) : PE X (.BoolOp .And (a :: b :: rest) pos) (tAndV ta tb) := by
  intro pins s σ H Q I h
  refine BoolOp_and (thn (ha pins s σ H _ I h) fun v s1 ⟨x, H1, I1, r1, q1⟩ => ?_)
  obtain ⟨c, rfl, q1⟩ := q1
  cases r1
  refine wpAny_truthy_bool ?_
  cases c with
  | true => exact hb pins s1 σ H1 Q I1 q1
  | false => exact ⟨.bl false, H1, I1, rfl, q1⟩
theorem pe_not (ha : PE X a ta) : PE X (.UnaryOp .Not a pos) (tNotV ta) := by
  intro pins s σ H Q I h
  refine UnaryOp_ (thn (ha pins s σ H _ I h) fun v s1 ⟨x, H1, I1, r1, q1⟩ => ?_)
  obtain ⟨c, rfl, q1⟩ := q1
  cases r1
  exact not_of (wpAny_truthy_bool ⟨.bl (!c), H1, I1, rfl, q1⟩)
end
end L2
namespace L2
open PySem PySem.Spec PyProof.Rows
/-! ### a list, a tuple that is read: tracked, frozen, or an object of the module -/
def SqL (K : PySem.W.Frag) (H : Hp) (a : Addr) (xs : List V) : Prop :=
  Rd H a (.lst xs) ∨
    ∃ (o : Obj) (its : Array Value) (n : Nat), K.lookup a = some o ∧ o.cls = .type "list" ∧ o.dict = none ∧ o.data = .seq its n ∧ its.size ≤ sizeLine ∧ Vals xs its.toList
def SqT (K : PySem.W.Frag) (H : Hp) (a : Addr) (xs : List V) : Prop :=
  Rd H a (.tup xs) ∨
    ∃ (o : Obj) (its : Array Value) (n : Nat), K.lookup a = some o ∧ o.cls = .type "tuple" ∧ o.data = .seq its n ∧ its.size ≤ sizeLine ∧ Vals xs its.toList
def absV : Value → Option V
  | .none => some .non
  | .bool b => some (.bl b)
  | .int i _ => some (.int i)
  | .str x _ => some (.str x)
  | .bytes b _ => some (.byt b)
  | .float b _ => some (.flt b)
  | .ref a => some (.ref a)
  | .type n => some (.ty n)
  | _ => none
theorem RelV.abs {x : V} {u : Value} (r : RelV x u) : absV u = some x := by
  cases x with
  | non => cases r; rfl
  | bl _ => cases r; rfl
  | int _ => obtain ⟨t, rfl⟩ := r; rfl
  | str _ => obtain ⟨t, rfl⟩ := r; rfl
  | byt _ => obtain ⟨t, rfl⟩ := r; rfl
  | flt _ => obtain ⟨t, rfl⟩ := r; rfl
  | ref _ => cases r; rfl
  | ty _ => cases r; rfl
theorem RelV.inj {x y : V} {u : Value} (r : RelV x u) (q : RelV y u) : x = y := Option.some.inj (r.abs.symm.trans q.abs)
theorem Vals.inj : ∀ {xs ys : List V} {us : List Value}, Vals xs us → Vals ys us → xs = ys
  | _, _, _, .nil, .nil => rfl
  | _, _, _, .cons r t, .cons r' t' => by rw [r.inj r', Vals.inj t t']
section
variable {X : Cx} {pins : List (Addr × Obj)} {σ : St} {H : Hp} {s : Shared} {a : Addr} {xs ys : List V}
theorem SqL.of {K : PySem.W.Frag} (h : H a = some (.lst xs)) : SqL K H a xs := .inl (.inl h)
theorem SqT.of {K : PySem.W.Frag} (h : H a = some (.tup xs)) : SqT K H a xs := .inl (.inl h)
theorem Inv.list (I : Inv X pins σ H s) (h : SqL X.K H a xs) : ∃ its : List Value, Vals xs its ∧ PlainL s.heap a its.toArray ∧ xs.length ≤ sizeLine := by
  rcases h with h | ⟨o, its, n, hk, hc, hd, hs, hz, r⟩
  · obtain ⟨z, its, n, r, e⟩ := h.ok I.hok
    exact ⟨its, r, ⟨_, n, e, rfl, rfl, rfl⟩, z⟩
  · refine ⟨its.toList, r, ⟨o, n, I.kIn a o hk, hc, hd, by simpa using hs⟩, ?_⟩
    have e := r.length
    simp only [Array.length_toList] at e
    omega
theorem Inv.tuple (I : Inv X pins σ H s) (h : SqT X.K H a xs) : ∃ its : List Value, Vals xs its ∧ IsTup s.heap a its.toArray ∧ xs.length ≤ sizeLine := by
  rcases h with h | ⟨o, its, n, hk, hc, hs, hz, r⟩
  · obtain ⟨z, its, r, p⟩ := h.ok I.hok
    exact ⟨its, r, p, z⟩
  · refine ⟨its.toList, r, ⟨o, I.kIn a o hk, hc, n, by simpa using hs⟩, ?_⟩
    have e := r.length
    simp only [Array.length_toList] at e
    omega
theorem Inv.list_inj (I : Inv X pins σ H s) (h : SqL X.K H a xs) (h' : SqL X.K H a ys) : xs = ys := by
  obtain ⟨its, r, ⟨o, n, e, _, _, d⟩, _⟩ := I.list h
  obtain ⟨its', r', ⟨o', n', e', _, _, d'⟩, _⟩ := I.list h'
  rw [e] at e'; cases e'
  rw [d] at d'
  injection d' with d1 _
  have : its = its' := by simpa using congrArg Array.toList d1
  subst this
  exact r.inj r'
theorem Inv.tuple_inj (I : Inv X pins σ H s) (h : SqT X.K H a xs) (h' : SqT X.K H a ys) : xs = ys := by
  obtain ⟨its, r, ⟨o, e, _, n, d⟩, _⟩ := I.tuple h
  obtain ⟨its', r', ⟨o', e', _, n', d'⟩, _⟩ := I.tuple h'
  rw [e] at e'; cases e'
  rw [d] at d'
  injection d' with d1 _
  have : its = its' := by simpa using congrArg Array.toList d1
  subst this
  exact r.inj r'
end
/-! ### another wish about exceptions -/
abbrev Cx.wish (X : Cx) (E : Value → Shared → Prop) : Cx := { X with xe := E }
/-- no exception leaves -/
abbrev Cx.nox (X : Cx) : Cx := X.wish fun _ _ => False
theorem Cx.Ok.wish {X : Cx} (ok : X.Ok) (E : Value → Shared → Prop) : (X.wish E).Ok :=
  ⟨ok.mod, ok.kind, ok.glob, ok.blt, ok.above, ok.inj, ok.has, ok.cab, ok.hd, ok.frames, ok.stk, ok.exf, ok.bs, ok.bsz, ok.noex, ok.exfs, ok.funs, ok.frf⟩
theorem Cx.Ok.unwish {X : Cx} {E : Value → Shared → Prop} (ok : (X.wish E).Ok) : X.Ok :=
  ⟨ok.mod, ok.kind, ok.glob, ok.blt, ok.above, ok.inj, ok.has, ok.cab, ok.hd, ok.frames, ok.stk, ok.exf, ok.bs, ok.bsz, ok.noex, ok.exfs, ok.funs, ok.frf⟩
section
variable {X : Cx} {pins : List (Addr × Obj)} {σ : St} {H : Hp} {s : Shared} {E : Value → Shared → Prop}
theorem Inv.wish (I : Inv X pins σ H s) (E : Value → Shared → Prop) : Inv (X.wish E) pins σ H s := ⟨I.ok.wish E, I.os, I.bare, I.base, I.loc, I.cell, I.free, I.freeC, I.pin, I.hok, I.len⟩
theorem Inv.unwish (I : Inv (X.wish E) pins σ H s) : Inv X pins σ H s := ⟨I.ok.unwish, I.os, I.bare, I.base, I.loc, I.cell, I.free, I.freeC, I.pin, I.hok, I.len⟩
theorem SP.unwish {D : Ends} {f : Flow} {s' : Shared} (h : SP (X.wish E) pins D f s') : SP X pins D f s' := by
  cases f with
  | next => obtain ⟨σ', H', I, q⟩ := h; exact ⟨σ', H', I.unwish, q⟩
  | brk => obtain ⟨σ', H', I, q⟩ := h; exact ⟨σ', H', I.unwish, q⟩
  | cont => obtain ⟨σ', H', I, q⟩ := h; exact ⟨σ', H', I.unwish, q⟩
  | ret u => obtain ⟨v, σ', H', I, r, q⟩ := h; exact ⟨v, σ', H', I.unwish, r, q⟩
theorem PE.nox {e : Expr} {t : TE} (h : PE X.nox e t) : PE X e t := fun pins s σ H Q I hw =>
  wpAny_mono (h pins s σ H Q (I.wish _) hw) (fun _ _ ⟨v, H', I', r, q⟩ => ⟨v, H', I'.unwish, r, q⟩) fun _ _ z => False.elim z
theorem PT.nox {e : Expr} {t : TT} (h : PT X.nox e t) : PT X e t := fun pins s σ H Q I hw =>
  wpAny_mono (h pins s σ H Q (I.wish _) hw) (fun _ _ ⟨H', I', q⟩ => ⟨H', I'.unwish, q⟩) fun _ _ z => False.elim z
theorem PSs.nox {st : List Stmt} {t : TS} (h : PSs X.nox st t) : PSs X st t := fun pins s σ H D I hw =>
  wpAny_mono (h pins s σ H D (I.wish _) hw) (fun _ _ q => q.unwish) fun _ _ z => False.elim z
end
/-! ### blocks and small statements -/
section
variable {X : Cx} {st : Stmt} {rest : List Stmt} {t u : TS} {e : Expr} {te : TE} {pos : Pos}
def tNext : TS := fun D σ H => D.nx σ H
def tSeq (t u : TS) : TS := fun D σ H => t { D with nx := u D } σ H
theorem pss_nil : PSs X [] tNext := fun _ _ σ H _ I h => wpAny_execs_nil ⟨σ, H, I, h⟩
theorem pss_cons (h1 : PS X st t) (h2 : PSs X rest u) : PSs X (st :: rest) (tSeq t u) := by
  intro pins s σ H D I h
  refine wpAny_execs_cons (thn (h1 pins s σ H { D with nx := u D } I h) fun f s1 q => ?_)
  cases f with
  | next =>
    obtain ⟨σ', H', I', q⟩ := q
    exact h2 pins s1 σ' H' D I' q
  | ret v => exact q
  | brk => exact q
  | cont => exact q
theorem pss_one (h1 : PS X st t) : PSs X [st] t := by
  intro pins s σ H D I h
  refine wpAny_execs_cons (thn (h1 pins s σ H D I h) fun f s1 q => ?_)
  cases f with
  | next => exact wpAny_execs_nil q
  | ret v => exact q
  | brk => exact q
  | cont => exact q
/-- in a def's body nothing is shown -/
theorem Inv.quiet {pins : List (Addr × Obj)} {σ : St} {H : Hp} {s : Shared} (I : Inv X pins σ H s) : interactive X.env = false := by simp [interactive, I.ok.kind]
/-- an expression whose value is dropped -/
def tDrop (te : TE) : TS := fun D σ H => te σ H fun _ H1 => D.nx σ H1
theorem ps_expr (he : PE X e te) (hs : swapsWith e none pos.line X.env = pure false := by rfl) : PS X (.Expr e pos) (tDrop te) := by
  intro pins s σ H D I h
  exact wpAny_Expr_any (thn (he pins s σ H _ I h) fun v s1 ⟨x, H1, I1, r1, q1⟩ => ⟨σ, H1, I1, q1⟩) I.quiet hs
def tRet (te : TE) : TS := fun D σ H => te σ H D.rt
theorem ps_ret (he : PE X e te) : PS X (.Return (some e) pos) (tRet te) := by
  intro pins s σ H D I h
  exact wpAny_Return_some (thn (he pins s σ H _ I h) fun v s1 ⟨x, H1, I1, r1, q1⟩ => ⟨x, σ, H1, I1, r1, q1⟩)
def tIfS (c : TT) (t u : TS) : TS := fun D σ H => c σ H fun b H1 => if b = true then t D σ H1 else u D σ H1
theorem ps_if {c : Expr} {a b : List Stmt} {tc : TT} (hc : PT X c tc) (ha : PSs X a t) (hb : PSs X b u) : PS X (.If c a b pos) (tIfS tc t u) := by
  intro pins s σ H D I h
  refine wpAny_If (thn (hc pins s σ H _ I h) fun d s1 ⟨H1, I1, q1⟩ => ?_)
  cases d with
  | true => exact ha pins s1 σ H1 D I1 q1
  | false => exact hb pins s1 σ H1 D I1 q1
end
/-! ### targets -/
abbrev TG := V → St → Hp → (St → Hp → Prop) → Prop
abbrev TGs := List V → St → Hp → (St → Hp → Prop) → Prop
def PG (X : Cx) (target : Expr) (t : TG) : Prop :=
  ∀ (pins : List (Addr × Obj)) (s : Shared) (σ : St) (H : Hp) (v : V) (u : Value) (Q : St → Hp → Prop), Inv X pins σ H s → RelV v u → t v σ H Q →
    wpAny (model X.prog X.w) X.A (assign target X.env u) (fun _ s' => ∃ σ' H', Inv X pins σ' H' s' ∧ Q σ' H') X.xe s
/-- several targets, one after another -/
def PGs (X : Cx) (ts : List Expr) (t : TGs) : Prop :=
  ∀ (pins : List (Addr × Obj)) (s : Shared) (σ : St) (H : Hp) (vs : List V) (us : List Value) (Q : St → Hp → Prop), Inv X pins σ H s → Vals vs us → t vs σ H Q →
    wpAny (model X.prog X.w) X.A (assignInOrder ((assignEach ts X.env).map (·.2)) us) (fun _ s' => ∃ σ' H', Inv X pins σ' H' s' ∧ Q σ' H') X.xe s
section
variable {X : Cx} {pos : Pos}
def gName (i : Nat) : TG := fun v σ H Q => Q (σ.set i (some v)) H
theorem pg_name {i : Nat} {x : Str} (hN : X.N.Nodup) (hi : X.N[i]? = some x) (hx : Loc X.env.scope x) (hf : X.fn x = true ∨ X.env.scope.names.lookup x = some .local := by first | exact .inl rfl | exact .inr rfl | assumption) : PG X (.Name x pos) (gName i) := by
  intro pins s σ H v u Q I r h
  exact wpAny_assign_Name (store_ok I hN hi hx r (fun s' I' => ⟨_, H, I', h⟩) hf)
def gNil : TGs := fun vs σ H Q => vs = [] ∧ Q σ H
def gCons (t : TG) (u : TGs) : TGs := fun vs σ H Q => ∃ v r, vs = v :: r ∧ t v σ H fun σ' H' => u r σ' H' Q
theorem pgs_nil : PGs X [] gNil := by
  intro pins s σ H vs us Q I r h
  obtain ⟨e, h⟩ := h
  subst e
  cases r
  exact assignInOrder_nil ⟨σ, H, I, h⟩
theorem pgs_cons {e : Expr} {es : List Expr} {t : TG} {u : TGs} (h1 : PG X e t) (h2 : PGs X es u)
    (hs : (assignEach (e :: es) X.env).map (·.2) = assign e X.env :: (assignEach es X.env).map (·.2) := by rfl) : PGs X (e :: es) (gCons t u) := by
  intro pins s σ H vs us Q I r h
  obtain ⟨v, vr, e1, h⟩ := h
  subst e1
  cases r with
  | cons r rr =>
    rw [hs]
    refine assignInOrder_cons (thn (h1 pins s σ H _ _ _ I r h) fun _ s1 ⟨σ1, H1, I1, q1⟩ => ?_)
    exact h2 pins s1 σ1 H1 _ _ Q I1 rr q1
/-- (a, b, ..) = a tuple of that length -/
def gTup (K : PySem.W.Frag) (n : Nat) (t : TGs) : TG := fun v σ H Q => ∃ a xs, v = .ref a ∧ SqT K H a xs ∧ xs.length = n ∧ t xs σ H Q
theorem pg_tup {es : List Expr} {k : Nat} {t : TGs} {n : Nat} (hc : X.calm = true) (h : PGs X es t)
    (hn : (assignEach es X.env).length = n := by rfl) (hst : (assignEach es X.env).findIdx? (·.1) = none := by rfl) : PG X (.Tuple es k pos) (gTup X.K n t) := by
  intro pins s σ H v u Q I r hw
  obtain ⟨a, xs, e1, hq, hl, hw⟩ := hw
  subst e1
  cases r
  obtain ⟨its, rv, ht, hz⟩ := I.tuple hq
  refine assign_Tuple_tuple (I.ok.hd hc) ht (by simp [hn, ← hl, rv.length]) hst fun h' hx => ?_
  have I1 : Inv X pins σ H { s with heap := h' } := I.kept (t' := s.toks) fun b o e => hx b o (Nat.ne_of_lt (Heap.lt_size e)) e
  exact h pins _ σ H xs _ Q I1 (by simpa using rv) hw
/-- target = value -/
def tAsg (te : TE) (g : TG) : TS := fun D σ H => te σ H fun x H1 => g x σ H1 D.nx
theorem ps_asg {tg e : Expr} {te : TE} {g : TG} (he : PE X e te) (hg : PG X tg g) (hs : swapsWithSole [tg] e pos.line X.env = pure false := by rfl) (hw : swappedStores [tg] e X.env = pure none := by rfl)
    (h1 : (assignEach [tg] X.env).map (·.2) = [assign tg X.env] := by rfl) : PS X (.Assign [tg] e pos) (tAsg te g) := by
  intro pins s σ H D I h
  refine wpAny_Assign_stores (thn (he pins s σ H _ I h) fun v s1 ⟨x, H1, I1, r1, q1⟩ => ?_) hs hw
  rw [h1]
  exact thn (hg pins s1 σ H1 x v _ I1 r1 q1) fun _ s2 q => q
/-- name = value -/
theorem ps_set {i : Nat} {x : Str} {e : Expr} {te : TE} {pos' : Pos} (hN : X.N.Nodup) (hi : X.N[i]? = some x) (hx : Loc X.env.scope x) (he : PE X e te) (hs : swapsWith e (some (.Name x pos')) pos.line X.env = pure false := by rfl) (hf : X.fn x = true ∨ X.env.scope.names.lookup x = some .local := by first | exact .inl rfl | exact .inr rfl | assumption) :
    PS X (.Assign [.Name x pos'] e pos) (tAsg te (gName i)) := by
  intro pins s σ H D I h
  refine wpAny_Assign_Name (thn (he pins s σ H _ I h) fun v s1 ⟨y, H1, I1, r1, q1⟩ => ?_) hs
  exact store_ok I1 hN hi hx r1 (fun s2 I2 => ⟨_, H1, I2, q1⟩) hf
end
/-! ### while -/
section
variable {X : Cx} {pos : Pos}
/-- the invariant W with its measure -/
def tWhile (c : TT) (tb : TS) : TS := fun D σ H => ∃ W : Nat → St → Hp → Prop, (∃ m, W m σ H) ∧ ∀ m σ H, W m σ H →
  c σ H fun b H1 => if b = true then ∃ N : St → Hp → Prop, (∀ σ' H', N σ' H' → ∃ m', m' < m ∧ W m' σ' H') ∧ tb { D with nx := N, ct := N, bk := D.nx } σ H1 else D.nx σ H1
theorem ps_while {c : Expr} {body : List Stmt} {tc : TT} {tb : TS} (hp : PassesOwn (model X.prog X.w) X.A X.env X.xe) (hc : PT X c tc) (hb : PSs X body tb) : PS X (.While c body [] pos) (tWhile tc tb) := by
  intro pins s σ H D I h
  obtain ⟨W, ⟨m0, w0⟩, turn⟩ := h
  refine wpAny_While (codeAny_whileLoop (fun n s' => ∃ σ' H', Inv X pins σ' H' s' ∧ W n σ' H') ?_ m0 ⟨σ, H, I, w0⟩)
  rintro n s1 ⟨σ1, H1, I1, w1⟩
  refine wpAny_passesOwn hp (thn (hc pins s1 σ1 H1 _ I1 (turn n σ1 H1 w1)) fun b s2 ⟨H2, I2, q2⟩ => ?_)
  cases b with
  | true =>
    obtain ⟨N, hN, q2⟩ := q2
    rw [if_pos rfl]
    refine wpAny_passesOwn hp (thn (hb pins s2 σ1 H2 _ I2 q2) fun f s3 q3 => ?_)
    cases f with
    | next =>
      obtain ⟨σ3, H3, I3, n3⟩ := q3
      obtain ⟨m', hm, w3⟩ := hN σ3 H3 n3
      exact ⟨m', hm, σ3, H3, I3, w3⟩
    | cont =>
      obtain ⟨σ3, H3, I3, n3⟩ := q3
      obtain ⟨m', hm, w3⟩ := hN σ3 H3 n3
      exact ⟨m', hm, σ3, H3, I3, w3⟩
    | brk => exact q3
    | ret v => exact q3
  | false =>
    rw [if_neg Bool.false_ne_true]
    exact wpAny_execs_nil ⟨σ1, H2, I2, q2⟩
end
/-! ### what a loop or a comprehension walks -/
/-- at turn i: it yields x (the heap may grow), or it stops -/
structure It where
  go : Nat → Hp → Prop
  yld : Nat → Hp → V → Hp → Prop
  stop : Nat → Hp → Prop
/-- the iterator's own objects may turn: they are not the frame's, not pinned, younger than the entry (or a comprehension's own) -/
def FpOk (X : Cx) (pins : List (Addr × Obj)) (H : Hp) (b : Addr) : Prop :=
  H b = none ∧ b ≠ X.env.locals ∧ b ∉ X.fs ∧ (b ∈ X.ex ∨ X.s₀.heap.objs.size ≤ b) ∧ (∀ x c, X.env.cells.lookup x = some c → c ≠ b) ∧ ∀ p ∈ X.pn ++ pins, p.1 ≠ b
theorem Inv.fpOk {X : Cx} {pins : List (Addr × Obj)} {σ : St} {H H' : Hp} {s : Shared} {b : Addr} (I : Inv X pins σ H s) (hb : s.heap.objs.size ≤ b) (hn : H' b = none) : FpOk X pins H' b := by
  refine ⟨hn, Nat.ne_of_gt (Nat.lt_of_lt_of_le I.lt hb), I.nofs hb, .inr (Nat.le_trans I.sz hb), fun x c e z => ?_, fun p hp z => ?_⟩
  · obtain ⟨v, q⟩ := I.cell x c e
    exact absurd (Nat.lt_of_lt_of_le q.lt (by rw [z]; exact hb)) (Nat.lt_irrefl _)
  · exact absurd (Nat.lt_of_lt_of_le (Heap.lt_size (I.pin p hp).1) (by rw [z]; exact hb)) (Nat.lt_irrefl _)
structure Turn (P : Program) (w : World) (K : PySem.W.Frag) (tg : Expr) (J : It) (fp : List Addr) (it : Addr) (tn : Nat → Heap → Prop) : Prop where
  mem : it ∈ fp
  obj : ∀ i h, tn i h → ∀ b ∈ fp, ∃ o, h.get? b = some o ∧ ∀ v, o.data ≠ .cell v
  keep : ∀ i h h', tn i h → (∀ b ∈ fp, ∀ o, h.get? b = some o → h'.get? b = some o) → tn i h'
  item : ∀ (X : Cx), X.prog = P → X.w = w → X.K = K → X.calm = true → ∀ (i : Nat) (pins : List (Addr × Obj)) (s : Shared) (σ : St) (H : Hp) (E : Value → Shared → Prop), Inv X pins σ H s → (∀ b ∈ fp, FpOk X pins H b) → tn i s.heap → J.go i H →
    wpAny (model P w) X.A (pyNext (.ref it)) (fun r s1 => ∃ u, r = some u ∧
      wpAny (model P w) X.A (letOwnedTupleGo tg (.ref it) u) (fun _ s2 => ∃ x H', Inv X pins σ H' s2 ∧ RelV x u ∧ J.yld i H x H' ∧ tn (i + 1) s2.heap ∧ ∀ b ∈ fp, H' b = none) E s1) E s
  done : ∀ (X : Cx), X.prog = P → X.w = w → X.K = K → X.calm = true → ∀ (i : Nat) (pins : List (Addr × Obj)) (s : Shared) (σ : St) (H : Hp) (E : Value → Shared → Prop), Inv X pins σ H s → (∀ b ∈ fp, FpOk X pins H b) → tn i s.heap → J.stop i H →
    wpAny (model P w) X.A (pyNext (.ref it)) (fun r s1 => r = none ∧ Inv X pins σ H s1) E s
  self : ∀ (A : Around) (i : Nat) (s : Shared) (Q : Value → Shared → Prop) (E : Value → Shared → Prop), tn i s.heap → Q (.ref it) s → wpAny (model P w) A (pyIter (.ref it)) Q E s
abbrev TI := St → Hp → (It → Hp → Prop) → Prop
/-- an iterator has come -/
def PIE (X : Cx) (pins : List (Addr × Obj)) (σ : St) (tg : Expr) (R : It → Hp → Prop) (itv : Value) (s2 : Shared) : Prop :=
  ∃ (it : Addr) (fp : List Addr) (tn : Nat → Heap → Prop) (J : It) (H' : Hp), itv = .ref it ∧ Inv X pins σ H' s2 ∧ Turn X.prog X.w X.K tg J fp it tn ∧ tn 0 s2.heap ∧ (∀ b ∈ fp, FpOk X pins H' b) ∧ R J H'
def PI (X : Cx) (tg iter : Expr) (wi : TI) : Prop :=
  ∀ (pins : List (Addr × Obj)) (s : Shared) (σ : St) (H : Hp) (R : It → Hp → Prop), Inv X pins σ H s → wi σ H R →
    wpAny (model X.prog X.w) X.A (eval iter X.env) (fun v s1 => wpAny (model X.prog X.w) X.A (pyIter v) (PIE X pins σ tg R) X.xe s1) X.xe s
/-- the step ahead of the store is nothing for an iterator that keeps no tuple -/
theorem go_of {M : Model} {A : Around} {E : Value → Shared → Prop} {s : Shared} {tg : Expr} {it : Addr} {u : Value} {o : Obj} {n : String} {vs : Array Value} {Q : Unit → Shared → Prop} (ho : s.heap.get? it = some o) (hc : o.cls = .type n) (hd : o.data = .fields vs)
    (hn : ["enumerate", "zip", "dict_itemiterator", "dict_reverseitemiterator", "odict_iterator", "itertools.zip_longest", "itertools.pairwise"].contains n = false) (hQ : Q () s) : wpAny M A (letOwnedTupleGo tg (.ref it) u) Q E s := by
  unfold letOwnedTupleGo
  cases tg <;> first
    | exact wpAny_pure hQ
    | (cases u <;> first
        | exact wpAny_pure hQ
        | (refine wpAny_bind (wpAny_load ho ?_)
           rw [hc, hd]
           show wpAny M A (if (["enumerate", "zip", "dict_itemiterator", "dict_reverseitemiterator", "odict_iterator", "itertools.zip_longest", "itertools.pairwise"].contains n && vs[0]? == some (rawInt _)) = true then _ else _) Q E s
           rw [if_neg (by intro h; rw [hn, Bool.false_and] at h; cases h)]
           exact wpAny_pure hQ))
/-- the list at a, as it stands at each turn (a loop may append to it) -/
def Itl (K : PySem.W.Frag) (a : Addr) : It :=
  ⟨fun i H => ∃ xs x, SqL K H a xs ∧ xs[i]? = some x, fun i H x H' => H' = H ∧ ∀ xs, SqL K H a xs → xs[i]? = some x, fun i H => ∃ xs, SqL K H a xs ∧ xs.length ≤ i⟩
def Itt (K : PySem.W.Frag) (a : Addr) : It :=
  ⟨fun i H => ∃ xs x, SqT K H a xs ∧ xs[i]? = some x, fun i H x H' => H' = H ∧ ∀ xs, SqT K H a xs → xs[i]? = some x, fun i H => ∃ xs, SqT K H a xs ∧ xs.length ≤ i⟩
/-- lo, lo + 1, .. (n of them) -/
def Itr (lo : Int) (n : Nat) : It := ⟨fun i _ => i < n, fun i H x H' => H' = H ∧ x = .int (lo + i), fun i _ => n ≤ i⟩
theorem turn_list {P : Program} {w : World} {K : PySem.W.Frag} {tg : Expr} (a it : Addr) : Turn P w K tg (Itl K a) [it] it (fun i h => h.IsListIter it a i) where
  mem := by simp
  obj := fun i h st b hb => by
    have e : b = it := by simpa using hb
    subst e
    obtain ⟨o, e, c, d⟩ := st
    exact ⟨o, e, fun v z => by rw [d] at z; cases z⟩
  keep := fun i h h' st k => st.at fun o e => k it (by simp) o e
  item := by
    intro X hP hw hK hc i pins s σ H E I hf st hg
    subst hP hw hK
    obtain ⟨xs, x, hq, hx⟩ := hg
    obtain ⟨its, rv, p, hz⟩ := I.list hq
    obtain ⟨u, hu, ru⟩ := rv.get hx
    obtain ⟨f0, f1, f2, f3, f4, f5⟩ := hf it (by simp)
    refine wpAny_pyNext_list_item st p.isList (x := u) (by simpa using hu) fun h' st' sb => ?_
    have I1 : Inv X pins σ H { s with heap := h' } := I.turned (t' := s.toks) (fun b o hb e => (sb.2 b hb).trans e) f0 f1 f3 f4 f5
    obtain ⟨o, e, c, d⟩ := id st'
    exact ⟨u, rfl, go_of (s := { s with heap := h' }) e c d (by decide) ⟨x, H, I1, ru, ⟨rfl, fun ys hy => by rw [I.list_inj hy hq]; exact hx⟩, st', fun b hb => (hf b hb).1⟩⟩
  done := by
    intro X hP hw hK hc i pins s σ H E I hf st hg
    subst hP hw hK
    obtain ⟨xs, hq, hx⟩ := hg
    obtain ⟨its, rv, p, hz⟩ := I.list hq
    obtain ⟨f0, f1, f2, f3, f4, f5⟩ := hf it (by simp)
    have hl := rv.length
    exact wpAny_pyNext_list_end (I.ok.hd hc) st p.isList (by simp; omega) fun h' eb => ⟨rfl, I.turned (t' := s.toks) (fun b o hb e => eb b o hb e) f0 f1 f3 f4 f5⟩
  self := fun _ _ _ _ _ st h => wpAny_pyIter_listiter st h
theorem turn_tuple {P : Program} {w : World} {K : PySem.W.Frag} {tg : Expr} (a it : Addr) : Turn P w K tg (Itt K a) [it] it (fun i h => h.IsTupleIter it a i) where
  mem := by simp
  obj := fun i h st b hb => by
    have e : b = it := by simpa using hb
    subst e
    obtain ⟨o, e, c, d⟩ := st
    exact ⟨o, e, fun v z => by rw [d] at z; cases z⟩
  keep := fun i h h' st k => st.at fun o e => k it (by simp) o e
  item := by
    intro X hP hw hK hc i pins s σ H E I hf st hg
    subst hP hw hK
    obtain ⟨xs, x, hq, hx⟩ := hg
    obtain ⟨its, rv, p, hz⟩ := I.tuple hq
    obtain ⟨u, hu, ru⟩ := rv.get hx
    obtain ⟨f0, f1, f2, f3, f4, f5⟩ := hf it (by simp)
    refine wpAny_pyNext_tuple_item st (show s.heap.IsTuple a its.toArray from p) (x := u) (by simpa using hu) fun h' st' sb => ?_
    have I1 : Inv X pins σ H { s with heap := h' } := I.turned (t' := s.toks) (fun b o hb e => (sb.2 b hb).trans e) f0 f1 f3 f4 f5
    obtain ⟨o, e, c, d⟩ := id st'
    exact ⟨u, rfl, go_of (s := { s with heap := h' }) e c d (by decide) ⟨x, H, I1, ru, ⟨rfl, fun ys hy => by rw [I.tuple_inj hy hq]; exact hx⟩, st', fun b hb => (hf b hb).1⟩⟩
  done := by
    intro X hP hw hK hc i pins s σ H E I hf st hg
    subst hP hw hK
    obtain ⟨xs, hq, hx⟩ := hg
    obtain ⟨its, rv, p, hz⟩ := I.tuple hq
    obtain ⟨f0, f1, f2, f3, f4, f5⟩ := hf it (by simp)
    have hl := rv.length
    exact wpAny_pyNext_tuple_end (I.ok.hd hc) st (show s.heap.IsTuple a its.toArray from p) (by simp; omega) fun h' eb => ⟨rfl, I.turned (t' := s.toks) (fun b o hb e => eb b o hb e) f0 f1 f3 f4 f5⟩
  self := fun _ _ _ _ _ st h => wpAny_pyIter_tupleiter st h
theorem turn_range {P : Program} {w : World} {K : PySem.W.Frag} {tg : Expr} (it : Addr) (lo : Int) (n : Nat) : Turn P w K tg (Itr lo n) [it] it (fun i h => IsRangeIter h it (lo + (i : Nat) * 1) ((n : Int) - (i : Nat)) 1) where
  mem := by simp
  obj := fun i h st b hb => by
    have e : b = it := by simpa using hb
    subst e
    exact ⟨_, st, fun v z => by
      have z' : Data.fields _ = Data.cell v := z
      cases z'⟩
  keep := fun i h h' st k => k it (by simp) _ st
  item := by
    intro X hP hw hK hc i pins s σ H E I hf st hg
    subst hP hw hK
    obtain ⟨f0, f1, f2, f3, f4, f5⟩ := hf it (by simp)
    have W := Walks.range (prog := X.prog) (w := X.w) (I.ok.hd hc) it lo 1 n
    refine W.item i s _ _ hg st fun v h' tk hv st' kk => ?_
    obtain ⟨t, rfl⟩ := hv
    have I1 : Inv X pins σ H { s with heap := h', toks := tk } := I.turned (fun b o hb e => kk b o (by simpa using hb) e) f0 f1 f3 f4 f5
    refine ⟨_, rfl, go_of (s := { s with heap := h', toks := tk }) (n := "range_iterator") st' rfl rfl (by decide) ⟨.int (lo + i), H, I1, ⟨t, ?_⟩, ⟨rfl, rfl⟩, st', fun b hb => (hf b hb).1⟩⟩
    rw [Int.mul_one]
  done := by
    intro X hP hw hK hc i pins s σ H E I hf st hg
    subst hP hw hK
    obtain ⟨f0, f1, f2, f3, f4, f5⟩ := hf it (by simp)
    exact wpAny_pyNext_range_end (I.ok.hd hc) st (by have : n ≤ i := hg; omega) fun h' eb => ⟨rfl, I.turned (t' := s.toks) (fun b o hb e => eb b o hb e) f0 f1 f3 f4 f5⟩
  self := fun _ _ _ _ _ st h => wpAny_pyIter_rangeiter st h
end L2
namespace L2
open PySem PySem.Spec PyProof.Rows
section
variable {X : Cx} {tg : Expr}
/-- a range object just made, walked -/
theorem range_it {pins : List (Addr × Obj)} {σ : St} {H : Hp} {s : Shared} {R : It → Hp → Prop} {E : Value → Shared → Prop} {lo hi : Int} {t u v : Tok} {tk : Nat} (I : Inv X pins σ H s) (h1 : -(2 ^ 62) ≤ lo) (h2 : lo < 2 ^ 62) (h3 : -(2 ^ 62) ≤ hi) (h4 : hi < 2 ^ 62)
    (q : R (Itr lo (hi - lo).toNat) H) : wpAny (model X.prog X.w) X.A (pyIter (.ref s.heap.objs.size)) (PIE X pins σ tg R) E { s with heap := s.heap.push { cls := .type "range", data := .fields #[.int lo t, .int hi u, .int 1 v] }, toks := tk } := by
  refine wpAny_pyIter_range (IsRange.new ..) (small_one h1 h2 h3 h4) ?_
  have I1 : Inv X pins σ H { s with heap := s.heap.push { cls := .type "range", data := .fields #[.int lo t, .int hi u, .int 1 v] }, toks := tk } := I.kept fun b o e => Heap.get?_push_of_some _ e
  refine ⟨(s.heap.push { cls := .type "range", data := .fields #[.int lo t, .int hi u, .int 1 v] }).objs.size, [(s.heap.push { cls := .type "range", data := .fields #[.int lo t, .int hi u, .int 1 v] }).objs.size], _, _, H, rfl,
    I1.kept (t' := tk) fun b o e => Heap.get?_push_of_some _ e, turn_range _ lo (hi - lo).toNat, ?_, fun b hb => ?_, q⟩
  · have e1 : lo + ((0 : Nat) : Int) * 1 = lo := by simp
    have e2 : (((hi - lo).toNat : Nat) : Int) - ((0 : Nat) : Int) = Builtin.Range.rangeSize lo hi 1 := by rw [rangeSize_one]; split <;> omega
    show IsRangeIter _ _ (lo + ((0 : Nat) : Int) * 1) ((((hi - lo).toNat : Nat) : Int) - ((0 : Nat) : Int)) 1
    rw [e1, e2]
    exact Heap.get?_push_size _ rfl
  · have e : b = (s.heap.push { cls := .type "range", data := .fields #[.int lo t, .int hi u, .int 1 v] }).objs.size := by simpa using hb
    subst e
    exact I1.fpOk (Nat.le_refl _) (I1.hok.fresh (Nat.le_refl _))
def iRng1 (ta : TA) : TI := fun σ H R => ta σ H fun vs H1 => ∃ j : Int, vs = [.int j] ∧ -(2 ^ 62) ≤ j ∧ j < 2 ^ 62 ∧ R (Itr 0 j.toNat) H1
theorem pi_range1 {a : Expr} {ta : TA} {p pos : Pos} (hg : Gl X "range") (hm : X.mg "range" = none) (ha : PA X [a] ta) (hs : starEach [a] X.env = [(false, eval a X.env)] := by rfl) : PI X tg (.Call (.Name "range" p) [a] [] pos) (iRng1 ta) := by
  intro pins s σ H R I h
  refine Call_ (ld_blt I hg hm boot_range (PyProof.Rows.callWith_type1 (thn (ha pos pins s σ H _ I h) fun us s1 ⟨vs, H1, I1, r1, q1⟩ => ?_) hs rfl))
  obtain ⟨j, e, q1, q2, q⟩ := q1
  subst e
  cases r1 with
  | cons r rr =>
    cases rr
    obtain ⟨t, rfl⟩ := r
    exact call_range_1 (range_it I1 (by omega) (by omega) q1 q2 (by simpa using q))
/-! ### for -/
/-- W: the invariant by the turn and a measure; N: what the body is to reach -/
def tFor (wi : TI) (g : TG) (tb : TS) : TS := fun D σ H => wi σ H fun J H1 => ∃ W : Nat → Nat → St → Hp → Prop, (∃ m, W 0 m σ H1) ∧ ∀ i m σ H, W i m σ H →
  (J.stop i H ∧ D.nx σ H) ∨ (J.go i H ∧ ∃ N : St → Hp → Prop, (∀ σ' H', N σ' H' → ∃ m', m' < m ∧ W (i + 1) m' σ' H') ∧ ∀ x H', J.yld i H x H' → g x σ H' fun σ2 H2 => tb { D with nx := N, ct := N, bk := D.nx } σ2 H2)
/-- the records at fp as they stand -/
def pinsAt (fp : List Addr) (h : Heap) : List (Addr × Obj) := fp.filterMap fun b => (h.get? b).map fun o => (b, o)
theorem mem_pinsAt {fp : List Addr} {h : Heap} {b : Addr} {o : Obj} (hb : b ∈ fp) (e : h.get? b = some o) : (b, o) ∈ pinsAt fp h := List.mem_filterMap.mpr ⟨b, hb, by rw [e]; rfl⟩
theorem of_pinsAt {fp : List Addr} {h : Heap} {p : Addr × Obj} (hp : p ∈ pinsAt fp h) : p.1 ∈ fp ∧ h.get? p.1 = some p.2 := by
  obtain ⟨b, hb, e⟩ := List.mem_filterMap.mp hp
  cases q : h.get? b with
  | none => rw [q] at e; cases e
  | some o =>
    rw [q] at e
    have e' : (b, o) = p := Option.some.inj e
    subst e'
    exact ⟨hb, q⟩
theorem Inv.pinned {pins : List (Addr × Obj)} {σ : St} {H : Hp} {s : Shared} {fp : List Addr} (I : Inv X pins σ H s) (hf : ∀ b ∈ fp, FpOk X pins H b) (ho : ∀ b ∈ fp, ∃ o, s.heap.get? b = some o ∧ ∀ v, o.data ≠ .cell v) : Inv X (pins ++ pinsAt fp s.heap) σ H s :=
  I.pins_of fun p hp => (List.mem_append.mp hp).elim (fun z => I.pin p (List.mem_append_right _ z)) fun z => by
    obtain ⟨hb, e⟩ := of_pinsAt z
    obtain ⟨f0, f1, f2, _⟩ := hf p.1 hb
    obtain ⟨o, e', d⟩ := ho p.1 hb
    rw [e] at e'; cases e'
    exact ⟨e, f0, f1, f2, d⟩
theorem Inv.unpinned {pins pl : List (Addr × Obj)} {σ : St} {H : Hp} {s : Shared} (I : Inv X (pins ++ pl) σ H s) : Inv X pins σ H s := I.pins_of fun p hp => I.pin p (List.mem_append_right _ (List.mem_append_left _ hp))
theorem ps_for {iter : Expr} {body : List Stmt} {wi : TI} {g : TG} {tb : TS} {pos : Pos} (hp : PassesOwn (model X.prog X.w) X.A X.env X.xe) (hc : X.calm = true) (hi : PI X tg iter wi) (hg : PG X tg g) (hb : PSs X body tb)
    (hs : ∀ x, foldedSetIterable iter X.env x = pure x := by intro _; rfl) : PS X (.For tg iter body [] pos) (tFor wi g tb) := by
  intro pins s σ H D I h
  refine wpAny_For (thn (hi pins s σ H _ I h) fun v s1 h1 => thn h1 fun itv s2 h2 => ?_) hs
  obtain ⟨it, fp, tn, J, H2, e, I2, T, st2, f2, W, ⟨m0, w0⟩, turn⟩ := h2
  subst e
  -- what stays true of the iterator's objects through the loop
  have stat : ∀ {H' : Hp}, (∀ b ∈ fp, H' b = none) → ∀ b ∈ fp, FpOk X pins H' b := fun hn b hb => ⟨hn b hb, (f2 b hb).2⟩
  refine codeAny_forLoop_any (fun n s' => ∃ i σ' H', Inv X pins σ' H' s' ∧ tn i s'.heap ∧ (∀ b ∈ fp, H' b = none) ∧ W i n σ' H') ?_ m0 ⟨0, σ, H2, I2, st2, fun b hb => (f2 b hb).1, w0⟩
  rintro n s3 ⟨i, σ3, H3, I3, st3, fr3, w3⟩
  rcases turn i n σ3 H3 w3 with ⟨stop, qn⟩ | ⟨go, N, hN, step⟩
  · refine wpAny_passesOwn hp (thn (T.done X rfl rfl rfl hc i pins s3 σ3 H3 X.xe I3 (stat fr3) st3 stop) fun r s4 ⟨hr, I4⟩ => ?_)
    subst hr
    exact wpAny_execs_nil ⟨σ3, H3, I4, qn⟩
  · refine wpAny_passesOwn hp (thn (T.item X rfl rfl rfl hc i pins s3 σ3 H3 X.xe I3 (stat fr3) st3 go) fun r s4 ⟨u, hr, h4⟩ => ?_)
    subst hr
    refine wpAny_passesOwn hp (thn h4 fun _ s5 ⟨x, H5, I5, r5, y5, st5, fr5⟩ => ?_)
    have I5' := I5.pinned (stat fr5) (T.obj _ _ st5)
    refine wpAny_passesOwn hp (thn (hg _ s5 σ3 H5 x u _ I5' r5 (step x H5 y5)) fun _ s6 ⟨σ6, H6, I6, q6⟩ => ?_)
    refine wpAny_passesOwn hp (thn (hb _ s6 σ6 H6 _ I6 q6) fun f s7 q7 => ?_)
    have again : ∀ {σ7 : St} {H7 : Hp}, Inv X (pins ++ pinsAt fp s5.heap) σ7 H7 s7 → N σ7 H7 → ∃ m, m < n ∧ ∃ i σ' H', Inv X pins σ' H' s7 ∧ tn i s7.heap ∧ (∀ b ∈ fp, H' b = none) ∧ W i m σ' H' := fun {σ7 H7} I7 n7 => by
      obtain ⟨m', hm, w7⟩ := hN σ7 H7 n7
      refine ⟨m', hm, i + 1, σ7, H7, I7.unpinned, T.keep _ _ _ st5 fun b hb o e => (I7.pin (b, o) (List.mem_append_right _ (List.mem_append_right _ (mem_pinsAt hb e)))).1, fun b hb => ?_, w7⟩
      obtain ⟨o, e, d⟩ := T.obj _ _ st5 b hb
      exact (I7.pin (b, o) (List.mem_append_right _ (List.mem_append_right _ (mem_pinsAt hb e)))).2.1
    cases f with
    | next => obtain ⟨σ7, H7, I7, n7⟩ := q7; exact again I7 n7
    | cont => obtain ⟨σ7, H7, I7, n7⟩ := q7; exact again I7 n7
    | brk => obtain ⟨σ7, H7, I7, q7⟩ := q7; exact ⟨σ7, H7, I7.unpinned, q7⟩
    | ret v => obtain ⟨x7, σ7, H7, I7, r7, q7⟩ := q7; exact ⟨x7, σ7, H7, I7.unpinned, r7, q7⟩
end
/-! ### the forms one uses -/
end L2
namespace L2
open PySem PySem.Spec PyProof.Rows
abbrev R2 := V → V → Hp → VK → Prop
/-- a two-place operation on values: f is binaryOp op, inplaceOp op or compareOp op -/
def OpR (X : Cx) (f : Value → Value → Sem Value) (r : R2) : Prop :=
  ∀ (pins : List (Addr × Obj)) (s : Shared) (σ : St) (H : Hp) (x y : V) (v u : Value) (Q : VK), Inv X pins σ H s → RelV x v → RelV y u → r x y H Q →
    wpAny (model X.prog X.w) X.A (f v u) (EP X pins σ Q) X.xe s
/-- a one-place operation -/
def UnR (X : Cx) (f : Value → Sem Value) (r : V → Hp → VK → Prop) : Prop :=
  ∀ (pins : List (Addr × Obj)) (s : Shared) (σ : St) (H : Hp) (x : V) (v : Value) (Q : VK), Inv X pins σ H s → RelV x v → r x H Q →
    wpAny (model X.prog X.w) X.A (f v) (EP X pins σ Q) X.xe s
/-- a call of a value that is known (a builtin, a type) with values -/
def CallR (X : Cx) (f : Value) (r : List V → Hp → VK → Prop) : Prop :=
  ∀ (pins : List (Addr × Obj)) (s : Shared) (σ : St) (H : Hp) (xs : List V) (us : List Value) (Q : VK), Inv X pins σ H s → Vals xs us → r xs H Q →
    wpAny (model X.prog X.w) X.A (call f us) (EP X pins σ Q) X.xe s
/-- a value's truth -/
def TruR (X : Cx) (r : V → Hp → (Bool → Hp → Prop) → Prop) : Prop :=
  ∀ (pins : List (Addr × Obj)) (s : Shared) (σ : St) (H : Hp) (x : V) (v : Value) (Q : Bool → Hp → Prop), Inv X pins σ H s → RelV x v → r x H Q →
    wpAny (model X.prog X.w) X.A (truthy v) (TP X pins σ Q) X.xe s
def tOp (r : R2) (ta tb : TE) : TE := fun σ H Q => ta σ H fun x H1 => tb σ H1 fun y H2 => r x y H2 Q
def tUn (r : V → Hp → VK → Prop) (ta : TE) : TE := fun σ H Q => ta σ H fun x H1 => r x H1 Q
/-- ints in, under C, and a value out -/
def rI (C : Int → Int → Prop) (g : Int → Int → V) : R2 := fun x y H Q => ∃ i j, x = .int i ∧ y = .int j ∧ C i j ∧ Q (g i j) H
def rI0 (g : Int → Int → V) : R2 := fun x y H Q => ∃ i j, x = .int i ∧ y = .int j ∧ Q (g i j) H
def rU (g : Int → V) : V → Hp → VK → Prop := fun x H Q => ∃ i, x = .int i ∧ Q (g i) H
section
variable {X : Cx} {a b c : Expr} {ta tb tc : TE} {pos : Pos}
theorem binT (ha : PE X a ta) (hb : PE X b tb) {pins : List (Addr × Obj)} {s : Shared} {σ : St} {H : Hp} {R : V → V → Hp → Prop} (I : Inv X pins σ H s)
    (h : ta σ H fun x H1 => tb σ H1 fun y H2 => R x y H2) {Q : Value → Shared → Prop} {f : Value → Value → Sem Value}
    (hf : ∀ v u s2 x y H2, Inv X pins σ H2 s2 → RelV x v → RelV y u → R x y H2 → wpAny (model X.prog X.w) X.A (f v u) Q X.xe s2) :
    wpAny (model X.prog X.w) X.A (eval a X.env) (fun v s₁ => wpAny (model X.prog X.w) X.A (eval b X.env) (fun u s₂ => wpAny (model X.prog X.w) X.A (f v u) Q X.xe s₂) X.xe s₁) X.xe s := by
  refine thn (ha pins s σ H _ I h) fun v s1 ⟨x, H1, I1, r1, q1⟩ => ?_
  refine thn (hb pins s1 σ H1 _ I1 q1) fun u s2 ⟨y, H2, I2, r2, q2⟩ => ?_
  exact hf v u s2 x y H2 I2 r1 r2 q2
theorem pe_op {op : Operator} {r : R2} (ho : OpR X (binaryOp op) r) (ha : PE X a ta) (hb : PE X b tb) : PE X (.BinOp a op b pos) (tOp r ta tb) := by
  intro pins s σ H Q I h
  exact wpAny_BinOp (binT ha hb I h fun v u s2 x y H2 I2 rx ry q => ho pins s2 σ H2 x y v u Q I2 rx ry q)
theorem pe_un {op : UnaryOp} {r : V → Hp → VK → Prop} (ho : UnR X (unaryOp op) r) (ha : PE X a ta) : PE X (.UnaryOp op a pos) (tUn r ta) := by
  intro pins s σ H Q I h
  exact UnaryOp_ (thn (ha pins s σ H _ I h) fun v s1 ⟨x, H1, I1, r1, q1⟩ => ho pins s1 σ H1 x v Q I1 r1 q1)
/-! ### ints -/
theorem opI {f : Value → Value → Sem Value} {C : Int → Int → Prop} {g : Int → Int → Int}
    (rule : ∀ (i j : Int) (t u : Tok) (s : Shared) (Q : Value → Shared → Prop) (E : Value → Shared → Prop), C i j → Q (.int (g i j) s.toks) { s with toks := s.toks + 1 } → wpAny (model X.prog X.w) X.A (f (.int i t) (.int j u)) Q E s) :
    OpR X f (rI C fun i j => .int (g i j)) := by
  intro pins s σ H x y v u Q I rx ry h
  obtain ⟨i, j, rfl, rfl, hc, q⟩ := h
  obtain ⟨t, rfl⟩ := rx
  obtain ⟨t', rfl⟩ := ry
  exact rule i j t t' s _ _ hc ⟨.int (g i j), H, I.tok _, ⟨_, rfl⟩, q⟩
theorem opI0 {f : Value → Value → Sem Value} {g : Int → Int → Int}
    (rule : ∀ (i j : Int) (t u : Tok) (s : Shared) (Q : Value → Shared → Prop) (E : Value → Shared → Prop), Q (.int (g i j) s.toks) { s with toks := s.toks + 1 } → wpAny (model X.prog X.w) X.A (f (.int i t) (.int j u)) Q E s) :
    OpR X f (rI0 fun i j => .int (g i j)) := by
  intro pins s σ H x y v u Q I rx ry h
  obtain ⟨i, j, rfl, rfl, q⟩ := h
  obtain ⟨t, rfl⟩ := rx
  obtain ⟨t', rfl⟩ := ry
  exact rule i j t t' s _ _ ⟨.int (g i j), H, I.tok _, ⟨_, rfl⟩, q⟩
theorem opB0 {f : Value → Value → Sem Value} {g : Int → Int → Bool}
    (rule : ∀ (i j : Int) (t u : Tok) (s : Shared) (Q : Value → Shared → Prop) (E : Value → Shared → Prop), Q (.bool (g i j)) s → wpAny (model X.prog X.w) X.A (f (.int i t) (.int j u)) Q E s) :
    OpR X f (rI0 fun i j => .bl (g i j)) := by
  intro pins s σ H x y v u Q I rx ry h
  obtain ⟨i, j, rfl, rfl, q⟩ := h
  obtain ⟨t, rfl⟩ := rx
  obtain ⟨t', rfl⟩ := ry
  exact rule i j t t' s _ _ ⟨.bl (g i j), H, I, rfl, q⟩
def CDiv (i j : Int) : Prop := 0 < j ∧ j < 1073741824
def CPow (i j : Int) : Prop := 0 ≤ j ∧ j ≤ 1000000 ∧ i.natAbs < 2 ^ 64
def CMul (i j : Int) : Prop := (-(2 ^ 64) < i ∧ i < 2 ^ 64) ∨ (-(2 ^ 64) < j ∧ j < 2 ^ 64)
theorem CMul.ok {i j : Int} (h : CMul i j) : IntMulOk i j := by
  rcases h with ⟨h1, h2⟩ | ⟨h1, h2⟩
  · exact .of_left (intBits_le_64 h1 h2)
  · exact .of_right (intBits_le_64 h1 h2)
theorem op_add : OpR X (binaryOp .Add) (rI0 fun i j => .int (i + j)) := opI0 fun _ _ _ _ _ _ _ q => add_int q
theorem op_sub : OpR X (binaryOp .Sub) (rI0 fun i j => .int (i - j)) := opI0 fun _ _ _ _ _ _ _ q => sub_int q
theorem op_mul : OpR X (binaryOp .Mult) (rI CMul fun i j => .int (i * j)) := opI fun _ _ _ _ _ _ _ hc q => mul_int q hc.ok
/-- // by a positive divisor -/
theorem op_fdiv : OpR X (binaryOp .FloorDiv) (rI CDiv fun i j => .int (i / j)) := opI fun i j _ _ _ _ _ hc q => by
  have h1 : (0 : Int) < j := hc.1
  have h2 : j < 1073741824 := hc.2
  exact floordiv_int (by omega) (by rw [Int.fdiv_eq_ediv_of_nonneg i (by omega)]; exact q) (.inl (PyProof.noPylong_small (by omega)))
/-- % by a positive divisor of any size -/
theorem op_mod : OpR X (binaryOp .Mod) (rI (fun _ j => 0 < j) fun i j => .int (i % j)) := opI fun i j _ _ _ _ _ hc q => by
  have h1 : (0 : Int) < j := hc
  exact mod_int' (by omega) (by rw [Int.fmod_eq_emod_of_nonneg i (by omega)]; exact q)
theorem op_pow : OpR X (binaryOp .Pow) (rI CPow fun i j => .int (i ^ j.toNat)) := opI fun _ _ _ _ _ _ _ hc q => pow_int_small hc.1 hc.2.1 hc.2.2 q
theorem unI {f : Value → Sem Value} {g : Int → Int}
    (rule : ∀ (i : Int) (t : Tok) (s : Shared) (Q : Value → Shared → Prop) (E : Value → Shared → Prop), Q (.int (g i) s.toks) { s with toks := s.toks + 1 } → wpAny (model X.prog X.w) X.A (f (.int i t)) Q E s) :
    UnR X f (rU fun i => .int (g i)) := by
  intro pins s σ H x v Q I rx h
  obtain ⟨i, rfl, q⟩ := h
  obtain ⟨t, rfl⟩ := rx
  exact rule i t s _ _ ⟨.int (g i), H, I.tok _, ⟨_, rfl⟩, q⟩
theorem un_neg : UnR X (unaryOp .USub) (rU fun i => .int (-i)) := unI fun _ _ _ _ _ q => neg_int q
/-! ### bools among ints: n += (a < b) -/
end
/-! ### comparisons -/
section
variable {X : Cx} {a b c : Expr} {ta tb tc : TE} {pos : Pos}
theorem fin_bl {pins : List (Addr × Obj)} {σ : St} {H : Hp} {s : Shared} {Q : VK} {k k' : Bool} (I : Inv X pins σ H s) (q : Q (.bl k) H) (e : k = k') : EP X pins σ Q (.bool k') s := by
  subst e
  exact ⟨.bl k, H, I, rfl, q⟩
theorem op_lt : OpR X (compareOp .Lt) (rI0 fun i j => .bl (decide (i < j))) := opB0 fun _ _ _ _ _ _ _ q => lt_int q
theorem op_le : OpR X (compareOp .LtE) (rI0 fun i j => .bl (decide (i ≤ j))) := opB0 fun _ _ _ _ _ _ _ q => le_int q
theorem op_gt : OpR X (compareOp .Gt) (rI0 fun i j => .bl (decide (j < i))) := opB0 fun _ _ _ _ _ _ _ q => gt_int q
/-- the one string within the other -/
theorem op_in_str : OpR X (compareOp .In) (fun x y H Q => ∃ i j, x = .str i ∧ y = .str j ∧ Q (.bl (!(Builtin.Str.occurrences j i 0 j.length 1).isEmpty)) H) := by
  intro pins s σ H x y v u Q I rx ry h
  obtain ⟨i, j, rfl, rfl, q⟩ := h
  obtain ⟨t, rfl⟩ := rx
  obtain ⟨t', rfl⟩ := ry
  exact in_str (fin_bl I q rfl)
/-- two rules for one operation: by cases -/
theorem OpR.or {f : Value → Value → Sem Value} {r r' : R2} (h : OpR X f r) (h' : OpR X f r') : OpR X f (fun x y H Q => r x y H Q ∨ r' x y H Q) := by
  intro pins s σ H x y v u Q I rx ry q
  rcases q with q | q
  · exact h pins s σ H x y v u Q I rx ry q
  · exact h' pins s σ H x y v u Q I rx ry q
theorem nomark (b : Expr) {op : CmpOp} (h : op ≠ .In := by decide) (h2 : op ≠ .NotIn := by decide) : behindInMarks op b = false := by
  have e1 : (op == CmpOp.In) = false := by cases op <;> first | rfl | exact absurd rfl h
  have e2 : (op == CmpOp.NotIn) = false := by cases op <;> first | rfl | exact absurd rfl h2
  cases b <;> simp [behindInMarks, e1, e2]
/-- a comparison as a value; hm: nomark b, or (for in, not in) by with_unfolding_all rfl -/
theorem pe_cmpR {op : CmpOp} {r : R2} (ho : OpR X (compareOp op) r) (ha : PE X a ta) (hb : PE X b tb) (hm : behindInMarks op b = false) : PE X (.Compare a [op] [b] pos) (tOp r ta tb) := by
  intro pins s σ H Q I h
  exact wpAny_Compare1 (binT ha hb I h fun v u s2 x y H2 I2 rx ry q => ho pins s2 σ H2 x y v u Q I2 rx ry q) hm
/-- a reading of a value as a test -/
def tTest (t : TE) : TT := fun σ H Q => t σ H fun x H' => ∃ k, x = .bl k ∧ Q k H'
theorem pt_cmpR {op : CmpOp} {r : R2} (ho : OpR X (compareOp op) r) (ha : PE X a ta) (hb : PE X b tb) (hm : behindInMarks op b = false) : PT X (.Compare a [op] [b] pos) (tTest (tOp r ta tb)) := by
  intro pins s σ H Q I h
  refine wpAny_isTrue_Compare1 (thn (ha pins s σ H _ I h) fun v s1 ⟨x, H1, I1, r1, q1⟩ => thn (hb pins s1 σ H1 _ I1 q1) fun u s2 ⟨y, H2, I2, r2, q2⟩ =>
    thn (ho pins s2 σ H2 x y v u _ I2 r1 r2 q2) fun c s3 ⟨z, H3, I3, r3, k, e, q3⟩ => ?_) hm
  subst e
  cases r3
  exact wpAny_truthy_bool ⟨H3, I3, q3⟩
/-- a op1 b op2 c -/
def tChain (r r' : R2) (ta tb tc : TE) : TE := fun σ H Q => ta σ H fun x H1 => tb σ H1 fun y H2 => r x y H2 fun z H3 => ∃ k, z = .bl k ∧
  (if k = true then tc σ H3 fun w' H4 => r' y w' H4 Q else Q (.bl false) H3)
theorem pe_chain {op op' : CmpOp} {r r' : R2} (ho : OpR X (compareOp op) r) (ho' : OpR X (compareOp op') r') (ha : PE X a ta) (hb : PE X b tb) (hc : PE X c tc)
    (hm : lastMarks [op, op'] [b, c] = false := by with_unfolding_all rfl) : PE X (.Compare a [op, op'] [b, c] pos) (tChain r r' ta tb tc) := by
  intro pins s σ H Q I h
  refine Compare_chain (thn (ha pins s σ H _ I h) fun v s1 ⟨x, H1, I1, r1, q1⟩ => chain_link (thn (hb pins s1 σ H1 _ I1 q1) fun u s2 ⟨y, H2, I2, r2, q2⟩ =>
    thn (ho pins s2 σ H2 x y v u _ I2 r1 r2 q2) fun d s3 ⟨z, H3, I3, r3, k, e, q3⟩ => ?_)) hm
  subst e
  cases r3
  refine wpAny_truthy_bool ?_
  cases k with
  | false => exact ite_ff ⟨.bl false, H3, I3, rfl, q3⟩
  | true => exact ite_tt (chain_last (thn (hc pins s3 σ H3 _ I3 q3) fun w' s4 ⟨z', H4, I4, r4, q4⟩ => ho' pins s4 σ H4 y z' u w' Q I4 r2 r4 q4))
/-! ### truth -/
/-- a value's truth by the abstract heap -/
def TruV (K : PySem.W.Frag) (x : V) (H : Hp) (k : Bool) : Prop :=
  match x with
  | .non => k = false
  | .bl b => k = b
  | .int i => k = (i != 0)
  | .str y => y.length ≤ sizeLine ∧ k = ((y.length : Int) != 0)
  | .byt y => y.size ≤ sizeLine ∧ k = ((y.size : Int) != 0)
  | .ref p => (∃ xs, SqL K H p xs ∧ k = !xs.isEmpty) ∨ (∃ xs, SqT K H p xs ∧ k = !xs.isEmpty) ∨ ∃ kvs, H p = some (.dK kvs) ∧ k = !kvs.isEmpty
  | _ => False
theorem isEmpty_kv {κ : Type} {kvs : List (κ × V)} {vs : List (κ × Value)} (r : KV kvs vs) : (!vs.isEmpty) = !kvs.isEmpty := by
  cases r <;> rfl
theorem isEmpty_of {xs : List V} {its : List Value} (r : Vals xs its) : (!its.toArray.isEmpty) = !xs.isEmpty := by
  cases r <;> simp
theorem line63 : (sizeLine : Nat) < 2 ^ 63 := by rw [sizeLine_eq]; decide
theorem tru_ok : TruR X (fun x H Q => ∃ k, TruV X.K x H k ∧ Q k H) := by
  intro pins s σ H x v Q I rx h
  obtain ⟨k, e, q⟩ := h
  have hl := line63
  have hs : sizeLine = 16777216 := sizeLine_eq
  cases x with
  | non =>
    cases rx
    have e' : k = false := e
    subst e'
    exact truthy_none ⟨H, I, q⟩
  | bl b =>
    cases rx
    have e' : k = b := e
    subst e'
    exact wpAny_truthy_bool ⟨H, I, q⟩
  | int i =>
    obtain ⟨t, rfl⟩ := rx
    have e' : k = (i != 0) := e
    subst e'
    exact PySem.P.truthy_int ⟨H, I, q⟩
  | str y =>
    obtain ⟨t, rfl⟩ := rx
    obtain ⟨hy, e'⟩ : y.length ≤ sizeLine ∧ k = ((y.length : Int) != 0) := e
    subst e'
    exact PySem.P.truthy_str (by omega) ⟨H, I.tok _, q⟩
  | byt y =>
    obtain ⟨t, rfl⟩ := rx
    obtain ⟨hy, e'⟩ : y.size ≤ sizeLine ∧ k = ((y.size : Int) != 0) := e
    subst e'
    exact PySem.W.truthy_bytes (by omega) ⟨H, I.tok _, q⟩
  | ref p =>
    cases rx
    have e' : (∃ xs, SqL X.K H p xs ∧ k = !xs.isEmpty) ∨ (∃ xs, SqT X.K H p xs ∧ k = !xs.isEmpty) ∨ ∃ kvs, H p = some (.dK kvs) ∧ k = !kvs.isEmpty := e
    rcases e' with ⟨xs, hx, e'⟩ | ⟨xs, hx, e'⟩ | ⟨kvs, hx, e'⟩
    · subst e'
      obtain ⟨its, r, pl, hz⟩ := I.list hx
      have hlen := r.length
      exact wpAny_truthy_list pl.isList (by simp only [List.size_toArray]; omega) ⟨H, I.tok _, by rw [isEmpty_of r]; exact q⟩
    · subst e'
      obtain ⟨its, r, pl, hz⟩ := I.tuple hx
      have hlen := r.length
      exact truthy_tuple pl (by simp only [List.size_toArray]; omega) ⟨H, I.tok _, by rw [isEmpty_of r]; exact q⟩
    · subst e'
      obtain ⟨hz, hS, vs, r, m⟩ : kvs.length ≤ sizeLine ∧ (p == sysModules) = false ∧ ∃ vs, KV kvs vs ∧ s.heap.DictOf (mixKind X.prog X.w) p vs := I.hok p _ hx
      have hlen : kvs.length = vs.length := Paired.length r
      exact wpAny_truthy_dict hS m (by omega) ⟨H, I.tok _, by rw [isEmpty_kv r]; exact q⟩
  | _ => exact (show False from e).elim
/-- any expression whose test is its value's truth (a name, a call, a subscript, a field ..: he by fun _ => rfl) -/
theorem pt_truth (ha : PE X a ta) (he : ∀ whole, isTrue a X.env whole = (do let v ← whole; standAt a.pos; holding [v] (truthy v))) :
    PT X a (fun σ H Q => ta σ H fun x H' => ∃ k, TruV X.K x H' k ∧ Q k H') := by
  intro pins s σ H Q I h
  exact isTrue_plain (thn (ha pins s σ H _ I h) fun v s1 ⟨x, H1, I1, r1, q1⟩ => tru_ok pins s1 σ H1 x v Q I1 r1 q1) (he _)
/-! ### strs and bytes -/
theorem op_add_str : OpR X (binaryOp .Add) (fun x y H Q => ∃ i j, x = .str i ∧ y = .str j ∧ i.length + j.length ≤ sizeLine ∧ Q (.str (i ++ j)) H) := by
  intro pins s σ H x y v u Q I rx ry h
  obtain ⟨i, j, rfl, rfl, hz, q⟩ := h
  obtain ⟨t, rfl⟩ := rx
  obtain ⟨t', rfl⟩ := ry
  exact add_str (fun t' tk => ⟨.str (i ++ j), H, I.tok _, ⟨_, rfl⟩, q⟩) hz
/-! ### scalar builtins, by CallR -/
theorem vals1 {x : V} {us : List Value} (r : Vals [x] us) : ∃ u, us = [u] ∧ RelV x u := by
  cases r with
  | cons r1 r2 => cases r2; exact ⟨_, rfl, r1⟩
theorem vals2 {x y : V} {us : List Value} (r : Vals [x, y] us) : ∃ u w', us = [u, w'] ∧ RelV x u ∧ RelV y w' := by
  cases r with
  | cons r1 r2 =>
    cases r2 with
    | cons r3 r4 => cases r4; exact ⟨_, _, rfl, r1, r3⟩
theorem call_max2 (hc : X.calm = true) : CallR X (.builtin "max") (fun xs H Q => ∃ i j, xs = [.int i, .int j] ∧ Q (.int (if j > i then j else i)) H) := by
  intro pins s σ H xs us Q I r h
  obtain ⟨i, j, rfl, q⟩ := h
  obtain ⟨u, w', rfl, ⟨t, rfl⟩, ⟨t', rfl⟩⟩ := vals2 r
  refine max_two_ints (I.ok.hd hc) fun h' tk k => ⟨_, H, I.kept k, ?_, q⟩
  by_cases hj : j > i
  · rw [if_pos hj, if_pos hj]; exact ⟨_, rfl⟩
  · rw [if_neg hj, if_neg hj]; exact ⟨_, rfl⟩
theorem call_min2 (hc : X.calm = true) : CallR X (.builtin "min") (fun xs H Q => ∃ i j, xs = [.int i, .int j] ∧ Q (.int (if j < i then j else i)) H) := by
  intro pins s σ H xs us Q I r h
  obtain ⟨i, j, rfl, q⟩ := h
  obtain ⟨u, w', rfl, ⟨t, rfl⟩, ⟨t', rfl⟩⟩ := vals2 r
  refine min_two_ints (I.ok.hd hc) fun h' tk k => ⟨_, H, I.kept k, ?_, q⟩
  by_cases hj : j < i
  · rw [if_pos hj, if_pos hj]; exact ⟨_, rfl⟩
  · rw [if_neg hj, if_neg hj]; exact ⟨_, rfl⟩
end
end L2
namespace L2
open PySem PySem.Spec PyProof.Rows
/-! ### an instance, its attributes a map -/
section
variable {prog : Program} {w : World} {A : Around} {E : Value → Shared → Prop} {s : Shared} {K : PySem.W.Frag} {x dx C f : Addr} {mA : Str → Option Value} {name : Str} {v : Value}
end
/-! ### the attributes as a list of pairs -/
section
variable {P : Program} {w : World} {H H' : Hp} {h h' : Heap} {a C dx : Addr} {fs fs' : List (Str × V)}
end
/-! ### what of the text a class must have -/
structure Cls (K : PySem.W.Frag) (C : Addr) : Prop where
  pg : PySem.W.plainGet K C Str.empty = true
  hd : PySem.W.hasDictIn K C = true
  po : PySem.W.plainOver K C = true
  sa : PySem.W.findIn K (.ref C) "__setattr__" = some (some (.builtin "object.__setattr__"))
theorem Cls.get {K : PySem.W.Frag} {C : Addr} (c : Cls K C) (f : Str) : PySem.W.plainGet K C f = true := c.pg
section
variable {X : Cx} {pins : List (Addr × Obj)} {σ : St} {H : Hp} {s : Shared} {a C dx : Addr} {fs : List (Str × V)} {f : Str} {v : V} {A : Around} {E : Value → Shared → Prop}
/-- a new instance, tracked, without attributes -/
theorem Inv.made (I : Inv X pins σ H s) : Inv X pins σ (upd (upd H s.heap.objs.size (.own (s.heap.objs.size + 1))) (s.heap.objs.size + 1) (.ins C s.heap.objs.size []))
    { s with heap := (s.heap.push PySem.W.emptyDict).push (PySem.W.instObj C s.heap.objs.size) } := by
  have e1 : (s.heap.push PySem.W.emptyDict).get? s.heap.objs.size = some PySem.W.emptyDict := Heap.get?_push_size s.heap rfl
  have e2 : ((s.heap.push PySem.W.emptyDict).push (PySem.W.instObj C s.heap.objs.size)).get? (s.heap.objs.size + 1) = some (PySem.W.instObj C s.heap.objs.size) := by
    have := Heap.get?_push_size (s.heap.push PySem.W.emptyDict) (o := PySem.W.instObj C s.heap.objs.size) rfl
    rwa [Heap.size_push] at this
  have e3 : (s.heap.push PySem.W.emptyDict).Ns s.heap.objs.size (fun _ => none) := ⟨PySem.W.emptyDict, #[], _, e1, rfl, (fun e he => absurd he (by simp)), fun _ => rfl⟩
  have I1 := I.laid (a := s.heap.objs.size) (o := .own (s.heap.objs.size + 1)) (h' := s.heap.push PySem.W.emptyDict) (t' := s.toks) (fun b u q => Heap.get?_push_of_some _ q) (Nat.le_refl _) ⟨_, e1⟩
  refine I1.laid (a := s.heap.objs.size + 1) (o := .ins C s.heap.objs.size []) (t' := s.toks) (fun b u q => Heap.get?_push_of_some _ q) (Nat.le_of_eq (Heap.size_push _ _)) ?_
  have ne : s.heap.objs.size ≠ s.heap.objs.size + 1 := Nat.ne_of_lt (Nat.lt_succ_self _)
  refine ⟨by rw [upd_ne ne, upd_same], Nat.zero_le _, ne, e2, fun _ => none, (Heap.Ns1.of_empty e3).at fun o q => Heap.get?_push_of_some _ q, fun _ => True.intro, fun y hy => absurd rfl hy⟩
end
/-! ### readings and rules -/
section
variable {X : Cx} {o e value : Expr} {f : Str} {pos pos' tpos : Pos} {ta tv : TE}
end
/-! ### isinstance -/
section
variable {X : Cx} {pins : List (Addr × Obj)} {σ : St} {H : Hp} {s : Shared} {A : Around} {E : Value → Shared → Prop} {Q : Value → Shared → Prop} {c : Value} {b : Bool}
end
end L2
namespace L2
open PySem PySem.Spec PyProof.Rows
/-! ### room -/
structure Room (k : Nat) (A : Around) : Prop where
  hd : A.handled = none
  dp : A.depth + 3 * k + 5 < recursionLimit
  un : A.units + 16 * k + 200 < cLine
theorem Room.mono {j k : Nat} {A : Around} (r : Room k A) (h : j ≤ k) : Room j A := ⟨r.hd, by have := r.dp; omega, by have := r.un; omega⟩
theorem Room.deeper {k : Nat} {A : Around} (r : Room (k + 1) A) (env : Env) : Room k (A.deeper env) :=
  ⟨r.hd, by have := r.dp; show A.depth + 1 + 3 * k + 5 < _; omega, by have := r.un; show A.units + 3 + 16 * k + 200 < _; omega⟩
theorem Room.in1 {k : Nat} {A : Around} (r : Room (k + 1) A) : Room k A.in1 :=
  ⟨r.hd, by have := r.dp; show A.depth + 3 * k + 5 < _; omega, by have := r.un; show A.units + 1 + 16 * k + 200 < _; omega⟩
theorem Room.depth {k : Nat} {A : Around} (r : Room k A) : A.depth < recursionLimit := by have := r.dp; omega
theorem Room.units {k : Nat} {A : Around} (r : Room k A) : A.units + 64 < cLine := by have := r.un; omega
/-! ### argument lists and displays -/
def tNil : TA := fun _ H Q => Q [] H
def tCons (ta : TE) (tr : TA) : TA := fun σ H Q => ta σ H fun x H1 => tr σ H1 fun xs H2 => Q (x :: xs) H2
section
variable {X : Cx} {e : Expr} {es : List Expr} {te : TE} {t : TA} {pos : Pos}
theorem pa_nil : PA X [] tNil := fun _ _ _ _ H Q I h => Calls.spliced_nil ⟨[], H, I, .nil, h⟩
theorem pa_cons (ha : PE X e te) (hr : PA X es t) (hs : starEach (e :: es) X.env = (false, eval e X.env) :: starEach es X.env := by rfl) : PA X (e :: es) (tCons te t) := by
  intro pos pins s σ H Q I h
  rw [hs]
  show wpAny _ _ (spliced ((false, eval e X.env) :: backTo pos (starEach es X.env))) _ _ s
  refine Calls.spliced_cons (thn (ha pins s σ H _ I h) fun u s1 ⟨x, H1, I1, r1, q1⟩ => ?_)
  exact thn (hr pos pins s1 σ H1 _ I1 q1) fun us s2 ⟨xs, H2, I2, r2, q2⟩ => ⟨x :: xs, H2, I2, .cons r1 r2, q2⟩
/-- a tuple, a list of written items -/
def tTup (t : TA) : TE := fun σ H Q => t σ H fun xs H1 => xs.length ≤ sizeLine ∧ ∀ p, H1 p = none → Q (.ref p) (upd H1 p (.tup xs))
def tLst (t : TA) : TE := fun σ H Q => t σ H fun xs H1 => xs.length ≤ sizeLine ∧ ∀ p, H1 p = none → Q (.ref p) (upd H1 p (.lst xs))
theorem pe_tup {x1} (h : PA X es t) : PE X (.Tuple es x1 pos) (tTup t) := by
  intro pins s σ H Q I hq
  refine wpAny_Tuple_spliced (thn (h pos pins s σ H _ I hq) fun us s1 ⟨xs, H1, I1, r, z, q⟩ => ⟨by rw [← r.length]; exact z, ?_⟩)
  have hf : H1 s1.heap.objs.size = none := I1.hok.fresh (Nat.le_refl _)
  refine ⟨.ref s1.heap.objs.size, upd H1 s1.heap.objs.size (.tup xs), I1.laid (t' := s1.toks) (fun b u e => Heap.get?_push_of_some _ e) (Nat.le_refl _) ?_, rfl, q _ hf⟩
  exact ⟨z, us, r, ⟨_, Heap.get?_push_size _ rfl, rfl, _, rfl⟩⟩
theorem pe_lst (h : PA X es t) : PE X (.List es pos) (tLst t) := by
  intro pins s σ H Q I hq
  refine wpAny_List_spliced (thn (h pos pins s σ H _ I hq) fun us s1 ⟨xs, H1, I1, r, z, q⟩ => ⟨by rw [← r.length]; exact z, ?_⟩)
  have hf : H1 s1.heap.objs.size = none := I1.hok.fresh (Nat.le_refl _)
  refine ⟨.ref s1.heap.objs.size, upd H1 s1.heap.objs.size (.lst xs), I1.laid (t' := s1.toks) (fun b u e => Heap.get?_push_of_some _ e) (Nat.le_refl _) ?_, rfl, q _ hf⟩
  exact ⟨z, us, 0, r, Heap.get?_push_size _ rfl⟩
end
/-! ### what a def promises -/
/-- a def's promise: the bound arguments in the parameters' order, the heap, the wanted end, the wanted exception -/
abbrev Sp := List V → Hp → VK → XK → Prop
/-- how an exception lies behind a call (file 08 gives it): the callers' frames, abstract heap and state ahead of the call, the wish, the exception, the state -/
abbrev CXT := List Env → Hp → Shared → XK → Value → Shared → Prop
/-- the state at a call -/
structure Env0 (P : Program) (w : World) (K : PySem.W.Frag) (mg : Str → Option Value) (base : Heap) (A : Around) (outer : List Env) (s : Shared) (H : Hp) : Prop where
  frames : A.frames = some outer
  mod : Mod K mg base
  bs : ∀ b o, base.get? b = some o → s.heap.get? b = some o ∧ H b = none
  bsz : base.objs.size ≤ s.heap.objs.size
  funs : s.heap.FunFrames base outer
  frf : ∀ b ∈ frs outer, H b = none
  hok : HOk P w H s.heap
  bare : AllBare s.gens
/-- a call's end -/
def CE (outer : List Env) (P : Program) (w : World) (H : Hp) (s : Shared) (Q : VK) (u : Value) (s' : Shared) : Prop :=
  ∃ v H', s'.os = s.os ∧ AllBare s'.gens ∧ Un (frs outer) [] H H' s.heap s'.heap ∧ HOk P w H' s'.heap ∧ RelV v u ∧ Q v H'
def CR (CX : CXT) (outer : List Env) (P : Program) (w : World) (H : Hp) (s : Shared) (Q : VK) (E : XK) (r : Result) (s' : Shared) : Prop :=
  match r with
  | .ok (.ret u) => CE outer P w H s Q u s'
  | .ok _ => False
  | .error e => CX outer H s E e s'
structure FnOk (P : Program) (w : World) (K : PySem.W.Frag) (mg : Str → Option Value) (base : Heap) (CX : CXT) (k : Nat) (f : Addr) (fd : FuncData) (ps : List Str) (sp : Sp) : Prop where
  len : ∀ vs H Q E, sp vs H Q E → vs.length = ps.length
  run : ∀ (A : Around) (outer : List Env) (s : Shared) (H : Hp) (args : Args) (us : List Value) (vs : List V) (Q : VK) (E : XK), Room k A → Env0 P w K mg base A outer s H → BindsTo s fd args (ps.zip us) → Vals vs us → sp vs H Q E →
    codeAny (model P w) A (.call (.ref f) args) (CR CX outer P w H s Q E) s
theorem FnOk.mono {P : Program} {w : World} {K : PySem.W.Frag} {mg : Str → Option Value} {base : Heap} {CX : CXT} {j k : Nat} {f : Addr} {fd : FuncData} {ps : List Str} {sp : Sp} (F : FnOk P w K mg base CX j f fd ps sp) (h : j ≤ k) :
    FnOk P w K mg base CX k f fd ps sp := ⟨F.len, fun A outer s H args us vs Q E hr => F.run A outer s H args us vs Q E (hr.mono h)⟩
/-- a weaker promise -/
theorem FnOk.imp {P : Program} {w : World} {K : PySem.W.Frag} {mg : Str → Option Value} {base : Heap} {CX : CXT} {k : Nat} {f : Addr} {fd : FuncData} {ps : List Str} {sp sp' : Sp} (F : FnOk P w K mg base CX k f fd ps sp)
    (h : ∀ vs H Q E, sp' vs H Q E → sp vs H Q E) : FnOk P w K mg base CX k f fd ps sp' :=
  ⟨fun vs H Q E q => F.len vs H Q E (h _ _ _ _ q), fun A outer s H args us vs Q E hr he hb hv hs => F.run A outer s H args us vs Q E hr he hb hv (h _ _ _ _ hs)⟩
theorem Env0.in1 {P : Program} {w : World} {K : PySem.W.Frag} {mg : Str → Option Value} {base : Heap} {A : Around} {outer : List Env} {s : Shared} {H : Hp} (e : Env0 P w K mg base A outer s H) :
    Env0 P w K mg base A.in1 outer s H := ⟨e.frames, e.mod, e.bs, e.bsz, e.funs, e.frf, e.hok, e.bare⟩
section
variable {X : Cx} {pins : List (Addr × Obj)} {σ : St} {H : Hp} {s s' : Shared}
/-- from a body: what a callee wants -/
theorem Inv.env0 (I : Inv X pins σ H s) : Env0 X.prog X.w X.K X.mg X.base X.A X.stack s H :=
  ⟨I.ok.frames, I.ok.mod, I.bs, Nat.le_trans I.ok.bsz I.sz, I.stack, I.stkFree, I.hok, I.bare⟩
/-- behind a call -/
theorem Inv.after {Q : VK} {u : Value} (I : Inv X pins σ H s) (h : CE X.stack X.prog X.w H s Q u s') : EP X pins σ Q u s' := by
  obtain ⟨v, H', os, bare, un, hok, r, q⟩ := h
  obtain ⟨hh, g, d, t, os'⟩ := s'
  obtain rfl : os' = s.os := os
  exact ⟨v, H', I.call (h' := hh) (g' := g) (d' := d) (t' := t) (ch := []) un hok bare (fun b z => absurd z (by simp)), r, q⟩
end
/-! ### calls -/
/-- f(..): the written arguments, then the defaults dvs; E: what is wanted of an exception -/
def tCall (sp : Sp) (dvs : List V) (E : XK) (t : TA) : TE := fun σ H Q => t σ H fun vs H1 => sp (vs ++ dvs) H1 Q E
/-- how the parameters are bound: us the positional arguments, kw the keywords' values by name, ds the defaults that fill up -/
def Binds (K : PySem.W.Frag) (fd : FuncData) (ps : List Str) (ds : List Value) : Prop :=
  ∀ (s : Shared) (us : List Value), K.In s.heap → (us ++ ds).length = ps.length → BindsTo s fd ⟨us, []⟩ (ps.zip (us ++ ds))
/-- every parameter is given -/
theorem Binds.all {K : PySem.W.Frag} {fd : FuncData} {ps : List Str} (h : ∀ us : List Value, us.length = ps.length → bindArgs fd ⟨us, []⟩ = pure (ps.zip us)) : Binds K fd ps [] := fun s us _ hl => by
  rw [List.append_nil] at hl ⊢
  exact .of_eq (h us hl)
/-- an exception of a callee reaches what this body wants of exceptions -/
def Passes (CX : CXT) (X : Cx) (E : XK) : Prop := ∀ (pins : List (Addr × Obj)) (σ : St) (H : Hp) (s : Shared) (e : Value) (s' : Shared), Inv X pins σ H s → CX X.stack H s E e s' → X.xe e s'
section
variable {X : Cx} {CX : CXT} {k : Nat} {f C : Addr} {fd : FuncData} {ps : List Str} {sp : Sp} {dvs : List V} {ds : List Value} {E : XK} {x m : Str} {p pos apos : Pos} {e o : Expr} {es : List Expr} {ta : TE} {t : TA}
/-- the callee runs -/
theorem run_fn {pins : List (Addr × Obj)} {σ : St} {H : Hp} {s : Shared} {Q : VK} {us : List Value} {vs : List V} (F : FnOk X.prog X.w X.K X.mg X.base CX k f fd ps sp) (hr : Room k X.A) (hb : Binds X.K fd ps ds) (hd : Vals dvs ds) (hx : Passes CX X E)
    (I : Inv X pins σ H s) (r : Vals vs us) (h : sp (vs ++ dvs) H Q E) : wpAny (model X.prog X.w) X.A (call (.ref f) us) (EP X pins σ Q) X.xe s := by
  have r2 : Vals (vs ++ dvs) (us ++ ds) := r.append hd
  have hl : (us ++ ds).length = ps.length := by rw [← r2.length]; exact F.len _ _ _ _ h
  refine wpAny_call (codeAny_mono (F.run X.A X.stack s H ⟨us, []⟩ (us ++ ds) (vs ++ dvs) Q E hr I.env0 (hb s us I.kIn hl) r2 h) fun r s' hq => ?_)
  cases r with
  | error e => exact hx pins σ H s e s' I hq
  | ok fl =>
    cases fl with
    | ret u => exact I.after hq
    | next => exact False.elim hq
    | brk => exact False.elim hq
    | cont => exact False.elim hq
theorem pe_call (F : FnOk X.prog X.w X.K X.mg X.base CX k f fd ps sp) (hr : Room k X.A) (hg : Gl X x) (hm : X.mg x = some (.ref f)) (hk : PySem.W.keepIn X.K (.ref f) = true) (hb : Binds X.K fd ps ds) (hd : Vals dvs ds) (hx : Passes CX X E)
    (ha : PA X (e :: es) t) (hdb : (x == ("__debug__" : Str)) = false := by decide) (he : starEach (e :: es) X.env = (false, eval e X.env) :: starEach es X.env := by rfl) (hpl : (backTo pos (starEach es X.env)).any (·.1) = false := by rfl) :
    PE X (.Call (.Name x p) (e :: es) [] pos) (tCall sp dvs E t) := by
  intro pins s σ H Q I h
  refine wpAny_Call_Name_kw (ld_glob I hg hm ?_ hdb)
  refine PySem.W.callWith_K (h₀ := X.base) I.ok.mod.kin hk (thn (ha pos pins s σ H _ I h) fun us s1 ⟨vs, H1, I1, r, q⟩ => ⟨I1.kIn, ?_⟩) he hpl
  exact run_fn F hr hb hd hx I1 r q
end
/-! ### keywords -/
section
variable {X : Cx} {CX : CXT} {k : Nat} {f C : Addr} {fd : FuncData} {ps ks : List Str} {sp : Sp} {E : XK} {x m : Str} {p pos apos kpos : Pos} {e o : Expr} {es : List Expr} {kws : List Keyword} {te ta : TE} {t tk : TA} {nm : Option Str}
variable {g : List Value → List Value → List Value} {gV : List V → List V → List V}
end
/-! ### a def's body keeps its promise -/
/-- names: the parameters first -/
structure FnScope (N P : List Str) (sc : Scope) : Prop where
  kind : sc.kind = .function
  co : sc.isCoroutine = false
  gen : sc.isGenerator = false
  nd : N.Nodup
  pre : N.take P.length = P
  par : ∀ x ∈ P, sc.names.lookup x = some .local ∨ sc.names.lookup x = some .cell
  nofree : ∀ y ∈ sc.names, y.2 ≠ .free
theorem bindL_out {kindOf : Str → Option NameKind} {x : Str} : ∀ {binds : List (Str × Value)} {m : Str → Option Value}, (∀ v, (x, v) ∉ binds) → bindL kindOf binds m x = m x
  | [], _, _ => rfl
  | (n, v) :: r, m, h => by
    unfold bindL
    rw [bindL_out fun w hw => h w (List.mem_cons_of_mem _ hw)]
    split
    · have : x ≠ n := by rintro rfl; exact h v List.mem_cons_self
      simp [this]
    · rfl
theorem bindC_out {kindOf : Str → Option NameKind} {x : Str} : ∀ {binds : List (Str × Value)} {m : Str → Option Value}, (∀ v, (x, v) ∉ binds) → bindC kindOf binds m x = m x
  | [], _, _ => rfl
  | (n, v) :: r, m, h => by
    unfold bindC
    rw [bindC_out fun w hw => h w (List.mem_cons_of_mem _ hw)]
    split
    · rfl
    · have : x ≠ n := by rintro rfl; exact h v List.mem_cons_self
      simp [this]
theorem bindL_get {kindOf : Str → Option NameKind} {x : Str} {v : Value} : ∀ {P : List Str} {vs : List Value} {i : Nat} {m : Str → Option Value}, P.Nodup → P[i]? = some x → vs[i]? = some v → kindOf x = some .local →
    bindL kindOf (P.zip vs) m x = some v
  | [], _, _, _, _, h, _, _ => by simp at h
  | _ :: _, [], _, _, _, _, h, _ => by simp at h
  | p :: P, w :: vs, 0, m, nd, h1, h2, hk => by
    simp at h1 h2; subst h1; subst h2
    show bindL kindOf ((p, w) :: P.zip vs) m p = _
    unfold bindL
    rw [bindL_out fun v hv => (List.nodup_cons.mp nd).1 (List.of_mem_zip hv).1, if_pos hk]
    simp
  | p :: P, w :: vs, i + 1, m, nd, h1, h2, hk => by
    show bindL kindOf ((p, w) :: P.zip vs) m x = _
    unfold bindL
    exact bindL_get (i := i) (List.nodup_cons.mp nd).2 (by simpa using h1) (by simpa using h2) hk
theorem bindC_get {kindOf : Str → Option NameKind} {x : Str} {v : Value} : ∀ {P : List Str} {vs : List Value} {i : Nat} {m : Str → Option Value}, P.Nodup → P[i]? = some x → vs[i]? = some v → kindOf x ≠ some .local →
    bindC kindOf (P.zip vs) m x = some v
  | [], _, _, _, _, h, _, _ => by simp at h
  | _ :: _, [], _, _, _, _, h, _ => by simp at h
  | p :: P, w :: vs, 0, m, nd, h1, h2, hk => by
    simp at h1 h2; subst h1; subst h2
    show bindC kindOf ((p, w) :: P.zip vs) m p = _
    unfold bindC
    rw [bindC_out fun v hv => (List.nodup_cons.mp nd).1 (List.of_mem_zip hv).1, if_neg hk]
    simp
  | p :: P, w :: vs, i + 1, m, nd, h1, h2, hk => by
    show bindC kindOf ((p, w) :: P.zip vs) m x = _
    unfold bindC
    exact bindC_get (i := i) (List.nodup_cons.mp nd).2 (by simpa using h1) (by simpa using h2) hk
/-- the names' values at the entry -/
def start (N : List Str) (vs : List V) : St := vs.map some ++ List.replicate (N.length - vs.length) none
/-- the context of a def's body, at its entry; an exception leaves the frame, then lies as CX says -/
def cxOf (CX : CXT) (P : Program) (w : World) (K : PySem.W.Frag) (mg : Str → Option Value) (base : Heap) (N : List Str) (qual : Str) (scope : Scope) (f : Addr) (cd : Value) (A : Around) (outer : List Env) (s : Shared) (H : Hp) (E : XK) : Cx where
  prog := P
  w := w
  K := K
  mg := mg
  base := base
  A := A.deeper (envOfC qual scope s.heap.objs.size f cd)
  N := N
  s₀ := s
  H₀ := H
  env := envOfC qual scope s.heap.objs.size f cd
  outer := outer
  stack := envOfC qual scope s.heap.objs.size f cd :: outer
  ex := []
  calm := true
  fn := fun _ => true
  pn := []
  xe := fun e s' => wpAny (model P w) (A.deeper (envOfC qual scope s.heap.objs.size f cd)) (leaving (envOfC qual scope s.heap.objs.size f cd) e) (fun _ s'' => CX outer H s E e s'') (fun e' s'' => CX outer H s E e' s'') s'
theorem cell_has {sc : Scope} {n : Nat} {x : Str} (h : sc.names.lookup x = some .cell) : ∃ c, (cellsFrom n sc.names []).lookup x = some c := by
  have q := PySem.W.cellsFrom_some sc.names n [] (.inl h)
  exact Option.isSome_iff_exists.mp q
theorem inv_start {CX : CXT} {P : Program} {w : World} {K : PySem.W.Frag} {mg : Str → Option Value} {base : Heap} {N ps : List Str} {qual : Str} {scope : Scope} {f : Addr} {cd : Value} {A : Around} {outer : List Env} {s s1 : Shared} {H : Hp} {E : XK} {us : List Value} {vs : List V}
    (S : FnScope N ps scope) (hd : A.handled = none) (e0 : Env0 P w K mg base A outer s H) (hl : vs.length = ps.length) (r : Vals vs us)
    (x : InCallC s s.heap.objs.size (bindL (envOfC qual scope s.heap.objs.size f cd).kindOf (ps.zip us) fun _ => none) (cellsFrom (s.heap.objs.size + 1) scope.names []) (bindC (envOfC qual scope s.heap.objs.size f cd).kindOf (ps.zip us) fun _ => none) s1) :
    Inv (cxOf CX P w K mg base N qual scope f cd A outer s H E) [] (start N vs) H s1 := by
  have hpl : ps.length ≤ N.length := by have := congrArg List.length S.pre; rw [List.length_take] at this; omega
  obtain ⟨h1, tk, rfl, hk⟩ := x.done
  have noA : ∀ b : Addr, b ∉ (cxOf CX P w K mg base N qual scope f cd A outer s H E).ex := fun b z => absurd (show b ∈ ([] : List Addr) from z) (by simp)
  refine ⟨⟨e0.mod, S.kind, rfl, rfl, Nat.le_refl _, fun y z c h1 h2 => ?_, fun y hy => ?_, fun y c _ h => ?_, fun _ => hd, Around.frames_deeper e0.frames, .inr ⟨rfl, rfl⟩, fun b z => absurd z (noA b), e0.bs, e0.bsz, fun b _ _ => noA b, fun b z => absurd z (noA b), e0.funs, e0.frf⟩,
    rfl, e0.bare, Un.kept hk, ⟨_, x.toInCall.ns, fun i y v h1 h2 h3 => ?_⟩, fun y c h => ⟨_, x.cell y c h⟩, e0.hok.fresh (Nat.le_refl _), fun y c h => ?_, fun p hp => absurd (show p ∈ ([] : List (Addr × Obj)) from hp) (by simp), e0.hok.kept hk, ?_⟩
  · exact name_of_addr x.apart (PySem.mem_of_lookup h1) (PySem.mem_of_lookup h2)
  · have hy : scope.names.lookup y = some .cell ∨ scope.names.lookup y = some .free := hy
    rcases hy with hy | hy
    · exact cell_has hy
    · exact absurd rfl (S.nofree _ (PySem.mem_of_lookup hy))
  · exact Nat.le_of_lt (x.above y c (PySem.mem_of_lookup h))
  · have hi : i < vs.length := by
      unfold start at h2
      by_cases hi : i < vs.length
      · exact hi
      · rw [List.getElem?_append_right (by simpa using hi)] at h2
        rw [List.getElem?_replicate] at h2
        split at h2 <;> cases h2
    have ha : vs[i]? = some v := by
      unfold start at h2
      rw [List.getElem?_append_left (by simpa using hi), List.getElem?_map] at h2
      cases e : vs[i]? with
      | none => rw [e] at h2; cases h2
      | some a => rw [e] at h2; cases h2; rfl
    obtain ⟨u, hu, rv⟩ := r.get ha
    have hp : ps[i]? = some y := by
      rw [← S.pre, List.getElem?_take_of_lt (by omega)]; exact h1
    have ndP : ps.Nodup := by rw [← S.pre]; exact S.nd.sublist (List.take_sublist _ _)
    refine ⟨u, rv, ?_⟩
    rcases S.par y (List.mem_of_getElem? hp) with k | k
    · exact .inl ⟨k, bindL_get ndP hp hu k⟩
    · obtain ⟨c, e⟩ := cell_has (n := s.heap.objs.size + 1) k
      refine .inr ⟨.inl k, c, e, ?_⟩
      have q := x.cell y c e
      rw [bindC_get ndP hp hu (by show scope.names.lookup y ≠ _; rw [k]; decide)] at q
      exact q
  · exact e0.hok.fresh (Nat.le_of_lt (x.above y c (PySem.mem_of_lookup h)))
  · unfold start
    show _ = N.length
    rw [List.length_append, List.length_map, List.length_replicate]
    omega
/-- THE RULE: a def (or a method) of the text, by its body. The body's reading t is chosen for each entry; it is run at the parameters' values -/
theorem fn_of {CX : CXT} {P : Program} {w : World} {K : PySem.W.Frag} {mg : Str → Option Value} {base : Heap} {k : Nat} {f : Addr} {name qual : Str} {params : Arguments} {body : List Stmt} {scope : Scope} {dV kV doc pm cdv ct oc : Value} {an od : Option Addr}
    {osl : Array (Option Value)} {N ps : List Str} {sp : Sp} (lk : K.lookup f = some ⟨oc, od, .func (PySem.W.fnOf name qual params body scope dV kV doc pm an cdv ct), osl⟩) (hcd : PySem.W.codeIn K cdv qual = true) (S : FnScope N ps scope)
    (len : ∀ vs H Q E, sp vs H Q E → vs.length = ps.length)
    (hbody : ∀ (A : Around) (outer : List Env) (s : Shared) (H : Hp) (vs : List V) (Q : VK) (E : XK), Room k (A.deeper (envOfC qual scope s.heap.objs.size f cdv)) → sp vs H Q E →
      ∃ t, PSs (cxOf CX P w K mg base N qual scope f cdv A outer s H E) body t ∧ t { nx := fun _ H' => Q .non H', rt := Q } (start N vs) H) :
    FnOk P w K mg base CX (k + 1) f (PySem.W.fnOf name qual params body scope dV kV doc pm an cdv ct) ps sp := by
  refine ⟨len, fun A outer s H args us vs Q E hr e0 hb r hsp => ?_⟩
  have hl := len _ _ _ _ hsp
  have KX : K.In s.heap := e0.mod.kin.keeps fun b o e => (e0.bs b o e).1
  have lim : s.heap.NoLimit := e0.mod.nolimit.keeps fun b o e => (e0.bs b o e).1
  have hkind : ∀ y ∈ ps.zip us, scope.names.lookup y.1 = some .local ∨ (scope.names.lookup y.1 = some .cell ∧ ((cellsFrom (s.heap.objs.size + 1) scope.names []).lookup y.1).isSome = true) := fun ⟨n, v⟩ hy => by
    rcases S.par n (List.of_mem_zip hy).1 with q | q
    · exact .inl q
    · exact .inr ⟨q, PySem.W.cellsFrom_some _ _ _ (.inl q)⟩
  refine codeAny_call_function hr.depth (KX _ _ lk) rfl S.co S.gen rfl (PySem.W.codeRec_of KX hcd) (hb _ _ _ _ ?_)
  refine wpAny_newFunctionEnv_cells S.kind hkind fun env he s1 x => ?_
  subst he
  refine ⟨lim.keeps x.toInCall.keep, codeAny_func ?_⟩
  obtain ⟨t, ht, hq⟩ := hbody A outer s H vs Q E (hr.deeper _) hsp
  have I : Inv (cxOf CX P w K mg base N qual scope f cdv A outer s H E) [] (start N vs) H s1 := inv_start S hr.hd e0 hl r x
  refine wpAny_mono (ht [] s1 (start N vs) H _ I hq) (fun fl s' hs => ?_) fun e s' hs => hs
  have fin : ∀ {σ' : St} {H' : Hp} {v : V} {u : Value}, Inv (cxOf CX P w K mg base N qual scope f cdv A outer s H E) [] σ' H' s' → RelV v u → Q v H' → CE outer P w H s Q u s' :=
    fun {σ' H' v u} J rv q => ⟨v, H', J.os, J.bare, J.base, J.hok, rv, q⟩
  cases fl with
  | ret u =>
    obtain ⟨v, σ', H', J, rv, q⟩ := hs
    exact fin J rv q
  | next =>
    obtain ⟨σ', H', J, q⟩ := hs
    exact fin (v := V.non) (u := Value.none) J rfl q
  | brk =>
    obtain ⟨_, _, _, q⟩ := hs
    exact False.elim q
  | cont =>
    obtain ⟨_, _, _, q⟩ := hs
    exact False.elim q
end L2
namespace L2
open PySem PySem.Spec PyProof.Rows
section
variable {X : Cx} {x : Str} {p pos : Pos} {e : Expr} {es : List Expr} {t : TA} {id T : String} {r : List V → Hp → VK → Prop}
def tCB (r : List V → Hp → VK → Prop) (t : TA) : TE := fun σ H Q => t σ H fun vs H1 => r vs H1 Q
/-- f(e, ..), f a built-in function -/
theorem pe_callB (hc : CallR X (.builtin id) r) (hg : Gl X x) (hm : X.mg x = none) (hv : bootBuiltins x = some (.builtin id)) (ha : PA X (e :: es) t) (hn : x ≠ "__name__" := by decide) (hdb : (x == ("__debug__" : Str)) = false := by decide)
    (he : starEach (e :: es) X.env = (false, eval e X.env) :: starEach es X.env := by rfl) (hpl : (backTo pos (starEach es X.env)).any (·.1) = false := by rfl) : PE X (.Call (.Name x p) (e :: es) [] pos) (tCB r t) := by
  intro pins s σ H Q I h
  refine wpAny_Call_Name_kw (ld_blt I hg hm hv ?_ hn hdb)
  exact PyProof.Rows.callWith_builtin1 (thn (ha pos pins s σ H _ I h) fun us s1 ⟨vs, H1, I1, r1, q1⟩ => hc pins s1 σ H1 vs us Q I1 r1 q1) he hpl
/-- T(e, ..), T a built-in type -/
theorem pe_callTy (hc : CallR X (.type T) r) (hg : Gl X x) (hm : X.mg x = none) (hv : bootBuiltins x = some (.type T)) (ha : PA X (e :: es) t) (hn : x ≠ "__name__" := by decide) (hdb : (x == ("__debug__" : Str)) = false := by decide)
    (he : starEach (e :: es) X.env = (false, eval e X.env) :: starEach es X.env := by rfl) (hpl : (backTo pos (starEach es X.env)).any (·.1) = false := by rfl) : PE X (.Call (.Name x p) (e :: es) [] pos) (tCB r t) := by
  intro pins s σ H Q I h
  refine wpAny_Call_Name_kw (ld_blt I hg hm hv ?_ hn hdb)
  exact PyProof.Rows.callWith_type1 (thn (ha pos pins s σ H _ I h) fun us s1 ⟨vs, H1, I1, r1, q1⟩ => hc pins s1 σ H1 vs us Q I1 r1 q1) he hpl
end
end L2
namespace HT
open PySem PyProof.Rows
/-- t < u of tuples of ints -/
def lexLt : List Int → List Int → Bool
  | [], [] => false
  | [], _ :: _ => true
  | _ :: _, [] => false
  | x :: xs, y :: ys => if x = y then lexLt xs ys else decide (x < y)
section
open PySem.SeqAt
open PySem.AutoSeq1 (wpAny_loadPart')
open PySem.MeetsSeq PySem.MeetsSeq2 PySem.MeetsSeq3
end
section
variable {prog : Program} {w : World} {A : Around} {E : Value → Shared → Prop} {s : Shared}
/-- t + u, t not empty -/
theorem cat_tup {t b : Addr} {vs ws : List Value} {Q : Value → Shared → Prop} (ht : IsTup s.heap t vs.toArray) (hb : IsTup s.heap b ws.toArray) (hv : vs ≠ [])
    (h1 : ws = [] → Q (.ref t) s) (h2 : ws ≠ [] → Q (.ref s.heap.objs.size) { s with heap := s.heap.push { cls := .type "tuple", data := .seq (vs ++ ws).toArray } })
    (hsz : vs.length + ws.length ≤ sizeLine) : wpAny (model prog w) A (binaryOp .Add (.ref t) (.ref b)) Q E s := by
  obtain ⟨⟨cls, dd, data, sl⟩, ho, hc, n, hd⟩ := id ht
  obtain ⟨⟨cls2, dd2, data2, sl2⟩, ho2, hc2, n2, hd2⟩ := id hb
  simp only at hc hd hc2 hd2
  subst hc hd hc2 hd2
  have e : vs.toArray ++ ws.toArray = (vs ++ ws).toArray := by simp
  by_cases hw : ws = []
  · exact concat_meets ⟨_, ho, rfl⟩ ⟨_, ho2, rfl⟩ noFill_tuple_add seq_tuple_add PySem.F.slot_tuple_add PySem.F.entry_tuple_add (PySem.F.args_tuple_add_2 _ _)
      (tuple_addW1 t b vs.toArray ws.toArray n n2 dd dd2 sl sl2 (by simpa using hv) (by simp [hw])) ⟨ho, ho2, h1 hw⟩
  · refine concat_meets ⟨_, ho, rfl⟩ ⟨_, ho2, rfl⟩ noFill_tuple_add seq_tuple_add PySem.F.slot_tuple_add PySem.F.entry_tuple_add (PySem.F.args_tuple_add_2 _ _)
      (tuple_addW2 t b vs.toArray ws.toArray n n2 dd dd2 sl sl2 (by simpa using hv) (by simpa using hw) (by rw [List.size_toArray, List.size_toArray]; exact hsz)) ⟨ho, ho2, ?_⟩
    rw [e]
    exact h2 hw
/-! ### t[a:b], not the whole -/
/-- a slice's bound as a place among n (d where it is left out) -/
def sIx (n d : Nat) : Option Int → Nat
  | none => d
  | some v => if v < 0 then (v + (n : Int)).toNat else min v.toNat n
theorem sIx_none (n d : Nat) : sIx n d none = d := rfl
theorem sIx_nat (n d k : Nat) : sIx n d (some (k : Int)) = min k n := by
  show (if (k : Int) < 0 then ((k : Int) + (n : Int)).toNat else min (k : Int).toNat n) = min k n
  rw [if_neg (by omega), Int.toNat_natCast]
theorem sIx_le (n d : Nat) (hd : d ≤ n) (o : Option Int) : sIx n d o ≤ n := by
  cases o with
  | none => exact hd
  | some v =>
    show (if v < 0 then (v + (n : Int)).toNat else min v.toNat n) ≤ n
    by_cases hv : v < 0
    · rw [if_pos hv]; omega
    · rw [if_neg hv]; exact Nat.min_le_right _ _
theorem clip_eq (v : Int) (n d : Nat) : (if v < 0 then max (v + (n : Int)) 0 else min v (n : Int)) = ((sIx n d (some v) : Nat) : Int) := by
  show (if v < 0 then max (v + (n : Int)) 0 else min v (n : Int)) = (((if v < 0 then (v + (n : Int)).toNat else min v.toNat n) : Nat) : Int)
  by_cases hv : v < 0
  · simp only [if_pos hv]; omega
  · simp only [if_neg hv]; omega
theorem adjust_gen (lo hi : Option Int) (n : Nat) : Builtin.Slice.sliceAdjust lo hi 1 (n : Int) = (((sIx n 0 lo : Nat) : Int), ((sIx n n hi : Nat) : Int)) := by
  have h1 : ¬ ((1 : Int) < 0) := by omega
  unfold Builtin.Slice.sliceAdjust
  simp only [h1, if_false]
  refine Prod.ext ?_ ?_
  · cases lo with
    | none => rfl
    | some v => exact clip_eq v n 0
  · cases hi with
    | none => rfl
    | some v => exact clip_eq v n n
theorem places_gen (i j : Nat) : Builtin.Slice.slicePlaces (i : Int) (j : Int) 1 = j - i := by
  unfold Builtin.Slice.slicePlaces
  have h1 : (1 : Int) > 0 := by omega
  simp only [h1, if_true, Int.ediv_one]
  split <;> omega
theorem slicePart_ {v : Value} {o : Option Int} {Q : Option Int → Shared → Prop} (p : IsPart v o) (h : Q o s) : wpAny (model prog w) A (Builtin.Slice.slicePartIndex v) Q E s := by
  cases p with
  | none => exact slicePart_none h
  | int i t => exact slicePart_int h
theorem sliceApplied_gen {sl : Addr} {vl vu : Value} {lo hi : Option Int} {n : Nat} {Q : Int × Int × Nat → Shared → Prop} (hs : s.heap.IsSliceOf sl vl vu .none) (pl : IsPart vl lo) (pu : IsPart vu hi)
    (h : Q (((sIx n 0 lo : Nat) : Int), 1, sIx n n hi - sIx n 0 lo) s) : wpAny (model prog w) A (Builtin.Slice.sliceApplied (.ref sl) (pure (n : Int))) Q E s := by
  obtain ⟨os, hos, hcs, hds⟩ := id hs
  unfold Builtin.Slice.sliceApplied Builtin.Slice.sliceFields
  refine wpAny_bind (wpAny_bind (wpAny_field hos hds (x := vl) rfl (wpAny_bind (wpAny_field hos hds (x := vu) rfl (wpAny_bind (wpAny_field hos hds (x := .none) rfl (wpAny_pure ?_)))))))
  refine wpAny_bind (slicePart_none ?_)
  show wpAny _ _ (if ((1 : Int) == 0) = true then _ else _) _ _ s
  rw [if_neg (by decide)]
  refine wpAny_bind (slicePart_ pl (wpAny_bind (slicePart_ pu (wpAny_bind (wpAny_pure ?_)))))
  show wpAny _ _ (match Builtin.Slice.sliceAdjust lo hi 1 (n : Int) with | (lo, hi) => pure (lo, (1 : Int), Builtin.Slice.slicePlaces lo hi 1)) _ _ s
  rw [adjust_gen lo hi n]
  show wpAny _ _ (pure (((sIx n 0 lo : Nat) : Int), (1 : Int), Builtin.Slice.slicePlaces ((sIx n 0 lo : Nat) : Int) ((sIx n n hi : Nat) : Int) 1)) _ _ s
  rw [places_gen]
  exact wpAny_pure h
theorem pick_gen (xs : Array Value) (i k : Nat) : ((List.range k).filterMap fun (m : Nat) => xs[((i : Int) + (m : Int) * 1).toNat]?).toArray = ((xs.toList.drop i).take k).toArray := by
  have e : (fun (m : Nat) => xs[((i : Int) + (m : Int) * 1).toNat]?) = fun m => xs[i + m]? := by
    funext m
    have : ((i : Int) + (m : Int) * 1).toNat = i + m := by omega
    rw [this]
  rw [e]
  have := pick_run xs i k
  rw [List.filterMap_map] at this
  have e2 : ((fun x => xs[x]?) ∘ fun x => i + x) = fun m => xs[i + m]? := rfl
  rw [e2] at this
  rw [this]
theorem getItem_tuple_cut {t sl : Addr} {items : Array Value} {vl vu : Value} {lo hi : Option Int} {Q : Value → Shared → Prop} (ht : IsTup s.heap t items) (hs : s.heap.IsSliceOf sl vl vu .none) (pl : IsPart vl lo) (pu : IsPart vu hi)
    (hw : ¬ (sIx items.size 0 lo = 0 ∧ sIx items.size items.size hi = items.size))
    (h : Q (.ref s.heap.objs.size) { s with heap := s.heap.push { cls := .type "tuple", data := .seq ((items.toList.drop (sIx items.size 0 lo)).take (sIx items.size items.size hi - sIx items.size 0 lo)).toArray } })
    (hsz : items.size ≤ sizeLine) : wpAny (model prog w) A (getItem (.ref t) (.ref sl)) Q E s := by
  have htake : sizeOk (.seq ((items.toList.drop (sIx items.size 0 lo)).take (sIx items.size items.size hi - sIx items.size 0 lo)).toArray) := by
    show ((items.toList.drop (sIx items.size 0 lo)).take (sIx items.size items.size hi - sIx items.size 0 lo)).toArray.size ≤ sizeLine
    rw [List.size_toArray, List.length_take, List.length_drop, Array.length_toList]
    omega
  have hj : sIx items.size items.size hi ≤ items.size := sIx_le _ _ (Nat.le_refl _) hi
  obtain ⟨os, hos, hcs, hds⟩ := id hs
  have hTs : s.TypeIs (.ref sl) "slice" := ⟨os, hos, hcs⟩
  unfold getItem
  try with_reducible refine wpAny_holding ?_
  first | refine wpAny_bind (wpAny_pure ?_) | skip
  refine wpAny_bind (wpAny_sequenceKey ht.typeIs (by decide) ?_)
  refine wpAny_bind (wpAny_callSpecial?_slot (name := Str.ofString "__getitem__") ht.typeIs PyProof.Rows.slot_tuple_getitem
    (wpAny_call_entry PyProof.Rows.slot_tuple_getitem ht.typeIs entry_tuple_getitem ?_ (args_tuple_getitem _ _)))
  show wpAny _ _ (Builtin.Tuple.tupleItemsOf (.ref t) >>= _) _ _ s
  refine wpAny_bind (tupleItemsOf_ ht ?_)
  refine wpAny_bind (wpAny_typeOf hTs ?_)
  rw [if_pos (by decide)]
  refine wpAny_bind (sliceApplied_gen hs pl pu ?_)
  have hno : ¬ ((((sIx items.size 0 lo : Nat) : Int) == 0 && (1 : Int) == 1 && (sIx items.size items.size hi - sIx items.size 0 lo) == items.size) = true) := by
    intro q
    rw [Bool.and_eq_true, Bool.and_eq_true] at q
    have q1 : ((sIx items.size 0 lo : Nat) : Int) = 0 := eq_of_beq q.1.1
    have q2 : sIx items.size items.size hi - sIx items.size 0 lo = items.size := eq_of_beq q.2
    exact hw ⟨by omega, by omega⟩
  show wpAny _ _ (if (((sIx items.size 0 lo : Nat) : Int) == 0 && (1 : Int) == 1 && (sIx items.size items.size hi - sIx items.size 0 lo) == items.size) = true then _ else _) _ _ s
  rw [if_neg hno, pick_gen]
  first
    | exact wpAny_bind (m := Builtin.Tuple.tupleExact _) (wpAny_newObj_type (wpAny_pure ⟨_, rfl, wpAny_pure h⟩) htake)
    | exact wpAny_bind (m := Builtin.Tuple.tupleExact _) (wpAny_newObj_type (wpAny_bind (wpAny_pure (wpAny_pure ⟨_, rfl, wpAny_pure h⟩))) htake)
    | exact wpAny_bind (wpAny_bind (m := Builtin.Tuple.tupleExact _) (wpAny_newObj_type (wpAny_pure (wpAny_pure ⟨_, rfl, wpAny_pure h⟩)) htake))
    | exact wpAny_bind (wpAny_bind (m := Builtin.Tuple.tupleExact _) (wpAny_newObj_type (wpAny_pure ⟨_, rfl, wpAny_pure h⟩) htake))
end
end HT
namespace L2
open PySem PySem.Spec PyProof.Rows
/-! ### the parts of a slice -/
abbrev TO := St → Hp → (Option Int → Hp → Prop) → Prop
/-- a slice's part (left out, or an int) -/
def PO (X : Cx) (e : Option Expr) (t : TO) : Prop :=
  ∀ (pins : List (Addr × Obj)) (s : Shared) (σ : St) (H : Hp) (Q : Option Int → Hp → Prop), Inv X pins σ H s → t σ H Q →
    wpAny (model X.prog X.w) X.A (evalPart e X.env) (fun u s' => ∃ o H', Inv X pins σ H' s' ∧ IsPart u o ∧ Q o H') X.xe s
def tNoPart : TO := fun _ H Q => Q none H
def tPart (t : TE) : TO := fun σ H Q => t σ H fun x H1 => ∃ i, x = .int i ∧ Q (some i) H1
section
variable {X : Cx} {e : Expr} {te : TE} {lo hi : Option Expr} {tl th : TO} {pos p2 : Pos}
theorem po_none : PO X none tNoPart := by
  intro pins s σ H Q I h
  rw [evalPart_none]
  exact wpAny_pure ⟨none, H, I, .none, h⟩
theorem po_some (h : PE X e te) : PO X (some e) (tPart te) := by
  intro pins s σ H Q I hw
  rw [evalPart_some]
  refine thn (h pins s σ H _ I hw) fun u s1 ⟨x, H1, I1, r1, q1⟩ => ?_
  obtain ⟨i, rfl, q⟩ := q1
  obtain ⟨t, rfl⟩ := r1
  exact ⟨some i, H1, I1, .int i t, q⟩
/-- what a slice of a value is, by values: the slice object stands at sl -/
def SlR (X : Cx) (r : V → Option Int → Option Int → Hp → VK → Prop) : Prop :=
  ∀ (pins : List (Addr × Obj)) (s : Shared) (σ : St) (H : Hp) (x : V) (v vl vu : Value) (lo hi : Option Int) (sl : Addr) (Q : VK), Inv X pins σ H s → RelV x v → s.heap.IsSliceOf sl vl vu .none → IsPart vl lo → IsPart vu hi → r x lo hi H Q →
    ∃ T id, typeLookup (.type T) "__getitem__" = pure (some (.builtin id)) ∧ s.TypeIs v T ∧ wpAny (model X.prog X.w) X.A (getItem v (.ref sl)) (EP X pins σ Q) X.xe s
theorem SlR.or {r r' : V → Option Int → Option Int → Hp → VK → Prop} (h : SlR X r) (h' : SlR X r') : SlR X (fun x lo hi H Q => r x lo hi H Q ∨ r' x lo hi H Q) := by
  intro pins s σ H x v vl vu lo hi sl Q I rx hs pl pu q
  rcases q with q | q
  · exact h pins s σ H x v vl vu lo hi sl Q I rx hs pl pu q
  · exact h' pins s σ H x v vl vu lo hi sl Q I rx hs pl pu q
def tSl (r : V → Option Int → Option Int → Hp → VK → Prop) (te : TE) (tl th : TO) : TE := fun σ H Q => te σ H fun x H1 => tl σ H1 fun l H2 => th σ H2 fun u H3 => r x l u H3 Q
/-- a[lo:hi], any a -/
theorem pe_slice {r : V → Option Int → Option Int → Hp → VK → Prop} (hr : SlR X r) (he : PE X e te) (hl : PO X lo tl) (hu : PO X hi th) : PE X (.Subscript e (.Slice lo hi none p2) pos) (tSl r te tl th) := by
  intro pins s σ H Q I h
  refine Subscript_ (thn (he pins s σ H _ I h) fun v s1 ⟨x, H1, I1, r1, q1⟩ => ?_)
  refine wpAny_Slice (thn (hl pins s1 σ H1 _ I1 q1) fun vl s2 ⟨l, H2, I2, pl, q2⟩ => thn (hu pins s2 σ H2 _ I2 q2) fun vu s3 ⟨u, H3, I3, pu, q3⟩ => ?_)
  rw [evalPart_none]
  refine wpAny_pure ?_
  have I4 : Inv X pins σ H3 { s3 with heap := s3.heap.push { cls := .type "slice", data := .fields #[vl, vu, .none] } } := I3.kept (t' := s3.toks) fun b ob q => Heap.get?_push_of_some _ q
  obtain ⟨T, id, hT, ht, hg⟩ := hr pins { s3 with heap := s3.heap.push { cls := .type "slice", data := .fields #[vl, vu, .none] } } σ H3 x v vl vu l u s3.heap.objs.size Q I4 r1 (Heap.IsSliceOf.new ..) pl pu q3
  show wpAny (model X.prog X.w) X.A (subscriptTail e (.Slice lo hi none p2) v (.ref s3.heap.objs.size)) (EP X pins σ Q) X.xe { s3 with heap := s3.heap.push { cls := .type "slice", data := .fields #[vl, vu, .none] } }
  exact tail_any (ops := [.ref s3.heap.objs.size, v]) ht hT hg (by with_unfolding_all rfl)
/-- the items of xs[lo:hi] -/
def cutV (xs : List V) (lo hi : Option Int) : List V := (xs.drop (HT.sIx xs.length 0 lo)).take (HT.sIx xs.length xs.length hi - HT.sIx xs.length 0 lo)
theorem cutV_length (xs : List V) (lo hi : Option Int) : (cutV xs lo hi).length ≤ xs.length := by
  unfold cutV
  rw [List.length_take, List.length_drop]
  omega
/-- t[lo:hi], not the whole of it (the whole would be t itself) -/
def rSlT (K : PySem.W.Frag) : V → Option Int → Option Int → Hp → VK → Prop := fun x lo hi H Q => ∃ a xs, x = .ref a ∧ SqT K H a xs ∧
  ¬ (HT.sIx xs.length 0 lo = 0 ∧ HT.sIx xs.length xs.length hi = xs.length) ∧ ∀ p, H p = none → Q (.ref p) (upd H p (.tup (cutV xs lo hi)))
theorem sl_tup : SlR X (rSlT X.K) := by
  intro pins s σ H x v vl vu lo hi sl Q I rx hs pl pu h
  obtain ⟨a, xs, rfl, hx, hw, q⟩ := h
  cases rx
  obtain ⟨its, r, ht, hz⟩ := I.tuple hx
  have hlen : its.toArray.size = xs.length := by rw [List.size_toArray]; exact r.length.symm
  refine ⟨"tuple", _, PyProof.Rows.slot_tuple_getitem.lookup, ht.typeIs, ?_⟩
  refine HT.getItem_tuple_cut ht hs pl pu (by rw [hlen]; exact hw) ?_ (by rw [hlen]; exact hz)
  rw [hlen]
  refine ⟨.ref s.heap.objs.size, _, I.laid (t' := s.toks) (o := .tup (cutV xs lo hi)) (fun b ob q => Heap.get?_push_of_some _ q) (Nat.le_refl _) ?_, rfl, q _ (I.hok.fresh (Nat.le_refl _))⟩
  exact ⟨Nat.le_trans (cutV_length xs lo hi) hz, _, (r.drop (HT.sIx xs.length 0 lo)).take (HT.sIx xs.length xs.length hi - HT.sIx xs.length 0 lo), IsTup.new _ _⟩
/-! ### t < u, t + u -/
/-- t + u, t not empty: u empty gives t itself -/
def rCatT (K : PySem.W.Frag) : R2 := fun x y H Q => ∃ a b xs ys, x = .ref a ∧ y = .ref b ∧ SqT K H a xs ∧ SqT K H b ys ∧ xs ≠ [] ∧ xs.length + ys.length ≤ sizeLine ∧
  (ys = [] → Q (.ref a) H) ∧ (ys ≠ [] → ∀ p, H p = none → Q (.ref p) (upd H p (.tup (xs ++ ys))))
theorem Vals.nil_iff {xs : List V} {us : List Value} (r : Vals xs us) : us = [] ↔ xs = [] := by
  cases r with
  | nil => simp
  | cons _ _ => simp
theorem op_catT : OpR X (binaryOp .Add) (rCatT X.K) := by
  intro pins s σ H x y v u Q I rx ry h
  obtain ⟨a, b, xs, ys, rfl, rfl, ha, hb, hx, hz, q1, q2⟩ := h
  cases rx
  cases ry
  obtain ⟨its, r1, p1, _⟩ := I.tuple ha
  obtain ⟨its2, r2, p2, _⟩ := I.tuple hb
  refine HT.cat_tup p1 p2 (fun z => hx (r1.nil_iff.mp z)) (fun z => ⟨.ref a, H, I, rfl, q1 (r2.nil_iff.mp z)⟩) (fun z => ?_) (by rw [← r1.length, ← r2.length]; exact hz)
  refine ⟨.ref s.heap.objs.size, _, I.laid (t' := s.toks) (o := .tup (xs ++ ys)) (fun b ob q => Heap.get?_push_of_some _ q) (Nat.le_refl _) ?_, rfl, q2 (fun w => z (r2.nil_iff.mpr w)) _ (I.hok.fresh (Nat.le_refl _))⟩
  exact ⟨by rw [List.length_append]; exact hz, _, r1.append r2, IsTup.new _ _⟩
end
end L2
namespace L2
open PySem PySem.Spec PyProof.Rows
/-! ### places -/
/-- the place that an index of any sign means -/
def ixN (n : Nat) (i : Int) : Option Nat := if 0 ≤ i then (if i < n then some i.toNat else none) else if -(n : Int) ≤ i then some (i + n).toNat else none
def atI {α : Type} (xs : List α) (i : Int) : Option α := (ixN xs.length i).bind fun j => xs[j]?
theorem ixN_seq {n : Nat} {i : Int} {j : Nat} (h : ixN n i = some j) : seqIndex? i n = some j ∧ j < n ∧ -(n : Int) ≤ i ∧ i < n := by
  unfold ixN at h
  by_cases h0 : 0 ≤ i
  · rw [if_pos h0] at h
    by_cases h1 : i < n
    · rw [if_pos h1] at h
      have e : i.toNat = j := Option.some.inj h
      exact ⟨by rw [seqIndex_of h0 h1, e], by omega, by omega, h1⟩
    · rw [if_neg h1] at h; cases h
  · rw [if_neg h0] at h
    by_cases h1 : -(n : Int) ≤ i
    · rw [if_pos h1] at h
      have e : (i + n).toNat = j := Option.some.inj h
      exact ⟨by rw [seqIndex_neg (by omega) h1, e], by omega, h1, by omega⟩
    · rw [if_neg h1] at h; cases h
theorem atI_get {α : Type} {xs : List α} {i : Int} {v : α} (h : atI xs i = some v) : ∃ j, seqIndex? i xs.length = some j ∧ xs[j]? = some v ∧ j < xs.length ∧ -(xs.length : Int) ≤ i ∧ i < xs.length := by
  unfold atI at h
  cases e : ixN xs.length i with
  | none => rw [e] at h; cases h
  | some j =>
    rw [e] at h
    obtain ⟨h1, h2, h3, h4⟩ := ixN_seq e
    exact ⟨j, h1, h, h2, h3, h4⟩
/-! ### what may be subscripted -/
/-- what stands as an index of a plain subscript -/
def PlainIx (b : Expr) : Prop := ∀ o i, subscripted b false o i = operate [o, i] (getItem o i)
/-- a subscript by values -/
def IxR (X : Cx) (r : R2) : Prop :=
  ∀ (value slice : Expr) (pins : List (Addr × Obj)) (s : Shared) (σ : St) (H : Hp) (x y : V) (v u : Value) (Q : VK), Inv X pins σ H s → RelV x v → RelV y u → r x y H Q →
    subscripted slice false v u = operate [v, u] (getItem v u) → wpAny (model X.prog X.w) X.A (subscriptTail value slice v u) (EP X pins σ Q) X.xe s
/-- a call of a builtin's method by values: the receiver, the arguments -/
def MtR (X : Cx) (id : String) (r : V → List V → Hp → VK → Prop) : Prop :=
  ∀ (pins : List (Addr × Obj)) (s : Shared) (σ : St) (H : Hp) (x : V) (xs : List V) (v : Value) (us : List Value) (Q : VK), Inv X pins σ H s → RelV x v → Vals xs us → r x xs H Q →
    wpAny (model X.prog X.w) X.A (call (.builtin id) (v :: us)) (EP X pins σ Q) X.xe s
section
variable {X : Cx} {a b : Expr} {ta tb : TE} {pos : Pos}
theorem IxR.or {r r' : R2} (h : IxR X r) (h' : IxR X r') : IxR X (fun x y H Q => r x y H Q ∨ r' x y H Q) := by
  intro value slice pins s σ H x y v u Q I rx ry q hs
  rcases q with q | q
  · exact h value slice pins s σ H x y v u Q I rx ry q hs
  · exact h' value slice pins s σ H x y v u Q I rx ry q hs
theorem MtR.or {id : String} {r r' : V → List V → Hp → VK → Prop} (h : MtR X id r) (h' : MtR X id r') : MtR X id (fun x xs H Q => r x xs H Q ∨ r' x xs H Q) := by
  intro pins s σ H x xs v us Q I rx rs q
  rcases q with q | q
  · exact h pins s σ H x xs v us Q I rx rs q
  · exact h' pins s σ H x xs v us Q I rx rs q
/-- a[b] -/
theorem pe_ix {r : R2} (hr : IxR X r) (ha : PE X a ta) (hb : PE X b tb) (hs : PlainIx b) : PE X (.Subscript a b pos) (tOp r ta tb) := by
  intro pins s σ H Q I h
  exact Subscript_ (binT ha hb I h fun v u s2 x y H2 I2 rx ry q => hr a b pins s2 σ H2 x y v u Q I2 rx ry q (hs _ _))
def rIxL (K : PySem.W.Frag) : R2 := fun x y H Q => ∃ p xs i v, x = .ref p ∧ y = .int i ∧ SqL K H p xs ∧ atI xs i = some v ∧ Q v H
def rIxT (K : PySem.W.Frag) : R2 := fun x y H Q => ∃ p xs i v, x = .ref p ∧ y = .int i ∧ SqT K H p xs ∧ atI xs i = some v ∧ Q v H
def rIxS : R2 := fun x y H Q => ∃ z i c, x = .str z ∧ y = .int i ∧ z.length ≤ sizeLine ∧ atI z.cps.toList i = some c ∧ Q (.str ⟨#[c]⟩) H
theorem ix_list : IxR X (rIxL X.K) := by
  intro value slice pins s σ H x y v u Q I rx ry h hs
  obtain ⟨p, xs, i, z, rfl, rfl, hq, he, q⟩ := h
  cases rx
  obtain ⟨t, rfl⟩ := ry
  obtain ⟨its, r, pl, hz⟩ := I.list hq
  obtain ⟨j, h1, h2, h3, h4, h5⟩ := atI_get he
  obtain ⟨w, ew, rw'⟩ := r.get h2
  have hl := r.length
  have hn := line63
  have fin : EP X pins σ Q w s := ⟨z, H, I, rw', q⟩
  by_cases h0 : 0 ≤ i
  · have hj : i.toNat = j := by
      rw [seqIndex_of h0 h5] at h1
      exact Option.some.inj h1
    exact item_listR pl.isList h0 (by omega) (by rw [hj]; simpa using ew) fin hs
  · have hj : (i + (its.toArray.size : Int)).toNat = j := by
      rw [seqIndex_neg (by omega) h4] at h1
      rw [List.size_toArray, ← hl]
      exact Option.some.inj h1
    exact subscriptTail_builtinR (x := w) pl.isList.typeIs slot_list_getitem.lookup
      (wpAny_getItem_list_neg (Q := fun r s' => r = w ∧ EP X pins σ Q r s') pl.isList (by omega) (by rw [List.size_toArray] <;> omega) (by omega) (by rw [hj]; simpa using ew) ⟨rfl, fin⟩) hs
theorem ix_tup : IxR X (rIxT X.K) := by
  intro value slice pins s σ H x y v u Q I rx ry h hs
  obtain ⟨p, xs, i, z, rfl, rfl, hq, he, q⟩ := h
  cases rx
  obtain ⟨t, rfl⟩ := ry
  obtain ⟨its, r, pl, hz⟩ := I.tuple hq
  obtain ⟨j, h1, h2, h3, h4, h5⟩ := atI_get he
  obtain ⟨w, ew, rw'⟩ := r.get h2
  have hl := r.length
  have hn := line63
  have fin : EP X pins σ Q w s := ⟨z, H, I, rw', q⟩
  exact subscriptTail_builtinR (x := w) pl.typeIs slot_tuple_getitem.lookup
    (getItem_tuple (j := j) (Q := fun r s' => r = w ∧ EP X pins σ Q r s') pl (by omega) (by omega) (by rw [List.size_toArray, ← hl]; exact h1) (by simpa using ew) ⟨rfl, fin⟩) hs
theorem ix_str : IxR X rIxS := by
  intro value slice pins s σ H x y v u Q I rx ry h hs
  obtain ⟨z, i, c, rfl, rfl, hz, he, q⟩ := h
  obtain ⟨t, rfl⟩ := rx
  obtain ⟨t', rfl⟩ := ry
  obtain ⟨j, h1, h2, h3, h4, h5⟩ := atI_get he
  have hl : z.cps.toList.length = z.length := by simp [Str.length]
  rw [hl] at h1 h4 h5
  have hn := line63
  exact tail_any (typeIs_str s z t) slot_str_getitem.lookup (getItem_str (c := c) (by
    have e1 : decide (i < -(2 ^ 63 : Int)) = false := decide_eq_false (by omega)
    have e2 : decide (i ≥ 2 ^ 63) = false := decide_eq_false (by omega)
    rw [e1, e2, Bool.or_false]) (by rw [h1]; simpa using h2) ⟨.str ⟨#[c]⟩, H, I.tok _, ⟨_, rfl⟩, q⟩) hs
/-- list, tuple or str -/
def rIx (K : PySem.W.Frag) : R2 := fun x y H Q => rIxL K x y H Q ∨ rIxT K x y H Q ∨ rIxS x y H Q
theorem ix_seq : IxR X (rIx X.K) := ix_list.or (ix_tup.or ix_str)
/-! ### xs[i] = v, any sign -/
theorem Inv.lst {pins : List (Addr × Obj)} {σ : St} {H : Hp} {s : Shared} {p : Addr} {xs : List V} (I : Inv X pins σ H s) (h : H p = some (.lst xs)) :
    ∃ (its : List Value) (n : Nat), Vals xs its ∧ s.heap.get? p = some { cls := .type "list", data := .seq its.toArray n } ∧ xs.length ≤ sizeLine := by
  obtain ⟨z, its, n, r, e⟩ := I.hok p _ h
  exact ⟨its, n, r, e, z⟩
/-! ### slices -/
theorem slice_bounds (lo hi : Option Int) (n : Nat) : (sliceBounds lo hi none n).1 = ((HT.sIx n 0 lo : Nat) : Int) ∧ (sliceBounds lo hi none n).2.1 = ((HT.sIx n n hi : Nat) : Int) ∧ (sliceBounds lo hi none n).2.2 = 1 := by
  refine ⟨?_, ?_, rfl⟩
  · cases lo with
    | none => simp [sliceBounds, HT.sIx]
    | some i =>
      simp only [sliceBounds, HT.sIx, Option.getD_none, show (1 : Int) > 0 by decide, if_true]
      by_cases h : i < 0
      · simp only [h, if_true] <;> omega
      · simp only [h, if_false] <;> omega
  · cases hi with
    | none => simp [sliceBounds, HT.sIx]
    | some i =>
      simp only [sliceBounds, HT.sIx, Option.getD_none, show (1 : Int) > 0 by decide, if_true]
      by_cases h : i < 0
      · simp only [h, if_true] <;> omega
      · simp only [h, if_false] <;> omega
theorem slicePick_cut (its : List Value) (lo hi : Option Int) : slicePick its.toArray lo hi none = ((its.drop (HT.sIx its.length 0 lo)).take (HT.sIx its.length its.length hi - HT.sIx its.length 0 lo)).toArray := by
  obtain ⟨h1, h2, h3⟩ := slice_bounds lo hi its.toArray.size
  unfold slicePick
  rw [h1, h2, h3]
  simp only [sliceRange_one, pick_run, List.size_toArray] <;> rfl
/-- xs[lo:hi] of a list: a new list -/
def rSlL (K : PySem.W.Frag) : V → Option Int → Option Int → Hp → VK → Prop := fun x lo hi H Q => ∃ a xs, x = .ref a ∧ SqL K H a xs ∧ ∀ p, H p = none → Q (.ref p) (upd H p (.lst (cutV xs lo hi)))
theorem sl_list : SlR X (rSlL X.K) := by
  intro pins s σ H x v vl vu lo hi sl Q I rx hs pl pu h
  obtain ⟨a, xs, rfl, hx, q⟩ := h
  cases rx
  obtain ⟨its, r, ht, hz⟩ := I.list hx
  have hlen := r.length
  refine ⟨"list", _, slot_list_getitem.lookup, ht.isList.typeIs, ?_⟩
  refine wpAny_getItem_list_slice ht.isList hs pl pu .none (by simp) ?_ (by rw [List.size_toArray] <;> omega)
  rw [slicePick_cut, ← hlen]
  refine ⟨.ref s.heap.objs.size, _, I.laid (t' := s.toks) (o := .lst (cutV xs lo hi)) (fun b ob q => Heap.get?_push_of_some _ q) (Nat.le_refl _) ?_, rfl, q _ (I.hok.fresh (Nat.le_refl _))⟩
  exact ⟨Nat.le_trans (cutV_length xs lo hi) hz, _, 0, (r.drop (HT.sIx xs.length 0 lo)).take (HT.sIx xs.length xs.length hi - HT.sIx xs.length 0 lo), Heap.get?_push_size _ rfl⟩
/-! ### in, not in: flat items -/
def flatV : V → Bool
  | .non => true
  | .bl _ => true
  | .int _ => true
  | .str _ => true
  | _ => false
/-- == of flat values -/
def eqV : V → V → Bool
  | .non, .non => true
  | .bl a, .bl b => a == b
  | .bl a, .int b => (if a then 1 else 0) == b
  | .int a, .bl b => a == (if b then 1 else 0)
  | .int a, .int b => a == b
  | .str a, .str b => a == b
  | _, _ => false
theorem eqAt_V {A : Around} {s : Shared} {y x : V} {u v : Value} (ry : RelV y u) (rx : RelV x v) (fy : flatV y = true) (fx : flatV x = true) : SeqAt.EqAt A s u v (eqV y x) := by
  cases y with
  | non =>
    cases ry
    cases x with
    | non => cases rx; exact SeqAt.EqAt.same _
    | bl b => cases rx; exact SeqAt.EqAt.none_bool b
    | int b => obtain ⟨t, rfl⟩ := rx; exact SeqAt.EqAt.none_int b t
    | str b => obtain ⟨t, rfl⟩ := rx; exact SeqAt.EqAt.none_str b t
    | _ => exact absurd (show false = true from fx) Bool.false_ne_true
  | bl a =>
    cases ry
    cases x with
    | non => cases rx; exact SeqAt.EqAt.bool_none a
    | bl b => cases rx; exact SeqAt.EqAt.bool_bool a b
    | int b => obtain ⟨t, rfl⟩ := rx; exact SeqAt.EqAt.bool_int a b t
    | str b => obtain ⟨t, rfl⟩ := rx; exact SeqAt.EqAt.bool_str a b t
    | _ => exact absurd (show false = true from fx) Bool.false_ne_true
  | int a =>
    obtain ⟨t', rfl⟩ := ry
    cases x with
    | non => cases rx; exact SeqAt.EqAt.int_none a t'
    | bl b => cases rx; exact SeqAt.EqAt.int_bool a t' b
    | int b => obtain ⟨t, rfl⟩ := rx; exact SeqAt.EqAt.int_int a t' b t
    | str b => obtain ⟨t, rfl⟩ := rx; exact SeqAt.EqAt.int_str a t' b t
    | _ => exact absurd (show false = true from fx) Bool.false_ne_true
  | str a =>
    obtain ⟨t', rfl⟩ := ry
    cases x with
    | non => cases rx; exact SeqAt.EqAt.str_none a t'
    | bl b => cases rx; exact SeqAt.EqAt.str_bool a t' b
    | int b => obtain ⟨t, rfl⟩ := rx; exact SeqAt.EqAt.str_int a t' b t
    | str b => obtain ⟨t, rfl⟩ := rx; exact SeqAt.EqAt.str_str a t' b t
    | _ => exact absurd (show false = true from fx) Bool.false_ne_true
  | _ => exact absurd (show false = true from fy) Bool.false_ne_true
/-! ### len, list(x), tuple(x) of any list or tuple that is read -/
theorem call_len_seq : CallR X (.builtin "len") (fun xs H Q => ∃ p ys, xs = [.ref p] ∧ (SqL X.K H p ys ∨ SqT X.K H p ys) ∧ Q (.int ys.length) H) := by
  intro pins s σ H xs us Q I r h
  obtain ⟨p, ys, rfl, hq, q⟩ := h
  obtain ⟨u, rfl, rx⟩ := vals1 r
  cases rx
  have hn := line63
  rcases hq with hq | hq
  · obtain ⟨its, r', pl, hz⟩ := I.list hq
    have hlen := r'.length
    exact Calls.call_len_list pl.isList (by simp only [List.size_toArray] <;> omega) ⟨.int ys.length, H, I.tok _, ⟨s.toks + 1, by rw [List.size_toArray, hlen]⟩, q⟩
  · obtain ⟨its, r', pl, hz⟩ := I.tuple hq
    have hlen := r'.length
    exact len_tuple pl (by simp only [List.size_toArray] <;> omega) ⟨.int ys.length, H, I.tok _, ⟨s.toks + 1, by rw [List.size_toArray, hlen]⟩, q⟩
theorem call_len_str : CallR X (.builtin "len") (fun xs H Q => ∃ z, xs = [.str z] ∧ z.length ≤ sizeLine ∧ Q (.int z.length) H) := by
  intro pins s σ H xs us Q I r h
  obtain ⟨z, rfl, hz, q⟩ := h
  obtain ⟨u, rfl, t, rfl⟩ := vals1 r
  have hn := line63
  exact len_str (by omega) ⟨.int z.length, H, I.tok _, ⟨_, rfl⟩, q⟩
theorem CallR.or {f : Value} {r r' : List V → Hp → VK → Prop} (h : CallR X f r) (h' : CallR X f r') : CallR X f (fun xs H Q => r xs H Q ∨ r' xs H Q) := by
  intro pins s σ H xs us Q I rs q
  rcases q with q | q
  · exact h pins s σ H xs us Q I rs q
  · exact h' pins s σ H xs us Q I rs q
theorem call_list_of : CallR X (.type "list") (fun xs H Q => ∃ p ys, xs = [.ref p] ∧ (SqL X.K H p ys ∨ SqT X.K H p ys) ∧ ∀ l, H l = none → Q (.ref l) (upd H l (.lst ys))) := by
  intro pins s σ H xs us Q I r h
  obtain ⟨p, ys, rfl, hq, q⟩ := h
  obtain ⟨u, rfl, rx⟩ := vals1 r
  cases rx
  have fin : ∀ (its : List Value), Vals ys its → ys.length ≤ sizeLine → ∀ (h' : Heap) (c' : Nat), (∀ b o', s.heap.get? b = some o' → h'.get? b = some o') →
      h'.get? s.heap.objs.size = some { cls := .type "list", dict := none, data := .seq its.toArray c', slots := #[] } → EP X pins σ Q (.ref s.heap.objs.size) { s with heap := h' } := fun its r' hz h' c' kp e =>
    ⟨.ref s.heap.objs.size, _, I.laid (t' := s.toks) kp (Nat.le_refl _) (show ObjOk X.prog X.w _ h' _ (.lst ys) from ⟨hz, its, c', r', e⟩), rfl, q _ (I.hok.fresh (Nat.le_refl _))⟩
  rcases hq with hq | hq
  · obtain ⟨its, r', pl, hz⟩ := I.list hq
    have hlen := r'.length
    obtain ⟨o, ho, hc, n, hd⟩ := pl.isList
    exact call_list_seq p (.inl rfl) ho hc hd (fun h' c' kp e => fin its r' hz h' c' kp e) (by simp only [List.size_toArray] <;> omega)
  · obtain ⟨its, r', pl, hz⟩ := I.tuple hq
    have hlen := r'.length
    obtain ⟨o, ho, hc, n, hd⟩ := pl
    exact call_list_seq p (.inr rfl) ho hc hd (fun h' c' kp e => fin its r' hz h' c' kp e) (by simp only [List.size_toArray] <;> omega)
theorem call_tuple_of : CallR X (.type "tuple") (fun xs H Q => ∃ p ys, xs = [.ref p] ∧ ((SqL X.K H p ys ∧ ∀ l, H l = none → Q (.ref l) (upd H l (.tup ys))) ∨ (SqT X.K H p ys ∧ Q (.ref p) H))) := by
  intro pins s σ H xs us Q I r h
  obtain ⟨p, ys, rfl, h⟩ := h
  obtain ⟨u, rfl, rx⟩ := vals1 r
  cases rx
  rcases h with ⟨hq, q⟩ | ⟨hq, q⟩
  · obtain ⟨its, r', pl, hz⟩ := I.list hq
    have hlen := r'.length
    refine call_tuple_list pl.isList (fun h' kp => ?_) (by simp only [List.size_toArray] <;> omega)
    have I1 : Inv X pins σ H { s with heap := h' } := I.kept (t' := s.toks) kp
    have I2 : Inv X pins σ (upd H h'.objs.size (.tup ys)) { s with heap := h'.push { cls := .type "tuple", data := .seq its.toArray } } :=
      I1.laid (t' := s.toks) (fun b o e => Heap.get?_push_of_some _ e) (Nat.le_refl _) (show ObjOk X.prog X.w _ _ _ (.tup ys) from ⟨hz, its, r', IsTup.new _ _⟩)
    exact ⟨.ref h'.objs.size, _, I2, rfl, q _ (I1.hok.fresh (Nat.le_refl _))⟩
  · obtain ⟨its, r', pl, hz⟩ := I.tuple hq
    exact call_tuple_same pl ⟨.ref p, H, I, rfl, q⟩
/-! ### the call of a builtin's method: o.m(..) -/
/-- the value is of that builtin type -/
def tyV (K : PySem.W.Frag) (T : String) (x : V) (H : Hp) : Prop := match x with
  | .str _ => T = "str"
  | .int _ => T = "int"
  | .ref p => (T = "list" ∧ ∃ xs, SqL K H p xs) ∨ (T = "tuple" ∧ ∃ o, K.lookup p = some o ∧ o.cls = .type "tuple" ∧ o.dict = none) ∨
      (T = "dict" ∧ ((∃ kvs, H p = some (.dK kvs)) ∨ ∃ kvs, H p = some (.dT kvs))) ∨ (T = "set" ∧ ∃ S n, H p = some (.set S n))
  | _ => False
theorem tyV_is {pins : List (Addr × Obj)} {σ : St} {H : Hp} {s : Shared} {T : String} {x : V} {v : Value} (I : Inv X pins σ H s) (r : RelV x v) (ty : tyV X.K T x H) :
    s.TypeIs v T ∧ ∀ a, v = .ref a → ∃ ob, s.heap.get? a = some ob ∧ ob.dict = none := by
  cases x with
  | str z =>
    obtain ⟨t, rfl⟩ := r
    cases (show T = "str" from ty)
    exact ⟨typeIs_str s z t, fun _ e => nomatch e⟩
  | int i =>
    obtain ⟨t, rfl⟩ := r
    cases (show T = "int" from ty)
    exact ⟨typeIs_int s i t, fun _ e => nomatch e⟩
  | ref p =>
    cases r
    rcases ty with ⟨rfl, xs, hq⟩ | ⟨rfl, o, hk, hc, hd⟩ | ⟨rfl, hk⟩ | ⟨rfl, S, n, hk⟩
    · obtain ⟨its, _, pl, _⟩ := I.list hq
      refine ⟨pl.isList.typeIs, fun a e => ?_⟩
      cases e
      obtain ⟨o, n, e, c, hd, _⟩ := pl
      exact ⟨o, e, hd⟩
    · refine ⟨⟨o, I.kIn p o hk, hc⟩, fun a e => ?_⟩
      cases e
      exact ⟨o, I.kIn _ o hk, hd⟩
    · have z : ∃ o, s.heap.get? p = some o ∧ o.ExactDict := by
        rcases hk with ⟨kvs, hk⟩ | ⟨kvs, hk⟩
        · obtain ⟨_, _, _, _, o, _, _, e, ex, _⟩ := I.hok p _ hk
          exact ⟨o, e, ex⟩
        · obtain ⟨_, _, _, _, o, _, _, e, ex, _⟩ := I.hok p _ hk
          exact ⟨o, e, ex⟩
      obtain ⟨o, e, ex⟩ := z
      refine ⟨⟨o, e, ex.1⟩, fun a e2 => ?_⟩
      cases e2
      exact ⟨o, e, ex.2.1⟩
    · obtain ⟨o, _, _, _, e, ex, _⟩ := I.hok p _ hk
      refine ⟨⟨o, e, ex.1⟩, fun a e2 => ?_⟩
      cases e2
      exact ⟨o, e, ex.2.1⟩
  | _ => exact False.elim ty
def tBM0 (K : PySem.W.Frag) (T : String) (r : V → List V → Hp → VK → Prop) (to : TE) : TE := fun σ H Q => to σ H fun x H1 => tyV K T x H1 ∧ r x [] H1 Q
def tBM (K : PySem.W.Frag) (T : String) (r : V → List V → Hp → VK → Prop) (to : TE) (t : TA) : TE := fun σ H Q => to σ H fun x H1 => tyV K T x H1 ∧ t σ H1 fun xs H2 => r x xs H2 Q
variable {o e : Expr} {es : List Expr} {to : TE} {t : TA} {name : Str} {apos cpos : Pos} {T id : String} {r : V → List V → Hp → VK → Prop}
theorem pe_bm0 (pa : PlainAttrs T) (slot : Slot T name id) (hty : typeOf (.builtin id) = pure (.type "method_descriptor")) (hm : MtR X id r) (ho : PE X o to)
    (hbase : attributeBase o name X.env (eval o X.env) = eval o X.env := by rfl) (hline : (apos.endLine == cpos.line) = true := by rfl) : PE X (.Call (.Attribute o name apos) [] [] cpos) (tBM0 X.K T r to) := by
  intro pins s σ H Q I h
  refine wpAny_Call_method0_late hbase hline (thn (ho pins s σ H _ I h) fun v s1 ⟨x, H1, I1, r1, ty, q1⟩ => ?_)
  obtain ⟨h1, h2⟩ := tyV_is I1 r1 ty
  exact ⟨T, id, pa, slot, hty, h1, h2, Calls.callWith_builtin rfl (PySem.evalArgs_none (hm pins s1 σ H1 x [] v [] Q I1 r1 .nil q1))⟩
theorem pe_bm (pa : PlainAttrs T) (slot : Slot T name id) (hty : typeOf (.builtin id) = pure (.type "method_descriptor")) (hm : MtR X id r) (ho : PE X o to) (ha : PA X (e :: es) t)
    (hbase : attributeBase o name X.env (eval o X.env) = eval o X.env := by rfl)
    (hfew : ((backTo cpos (starEach (e :: es) X.env)).all (fun x => !x.1) && (backToKw cpos (keywordEach [] X.env)).all (fun x => x.1.isSome)
      && decide ((e :: es).length + ([] : List Keyword).length + (if ([] : List Keyword).isEmpty then 0 else 1) < 30)) = true := by rfl)
    (hline : (apos.endLine == cpos.line) = true := by rfl) (hs : starEach (e :: es) X.env = (false, eval e X.env) :: starEach es X.env := by rfl) (hplain : (backTo cpos (starEach es X.env)).any (·.1) = false := by rfl) :
    PE X (.Call (.Attribute o name apos) (e :: es) [] cpos) (tBM X.K T r to t) := by
  intro pins s σ H Q I h
  refine wpAny_Call_method_late hbase hfew hline rfl (thn (ho pins s σ H _ I h) fun v s1 ⟨x, H1, I1, r1, ty, q1⟩ => ?_)
  obtain ⟨h1, h2⟩ := tyV_is I1 r1 ty
  refine ⟨T, id, pa, slot, hty, h1, h2, ?_⟩
  have hA := ha cpos pins s1 σ H1 _ I1 q1
  rw [hs] at hA ⊢
  refine Calls.callWith_builtin (by show (false || (backTo cpos (starEach es X.env)).any (·.1)) = false; rw [hplain] <;> rfl) (Calls.evalArgs_plain ?_)
  exact thn hA fun us s2 ⟨vs, H2, I2, r2, q2⟩ => hm pins s2 σ H2 x vs v us Q I2 r1 r2 q2
/- xs.append(e), list.index on a module's tuple .. are MtR facts of 06m -/
end
end L2
namespace L2
open PySem PySem.Spec PyProof.Rows
def MtM (X : Cx) (id : String) (r : V → List V → Hp → VK → Prop) : Prop :=
  ∀ (pins : List (Addr × Obj)) (s : Shared) (σ : St) (H : Hp) (x : V) (xs : List V) (v : Value) (us : List Value) (Q : VK), Inv X pins σ H s → RelV x v → Vals xs us → r x xs H Q →
    wpAny (model X.prog X.w) X.A (call (.builtin id) (v :: us)) (EP X pins σ Q) X.xe s
/-! ### lists of values -/
theorem Vals.one : ∀ {x : V} {us : List Value}, Vals [x] us → ∃ u, us = [u] ∧ RelV x u
  | _, _, .cons r .nil => ⟨_, rfl, r⟩
theorem Vals.two : ∀ {x y : V} {us : List Value}, Vals [x, y] us → ∃ u v, us = [u, v] ∧ RelV x u ∧ RelV y v
  | _, _, _, .cons r (.cons q .nil) => ⟨_, _, rfl, r, q⟩
theorem Vals.zero : ∀ {us : List Value}, Vals [] us → us = []
  | _, .nil => rfl
theorem Vals.dropLast {xs : List V} {us : List Value} (h : Vals xs us) : Vals xs.dropLast us.dropLast := by
  induction h with
  | nil => exact .nil
  | cons r t ih =>
    cases t with
    | nil => exact .nil
    | cons q t' => exact .cons r ih
theorem Vals.eraseIdx : ∀ {xs : List V} {us : List Value} (i : Nat), Vals xs us → Vals (xs.eraseIdx i) (us.eraseIdx i)
  | _, _, _, .nil => .nil
  | _, _, 0, .cons _ t => t
  | _, _, i + 1, .cons r t => .cons r (Vals.eraseIdx i t)
theorem Vals.rep {xs : List V} {us : List Value} (h : Vals xs us) : ∀ k : Nat, Vals (List.replicate k xs).flatten (List.replicate k us).flatten
  | 0 => .nil
  | k + 1 => by
    rw [List.replicate_succ, List.replicate_succ, List.flatten_cons, List.flatten_cons]
    exact Vals.append h (Vals.rep h k)
theorem erase_last {α : Type} (l : List α) : l.eraseIdx (l.length - 1) = l.dropLast := by
  induction l with
  | nil => rfl
  | cons a r ih =>
    cases r with
    | nil => rfl
    | cons b r =>
      have e : (a :: b :: r).length - 1 = ((b :: r).length - 1) + 1 := by
        have h1 : (a :: b :: r).length = r.length + 2 := rfl
        have h2 : (b :: r).length = r.length + 1 := rfl
        omega
      rw [e, List.eraseIdx_cons_succ, ih]
      all_goals rfl
section
variable {X : Cx} {pins : List (Addr × Obj)} {σ : St} {H : Hp} {s : Shared} {l b : Addr} {xs ys zs : List V}
/-! ### the two steps: a tracked list is rewritten, a new list is laid -/
theorem Inv.lset {its its' : List Value} {n : Nat} {f : Array Value → Array Value} {t' : Nat} (I : Inv X pins σ H s) (hH : H l = some (.lst xs))
    (e : s.heap.get? l = some { cls := .type "list", data := .seq its.toArray n }) (hf : f its.toArray = its'.toArray) (hv : Vals ys its') (hz : ys.length ≤ sizeLine) :
    Inv X pins σ (upd H l (.lst ys)) { s with heap := s.heap.update l (Obj.mapSeq f), toks := t' } := by
  have q := PySem.IsL.update e f
  rw [hf] at q
  refine I.write (x := l) (e := l) (by rw [hH]; exact trivial) (.inl rfl) (fun b' u hb hu => (Heap.get?_update_other s.heap (Obj.mapSeq f) (Ne.symm hb)).trans hu) ⟨_, q⟩ ?_
  exact ⟨hz, its', _, hv, q⟩
theorem Inv.lnew {its : List Value} {t' : Nat} (I : Inv X pins σ H s) (hv : Vals ys its) (hz : ys.length ≤ sizeLine) :
    Inv X pins σ (upd H s.heap.objs.size (.lst ys)) { s with heap := s.heap.push { cls := .type "list", data := .seq its.toArray }, toks := t' } :=
  I.laid (fun _ _ q => Heap.get?_push_of_some _ q) (Nat.le_refl _) ⟨hz, its, 0, hv, Heap.get?_push_size _ rfl⟩
theorem Inv.fresh (I : Inv X pins σ H s) : H s.heap.objs.size = none := I.hok.fresh (Nat.le_refl _)
theorem Inv.lstM (I : Inv X pins σ H s) (hH : H l = some (.lst xs)) : xs.length ≤ sizeLine ∧ ∃ (its : List Value) (n : Nat), Vals xs its ∧ xs.length = its.length ∧ s.heap.get? l = some { cls := .type "list", data := .seq its.toArray n } := by
  obtain ⟨z, its, n, r, e⟩ := I.hok l _ hH
  exact ⟨z, its, n, r, r.length, e⟩
theorem notLongL {n : Nat} (h : n ≤ sizeLine) : Builtin.List.listTooLong n = false := by
  unfold Builtin.List.listTooLong
  exact decide_eq_false (by omega)
end
section
variable {X : Cx}
/-! ### methods -/
def rAppend : V → List V → Hp → VK → Prop := fun x vs H Q => ∃ l xs y, x = .ref l ∧ vs = [y] ∧ H l = some (.lst xs) ∧ xs.length < sizeLine ∧ Q .non (upd H l (.lst (xs ++ [y])))
theorem mt_append : MtM X "list.append" rAppend := by
  intro pins s σ H x vs v us Q I rx rv h
  obtain ⟨l, xs, y, rfl, rfl, hH, hz, q⟩ := h
  cases rx
  obtain ⟨u, rfl, ru⟩ := rv.one
  obtain ⟨z, its, n, r, hl, e⟩ := I.lstM hH
  refine call_meets F.slot_list_append ⟨_, e, rfl⟩ F.entry_list_append (F.args_list_append_2 _ _) (PySem.list_append l its.toArray n u (by rw [List.size_toArray]; omega)) ⟨e, ?_⟩
  refine ⟨.non, _, I.lset (its' := its ++ [u]) hH e (by simp) (r.append (.cons ru .nil)) ?_, rfl, q⟩
  rw [List.length_append, List.length_singleton]
  omega
def rPop : V → List V → Hp → VK → Prop := fun x vs H Q => ∃ l xs y, x = .ref l ∧ vs = [] ∧ H l = some (.lst xs) ∧ xs[xs.length - 1]? = some y ∧ Q y (upd H l (.lst xs.dropLast))
theorem mt_pop : MtM X "list.pop" rPop := by
  intro pins s σ H x vs v us Q I rx rv h
  obtain ⟨l, xs, y, rfl, rfl, hH, hy, q⟩ := h
  cases rx
  have hus := rv.zero
  subst hus
  obtain ⟨z, its, n, r, hl, e⟩ := I.lstM hH
  obtain ⟨u, hu, ru⟩ := r.get hy
  have hy' : its.toArray[its.toArray.size - 1]? = some u := by
    show its.toArray[its.length - 1]? = some u
    rw [← Array.getElem?_toList, ← hl]
    exact hu
  refine call_meets F.slot_list_pop ⟨_, e, rfl⟩ F.entry_list_pop (F.args_list_pop_1 _) (MeetsSeq.list_pop_last l its.toArray n u hy' (by rw [List.size_toArray]; omega)) ⟨e, ?_⟩
  refine ⟨y, _, I.lset (its' := its.dropLast) hH e ?_ r.dropLast ?_, ru, q⟩
  · show its.toArray.eraseIdxIfInBounds (its.toArray.size - 1) = its.dropLast.toArray
    rw [List.size_toArray, List.eraseIdxIfInBounds_toArray, erase_last]
  · rw [List.length_dropLast]
    omega
/-! ### list + list, list += list, list * int -/
def rCat : R2 := fun x y H Q => ∃ l b xs zs, x = .ref l ∧ y = .ref b ∧ H l = some (.lst xs) ∧ H b = some (.lst zs) ∧ xs.length + zs.length ≤ sizeLine ∧ ∀ p, H p = none → Q (.ref p) (upd H p (.lst (xs ++ zs)))
theorem op_cat : OpR X (binaryOp .Add) rCat := by
  intro pins s σ H x y v u Q I rx ry h
  obtain ⟨l, b, xs, zs, rfl, rfl, hH, hB, hz, q⟩ := h
  cases rx
  cases ry
  obtain ⟨z, its, n, r, hl, e⟩ := I.lstM hH
  obtain ⟨z2, its2, n2, r2, hl2, e2⟩ := I.lstM hB
  refine PySem.P.add_list e e2 ?_ (by rw [List.size_toArray, List.size_toArray]; omega)
  have ea : its.toArray ++ its2.toArray = (its ++ its2).toArray := by simp
  rw [ea]
  exact ⟨.ref _, _, I.lnew (t' := s.toks) (r.append r2) (by rw [List.length_append]; omega), rfl, q _ I.fresh⟩
/-! ### del xs[i] -/
end
/-! ### xs[a:b] = ys -/
section
variable {prog : Program} {w : World} {A : Around} {E : Value → Shared → Prop} {s : Shared}
end
section
variable {X : Cx}
end
end L2
namespace Att
open PySem PySem.W PySem.Calls PyProof.Rows
/-! ### the script -/
theorem ints_of_wellAll {P : Params} {h : Heap} : ∀ (ns : List Int) (vs : List Value), WellAll P h vs (ns.map WData.int) → IntsAre vs ns := by
  intro ns
  induction ns with
  | nil =>
    intro vs w
    rw [List.map_nil] at w
    cases w
    exact .nil
  | cons n ns ih =>
    intro vs w
    rw [List.map_cons] at w
    cases w with
    | cons a b =>
      cases a
      exact .cons _ _ (ih _ b)
theorem script_of {l : OpenLaw} {n : Nat} (hn : l.most = some n) {P : Params} {h : Heap} {args : List WData} {vals : List Value}
    (hpre : l.row.toRowW.claim.pre args = true) (hwl : WellAll P h vals args) :
    ∃ a vs ns, vals = [Value.ref a] ∧ args = [WData.list (ns.map WData.int)] ∧ h.get? a = some { cls := .type "list", data := .seq vs.toArray } ∧ IntsAre vs ns ∧ ns.length ≤ n := by
  have hsh : WShape.hasAll [] args [.list .int] = true := (pre_splitW hpre).1
  have hc : l.pre.holds [] { args := args } = true := (pre_splitW hpre).2
  obtain ⟨d, r, rfl, h1, h2⟩ := hasAllW_cons hsh
  obtain rfl := hasAllW_nil h2
  obtain ⟨xs, rfl, h3⟩ := hasW_list h1
  obtain ⟨ns, rfl⟩ := items_int h3
  have hlen : ns.length ≤ n := by
    unfold OpenLaw.pre at hc
    have h4 : (WTm.not (.lt (.lit (.int (n : Int))) (.len (.arg 0)))).holds [] { args := [.list (ns.map .int)] } = true := by
      have h4 := (holds_andW hc).1
      rw [hn] at h4
      exact h4
    have h5 := condW_of h4 (w_not (w_lt w_lit (w_len_list (w_arg rfl))))
    rw [List.length_map] at h5
    refine Nat.le_of_not_lt fun q => ?_
    have q' : (n : Int) < ((ns.length : Nat) : Int) := by omega
    first
      | (rw [decide_eq_true q'] at h5; exact absurd h5 (by decide))
      | (simp at h5; omega)
  cases hwl with
  | cons w1 w2 =>
    cases w2
    cases w1 with
    | list ho hall => exact ⟨_, _, ns, rfl, rfl, ho, ints_of_wellAll ns _ hall, hlen⟩
theorem post_true (l : OpenLaw) (args : List WData) : l.row.toRowW.claim.post args (.bool true) args = true :=
  postW_of (r := l.row.toRowW) (X := (true == true))
    (show WShape.has [] (.bool true) .bool = true by first | rfl | decide | simp [WShape.has, WShape.arms, WShape.armsAll])
    (show (WTm.eq .res (.lit (.bool true))).value [] { args := args, res := some (.bool true), after := args } = some (.bool (true == true)) from w_eq_bool (w_res rfl) w_lit) rfl
/-! ### the attachment: holds_open's last premise (the goal 'hc' behind k_head) from a wpAny of the law's body -/
/-- the same from a codeAny of the CALL (for a layer whose function contracts speak of calls) -/
theorem attach_call {l : OpenLaw} {n : Nat} {q : Program} {loose : List Str} {XP : (Str → Option Value) → Heap → Prop} {YP : World → Heap → Prop} {d : DefRec}
    (hn : l.most = some n) (hdf : d.params.defaults = [])
    (call : ∀ (w : World) (s₀ s₁ : Shared) (mg mb : Str → Option Value) (fa : Addr) (o : Obj) (pm cd doc : Value) (a : Addr) (vs : List Value) (ns : List Int),
      Ground q loose [] XP w s₀ mg mb s₁.heap → YP w s₁.heap →
      s₁.heap.get? fa = some o → o.data = .func (docDef d.name d.params d.body d.scope pm cd doc) → s₁.heap.CodeRec cd d.name → mg d.name = some (.ref fa) →
      s₁.heap.get? a = some { cls := .type "list", data := .seq vs.toArray } → IntsAre vs ns → ns.length ≤ n → s₁.gens = #[] →
      codeAny (model l.prog w) callerA (.call (.ref fa) ⟨[.ref a], []⟩) (fun r s' => r = .ok (.ret (.bool true)) ∧ OldK s₁.heap s'.heap ∧ s'.os = s₁.os ∧ AllBare s'.gens) s₁) :
    WalkO q loose XP YP l.row.toRowW d [] (fun f vs => PySem.call f vs) := by
  intro w s₀ s₁ mg mb G Y fa o pm cd doc dV kV ho hd hcd hD hmg hg args vals as hpre hlay hrd hwl hlo
  obtain rfl : dV = .none := Dflts.none hD hdf
  obtain rfl : kV = .none := Dflts.noKw hD
  obtain ⟨a, vs, ns, rfl, rfl, hobj, hints, hlen⟩ := script_of hn hpre hwl
  refine enter_call (codeAny_mono (call w s₀ s₁ mg mb fa o pm cd doc a vs ns G Y ho (fd_plain hd) hcd hmg hobj hints hlen hg) fun r s' hq => ?_)
  obtain ⟨rfl, h2, h3, h4⟩ := hq
  exact ⟨.inl ⟨.bool true, .bool true, [], rfl, fun _ => rfl, .bool true, post_true l _, fun _ => ⟨List.Pairwise.nil, fun _ hm => (nomatch hm)⟩⟩, h2, h3, h4⟩
/-! ### rules over ANY heap (no ledger) from facts about the written part K: the library's own take a ledger (News) for what they write -/
section
variable {prog : Program} {w : World} {A : Around} {E : Value → Shared → Prop} {s : Shared} {K : Frag}
/-! the whole heap as the ledger: makes every rule that writes through a ledger a rule over any heap -/
end
end Att
namespace L2
open PySem PySem.Spec PyProof.Rows
theorem vals_ints : ∀ {vs : List Value} {ns : List Int}, IntsAre vs ns → Vals (ns.map V.int) vs
  | _, _, .nil => .nil
  | _, _, .cons n t h => .cons ⟨t, rfl⟩ (vals_ints h)
/-- nothing is tracked but the script, known to the object (or it is an object of the module) -/
def Only (H : Hp) : Prop := ∀ b, H b = none ∨ ∃ o xs, H b = some (.frz o (.lst xs))
/-- THE HEAD: the law's promise, at the heap behind the top. F, the promise of the law's def, may use that base is part of the heap (so K.In base, base.Ns mainGlobals mg stand in Mod) -/
theorem law_call {P : Program} {w : World} {K : PySem.W.Frag} {mg mb : Str → Option Value} {CX : CXT} {k : Nat} {fa a : Addr} {fd : FuncData} {x : Str} {sp : Sp} {s₁ : Shared} {vs : List Value} {ns : List Int}
    (KX : K.In s₁.heap) (hns : s₁.heap.Ns mainGlobals mg) (hb : s₁.heap.Ns builtinsNs mb) (hbb : ∀ x : Str, x ≠ "__name__" → mb x = bootBuiltins x) (hlim : s₁.heap.NoLimit) (hg : s₁.gens = #[])
    (ha : s₁.heap.get? a = some { cls := .type "list", data := .seq vs.toArray }) (hi : IntsAre vs ns) (hl : ns.length ≤ sizeLine) (hr : Room k callerA)
    (F : ∀ base : Heap, K.In base → base.Ns mainGlobals mg → FnOk P w K mg base CX k fa fd [x] sp) (hbind : ∀ (s : Shared) (u : Value), BindsTo s fd ⟨[u], []⟩ [(x, u)])
    (hsp : ∀ H : Hp, Only H → SqL K H a (ns.map V.int) → sp [.ref a] H (fun v _ => v = .bl true) fun _ _ _ => False)
    (hCX : ∀ H e s', CX [] H s₁ (fun _ _ _ => False) e s' → False) :
    codeAny (model P w) callerA (.call (.ref fa) ⟨[.ref a], []⟩) (fun r s' => r = .ok (.ret (.bool true)) ∧ OldK s₁.heap s'.heap ∧ s'.os = s₁.os ∧ AllBare s'.gens) s₁ := by
  have rv := vals_ints hi
  have lenV := hi.length
  -- from an abstract heap in which nothing but the script may be tracked
  have core : ∀ H : Hp, Only H → SqL K H a (ns.map V.int) → HOk P w H s₁.heap → (∀ b, H b ≠ none → b = a) → (H a ≠ none → K.lookup a = none) →
      codeAny (model P w) callerA (.call (.ref fa) ⟨[.ref a], []⟩) (fun r s' => r = .ok (.ret (.bool true)) ∧ OldK s₁.heap s'.heap ∧ s'.os = s₁.os ∧ AllBare s'.gens) s₁ := by
    intro H hO hS hok hA hK
    have base_of : ∀ {b : Addr} {o : Obj}, s₁.heap.get? b = some o → H b = none → (hidT s₁.heap H).get? b = some o := fun e n => hidT_get e n
    have noA : ∀ {b : Addr} {o : Obj} {es : Array DictEntry} {ep : Nat}, s₁.heap.get? b = some o → o.data = .dict es ep → H b = none := fun {b o es ep} e d => by
      cases q : H b with
      | none => rfl
      | some u =>
        have e' : b = a := hA b (by rw [q]; simp)
        subst e'
        rw [ha] at e; cases e
        have d' : Data.seq vs.toArray _ = Data.dict es ep := d
        cases d'
    have nsK : ∀ {b : Addr} {m : Str → Option Value}, s₁.heap.Ns b m → (hidT s₁.heap H).Ns b m := fun {b m} ⟨o, es, ep, e, d, r⟩ => ⟨o, es, ep, base_of e (noA e d), d, r⟩
    have hKb : K.In (hidT s₁.heap H) := fun b o e => base_of (KX b o e) (by
      cases q : H b with
      | none => rfl
      | some u =>
        have e' : b = a := hA b (by rw [q]; simp)
        subst e'
        rw [hK (by rw [q]; simp)] at e; cases e)
    have hM : Mod K mg (hidT s₁.heap H) := ⟨hKb, nsK hns, ⟨mb, nsK hb, hbb⟩, let ⟨mc, h1, h2⟩ := hlim; ⟨mc, nsK h1, h2⟩⟩
    have e0 : Env0 P w K mg (hidT s₁.heap H) callerA [] s₁ H := ⟨rfl, hM, fun b o e => of_hidT e, Nat.le_of_eq (hidT_size _ _), trivial, fun b hb => absurd (show b ∈ ([] : List Addr) from hb) (by simp), hok, .of_eq hg⟩
    refine codeAny_mono ((F _ hKb (nsK hns)).run callerA [] s₁ H ⟨[.ref a], []⟩ [.ref a] [.ref a] _ _ hr e0 (hbind s₁ (.ref a)) (.cons rfl .nil) (hsp H hO hS)) fun r s' h => ?_
    cases r with
    | error e => exact (hCX H e s' h).elim
    | ok fl =>
      cases fl with
      | next => exact False.elim h
      | brk => exact False.elim h
      | cont => exact False.elim h
      | ret u =>
        obtain ⟨v, H', os, bare, un, hok', r', q⟩ := h
        have q' : v = .bl true := q
        subst q'
        obtain rfl : u = Value.bool true := r'
        refine ⟨rfl, OldK.of_keep fun b o e => ?_, os, bare⟩
        cases q : H b with
        | none => exact un.keep b o e q (by intro z; exact absurd (show b ∈ ([] : List Addr) from z) (by simp)) (by simp)
        | some u =>
          rcases hO b with z | ⟨ob, xs, z⟩
          · rw [q] at z; cases z
          · have z2 := un.frzs b ob _ z
            obtain ⟨e1, _⟩ := hok b _ z
            obtain ⟨e2, _⟩ := hok' b _ z2
            rw [e] at e1; cases e1
            exact e2
  cases hk : K.lookup a with
  | some o =>
    -- the script is one of the module's own objects
    have e := KX a o hk
    rw [ha] at e
    cases e
    refine core (fun _ => none) (fun _ => .inl rfl) (.inr ⟨_, vs.toArray, _, hk, rfl, rfl, rfl, by rw [List.size_toArray, lenV]; exact hl, by simpa using rv⟩) (fun b u z => by have z' : (none : Option HO) = some u := z; cases z') (fun b z => absurd rfl z) fun z => absurd rfl z
  | none =>
    refine core (fun b => if b = a then some (.frz { cls := .type "list", data := .seq vs.toArray } (.lst (ns.map V.int))) else none) (fun b => ?_) (.inl (.inr ⟨{ cls := .type "list", data := .seq vs.toArray }, if_pos rfl⟩)) (fun b u z => ?_) (fun b z => ?_) fun _ => hk
    · by_cases hb : b = a
      · exact .inr ⟨_, _, if_pos hb⟩
      · exact .inl (if_neg hb)
    · by_cases hb : b = a
      · have z' := (if_pos hb).symm.trans z
        cases z'
        subst hb
        exact ⟨ha, by rw [List.length_map]; exact hl, vs, _, rv, ha⟩
      · have z' := (if_neg hb).symm.trans z
        cases z'
    · by_cases hb : b = a
      · exact hb
      · exact absurd (if_neg hb) z
end L2
namespace L2
open PySem PySem.Spec PyProof.Rows
abbrev KOf {K : PySem.W.Frag} {h : Heap} (_ : K.In h) : PySem.W.Frag := K
/-- the goal that k_head leaves (case hc), from the law's promise. F gives the function object fd (K's own) once, then the promise over every base -/
theorem walk_of {l : PySem.W.OpenLaw} {n k : Nat} {q : Program} {loose : List Str} {XP : (Str → Option Value) → Heap → Prop} {YP : World → Heap → Prop} {d : DefRec} {K : Params → PySem.W.Frag} {CX : World → CXT} {sp : World → Sp} {x : Str}
    (hn : l.most = some n) (hn2 : n ≤ sizeLine) (hdf : d.params.defaults = []) (hr : Room k callerA)
    (hY : ∀ (w : World) (h : Heap), YP w h → (K w.params).In h)
    (F : ∀ (w : World) (mg : Str → Option Value) (fa : Addr) (h : Heap), (K w.params).In h → h.Ns mainGlobals mg → mg d.name = some (.ref fa) →
      ∃ fd : FuncData, (∀ (s : Shared) (u : Value), BindsTo s fd ⟨[u], []⟩ [(x, u)]) ∧
        ∀ base : Heap, (K w.params).In base → base.Ns mainGlobals mg → FnOk l.prog w (K w.params) mg base (CX w) k fa fd [x] (sp w))
    (hsp : ∀ (w : World) (H : Hp) (a : Addr) (ns : List Int), ns.length ≤ n → Only H → SqL (K w.params) H a (ns.map V.int) → sp w [.ref a] H (fun v _ => v = .bl true) fun _ _ _ => False)
    (hCX : ∀ (w : World) (H : Hp) (s : Shared) (e : Value) (s' : Shared), CX w [] H s (fun _ _ _ => False) e s' → False) :
    PySem.W.WalkO q loose XP YP l.row.toRowW d [] (fun f vs => PySem.call f vs) := by
  refine Att.attach_call hn hdf fun w s₀ s₁ mg mb fa o pm cd doc a vs ns G Y ho hd hcd hmg hobj hints hlen hg => ?_
  have KX := hY w _ Y
  obtain ⟨fd, hb, hF⟩ := F w mg fa _ KX G.T.g hmg
  exact law_call KX G.T.g G.T.b G.T.builtins G.T.nolimit hg hobj hints (Nat.le_trans hlen hn2) hr hF hb (fun H hO hS => hsp w H a ns hlen hO hS) fun H e s' => hCX w H s₁ e s'
end L2
/- THE LAST THEOREM (shape; LID, My.* are yours):
   My.Adr: a structure of the addresses that your layer names (classes, functions); My.Txt K t: a structure (Prop) of the equations over K;
   My.txt_mk : {K} {implicit addresses ..} (e1 : nsIn K mainGlobals "law" = some (some (.ref f))) (e2 : K.lookup f = some ⟨oc, od, .func (fnOf "law" "law" params body scope dV kV doc pm an cdv ct), sl⟩) (e3 : codeIn K cdv "law" = true) .. : ∃ t, My.Txt K t
set_option maxRecDepth 100000 in
set_option maxHeartbeats 0 in
theorem PySem.Challenge.cw_LID_holds : PySem.Challenge.rw_LID.Holds := by
  w_on; o_law; k_head; (case hw => w_witness2)
  k_fill
  refine L2.walk_of (l := PySem.Challenge.rw_LID) (n := 63) (k := 40) (x := "script") (CX := fun w => ..) (sp := fun _ => My.sp_law) rfl (by decide) rfl ⟨rfl, by decide, by decide⟩ (fun w h Y => PySem.W.kIn_of Y) ?F ?S ?C
  case F =>
    intro w mg fa h KX G hmg
    have T : ∃ t, My.Txt (L2.KOf KX) t := by
      dsimp only [L2.KOf]                          -- K must stand as «<heap const> w.params» for k_is
      refine' My.txt_mk ?e1 ?e2 ?e3 ..
      (case e1 => PySem.W.k_is)                    -- in the order: a name -> its address -> its object -> its parts
      (case e2 => PySem.W.k_is)
      ..
    obtain ⟨t, T⟩ := T
    have e0 := hmg.symm.trans (PySem.W.mg_of KX G T.law)
    cases e0                                       -- fa is the law's own address
    exact ⟨_, fun s u => .of_eq rfl, fun base kb nb => My.law_fn T kb nb⟩     -- if «.of_eq rfl» comes too early: refine' ⟨_, ?b, fun base kb nb => My.law_fn T kb nb⟩; exact fun s u => .of_eq rfl
  case S => exact fun w H a ns hl hO hS => ..
  case C => exact ..
(the tactic k_is has no namespace: write k_is) -/
/-! SHORT WORDS over the layer: a def of the text, its body, what a loop and a test want. -/
namespace L2
open PySem PySem.Spec PyProof.Rows
/-! ### the text by places -/
def defArgs (s : Stmt) : Arguments := match s with
  | .FunctionDef _ a _ _ _ _ _ _ _ _ => a
  | _ => { posonlyargs := [], args := [], vararg := none, kwonlyargs := [], kw_defaults := [], kwarg := none, defaults := [] }
def defBody (s : Stmt) : List Stmt := match s with
  | .FunctionDef _ _ b _ _ _ _ _ _ _ => b
  | _ => []
def defScope (s : Stmt) : Scope := match s with
  | .FunctionDef _ _ _ _ _ _ sc _ _ _ => sc
  | _ => { kind := .function, names := [], isGenerator := false, isCoroutine := false }
/-! ### no exception leaves a def -/
abbrev CX0 : CXT := fun _ _ _ _ _ _ => False
abbrev E0 : XK := fun _ _ _ => False
theorem pass0 {X : Cx} : Passes CX0 X E0 := fun _ _ _ _ _ _ _ h => h.elim
/-! ### a def (or method) of the text as it stands behind the top -/
structure Fun (K : PySem.W.Frag) (x qual : Str) (st : Stmt) (f : Addr) (fd : FuncData) : Prop where
  ex : ∃ (oc : Value) (od : Option Addr) (kV doc pm : Value) (an : Option Addr) (cdv ct : Value) (osl : Array (Option Value)),
    fd = PySem.W.fnOf x qual (defArgs st) (defBody st) (defScope st) .none kV doc pm an cdv ct ∧ K.lookup f = some ⟨oc, od, .func fd, osl⟩ ∧ PySem.W.codeIn K cdv qual = true
  kp : PySem.W.keepIn K (.ref f) = true
section
variable {P : Program} {w : World} {K : PySem.W.Frag} {mg : Str → Option Value} {base : Heap}
/-- THE RULE for a def: its body as a term of rules, and the reading of that term -/
theorem Fun.ok {x qual : Str} {st : Stmt} {f : Addr} {fd : FuncData} {N ps : List Str} {k : Nat} {sp : Sp} (F : Fun K x qual st f fd) (S : FnScope N ps (defScope st)) (len : ∀ vs H Q E, sp vs H Q E → vs.length = ps.length)
    (hbody : ∀ (cdv : Value) (A : Around) (outer : List Env) (s : Shared) (H : Hp) (vs : List V) (Q : VK) (E : XK), Room k (A.deeper (envOfC qual (defScope st) s.heap.objs.size f cdv)) → sp vs H Q E →
      ∃ t, PSs (cxOf CX0 P w K mg base N qual (defScope st) f cdv A outer s H E).nox (defBody st) t ∧ t { nx := fun _ H' => Q .non H', rt := Q } (start N vs) H) : FnOk P w K mg base CX0 (k + 1) f fd ps sp := by
  obtain ⟨oc, od, kV, doc, pm, an, cdv, ct, osl, rfl, lk, hcd⟩ := F.ex
  refine fn_of lk hcd S len fun A outer s H vs Q E hr hsp => ?_
  obtain ⟨t, h, q⟩ := hbody cdv A outer s H vs Q E hr hsp
  exact ⟨t, h.nox, q⟩
/-- how its arguments bind (no defaults): h is «fun _ _ _ _ _ _ us hl => match us, hl with | [_, _], _ => rfl», one _ a parameter -/
theorem Fun.binds {x qual : Str} {st : Stmt} {f : Addr} {fd : FuncData} {ps : List Str} (F : Fun K x qual st f fd)
    (h : ∀ (kV doc pm : Value) (an : Option Addr) (cdv ct : Value) (us : List Value), us.length = ps.length → bindArgs (PySem.W.fnOf x qual (defArgs st) (defBody st) (defScope st) .none kV doc pm an cdv ct) ⟨us, []⟩ = pure (ps.zip us)) : Binds K fd ps [] := by
  obtain ⟨oc, od, kV, doc, pm, an, cdv, ct, osl, rfl, lk, hcd⟩ := F.ex
  exact .all (h kV doc pm an cdv ct)
theorem fun_mk {x qual : Str} {st : Stmt} {f : Addr} {oc : Value} {od an : Option Addr} {osl : Array (Option Value)} {kV doc pm cdv ct : Value} (l : K.lookup f = some ⟨oc, od, .func (PySem.W.fnOf x qual (defArgs st) (defBody st) (defScope st) .none kV doc pm an cdv ct), osl⟩)
    (c : PySem.W.codeIn K cdv qual = true) (k : PySem.W.keepIn K (.ref f) = true) : Fun K x qual st f (PySem.W.fnOf x qual (defArgs st) (defBody st) (defScope st) .none kV doc pm an cdv ct) := ⟨⟨oc, od, kV, doc, pm, an, cdv, ct, osl, rfl, l, c⟩, k⟩
end
/-! ### expressions in short: the name that stands in the i-th slot -/
section
variable {X : Cx}
end
/-! ### tests -/
theorem iteF {A B : Prop} (h : B) : if false = true then A else B := by
  rw [if_neg Bool.false_ne_true]
  exact h
theorem iteT {A B : Prop} (h : A) : if true = true then A else B := by
  rw [if_pos rfl]
  exact h
/-! ### heaps -/
/-- all that was tracked is as it was -/
def Same (H H' : Hp) : Prop := ∀ b o, H b = some o → H' b = some o
theorem Same.refl (H : Hp) : Same H H := fun _ _ h => h
theorem Same.trans {H H1 H2 : Hp} (a : Same H H1) (b : Same H1 H2) : Same H H2 := fun c o h => b c o (a c o h)
theorem Same.free {H H' : Hp} (e : Same H H') {l : Addr} (h : H' l = Option.none) : H l = Option.none := by
  cases q : H l with
  | none => rfl
  | some o =>
    rw [e l o q] at h
    cases h
theorem Same.seq {K : PySem.W.Frag} {H H' : Hp} {a : Addr} {xs : List V} (e : Same H H') (h : SqL K H a xs) : SqL K H' a xs := by
  rcases h with (h | ⟨o, h⟩) | h
  · exact .inl (.inl (e _ _ h))
  · exact .inl (.inr ⟨o, e _ _ h⟩)
  · exact .inr h
end L2
set_option Elab.async false
set_option linter.all false
set_option maxRecDepth 100000
set_option maxHeartbeats 4000000
/-! The data layer: values as data (tuples and lists written out), a def's body as a function upon them. -/
namespace DL
open PySem PySem.Spec PyProof.Rows L2
/-! ### data -/
inductive D where
  | non | bl (b : Bool) | int (i : Int) | str (x : Str) | tup (xs : List D) | lst (xs : List D) | emp
mutual
inductive Rep (K : PySem.W.Frag) (J : Hp) : D → V → Prop
  | non : Rep K J .non .non
  | bl (b : Bool) : Rep K J (.bl b) (.bl b)
  | int (i : Int) : Rep K J (.int i) (.int i)
  | str (x : Str) : Rep K J (.str x) (.str x)
  | emp {a : Addr} : J a = some (.dK []) → Rep K J .emp (.ref a)
  | tup {a : Addr} {vs : List V} {ds : List D} : SqT K J a vs → Reps K J ds vs → Rep K J (.tup ds) (.ref a)
  | lst {a : Addr} {vs : List V} {ds : List D} : SqL K J a vs → Reps K J ds vs → Rep K J (.lst ds) (.ref a)
inductive Reps (K : PySem.W.Frag) (J : Hp) : List D → List V → Prop
  | nil : Reps K J [] []
  | cons {d : D} {v : V} {ds : List D} {vs : List V} : Rep K J d v → Reps K J ds vs → Reps K J (d :: ds) (v :: vs)
end
theorem sameT {K : PySem.W.Frag} {H H' : Hp} {a : Addr} {xs : List V} (e : Same H H') (h : SqT K H a xs) : SqT K H' a xs := by
  rcases h with (h | ⟨o, h⟩) | h
  · exact .inl (.inl (e _ _ h))
  · exact .inl (.inr ⟨o, e _ _ h⟩)
  · exact .inr h
mutual
theorem Rep.mono {K : PySem.W.Frag} {J J' : Hp} (e : Same J J') : ∀ {d : D} {v : V}, Rep K J d v → Rep K J' d v
  | _, _, .non => .non
  | _, _, .bl b => .bl b
  | _, _, .int i => .int i
  | _, _, .str x => .str x
  | _, _, .emp h => .emp (e _ _ h)
  | _, _, .tup h hs => .tup (sameT e h) (Reps.mono e hs)
  | _, _, .lst h hs => .lst (e.seq h) (Reps.mono e hs)
theorem Reps.mono {K : PySem.W.Frag} {J J' : Hp} (e : Same J J') : ∀ {ds : List D} {vs : List V}, Reps K J ds vs → Reps K J' ds vs
  | _, _, .nil => .nil
  | _, _, .cons h hs => .cons (Rep.mono e h) (Reps.mono e hs)
end
section
variable {K : PySem.W.Frag} {J : Hp}
theorem Reps.length : ∀ {ds : List D} {vs : List V}, Reps K J ds vs → ds.length = vs.length
  | _, _, .nil => rfl
  | _, _, .cons _ hs => congrArg (· + 1) (Reps.length hs)
theorem Reps.get : ∀ {ds : List D} {vs : List V} {i : Nat} {d : D}, Reps K J ds vs → ds[i]? = some d → ∃ v, vs[i]? = some v ∧ Rep K J d v
  | _, _, _, _, .nil, e => by simp at e
  | _, _, 0, _, .cons r _, e => by simp at e; subst e; exact ⟨_, rfl, r⟩
  | _, _, i + 1, d, .cons _ t, e => by
    obtain ⟨v, h1, h2⟩ := Reps.get (i := i) (d := d) t (by simpa using e)
    exact ⟨v, by simpa using h1, h2⟩
theorem Reps.append : ∀ {ds es : List D} {vs us : List V}, Reps K J ds vs → Reps K J es us → Reps K J (ds ++ es) (vs ++ us)
  | _, _, _, _, .nil, s => s
  | _, _, _, _, .cons r t, s => .cons r (Reps.append t s)
theorem Reps.take : ∀ {ds : List D} {vs : List V} (n : Nat), Reps K J ds vs → Reps K J (ds.take n) (vs.take n)
  | _, _, 0, _ => .nil
  | _, _, _ + 1, .nil => .nil
  | _, _, n + 1, .cons r t => .cons r (Reps.take n t)
theorem Reps.drop : ∀ {ds : List D} {vs : List V} (n : Nat), Reps K J ds vs → Reps K J (ds.drop n) (vs.drop n)
  | _, _, 0, r => r
  | _, _, _ + 1, .nil => .nil
  | _, _, n + 1, .cons _ t => Reps.drop n t
end
/-! ### outcomes -/
/-- an exception: its class's name, its fields -/
structure Exc where
  cls : Str
  fs : List (Str × D)
inductive M (α : Type) where
  | bad | ok (a : α) | exc (x : Exc)
def M.bind {α β : Type} : M α → (α → M β) → M β
  | .bad, _ => .bad
  | .ok a, f => f a
  | .exc x, _ => .exc x
instance : Monad M where
  pure := M.ok
  bind := M.bind
@[simp] theorem bind_ok {α β : Type} (a : α) (f : α → M β) : (M.ok a >>= f) = f a := rfl
@[simp] theorem bind_bad {α β : Type} (f : α → M β) : (M.bad >>= f) = M.bad := rfl
@[simp] theorem bind_exc {α β : Type} (x : Exc) (f : α → M β) : (M.exc x >>= f) = M.exc x := rfl
@[simp] theorem pure_ok {α : Type} (a : α) : (pure a : M α) = M.ok a := rfl
def wpM {α : Type} (m : M α) (Q : α → Prop) (T : Exc → Prop) : Prop := match m with
  | .bad => False
  | .ok a => Q a
  | .exc x => T x
theorem wpM_bind {α β : Type} {m : M α} {f : α → M β} {Q : β → Prop} {T : Exc → Prop} (h : wpM (m >>= f) Q T) : wpM m (fun a => wpM (f a) Q T) T := by
  cases m with
  | bad => exact h
  | ok a => exact h
  | exc x => exact h
theorem wpM_mono {α : Type} {m : M α} {Q Q' : α → Prop} {T : Exc → Prop} (h : wpM m Q T) (k : ∀ a, Q a → Q' a) : wpM m Q' T := by
  cases m with
  | bad => exact h
  | ok a => exact k a h
  | exc x => exact h
/-! ### results, slots -/
inductive Md where
  | fresh | own | bor
inductive R where
  | d (x : D) | l (m : Md) (xs : List D)
inductive S where
  | d (x : D) | own (xs : List D) | bor (xs : List D)
abbrev Ev := List (Option S)
/-- what stands fixed through a def's body: the text's part, the heaps at the entry, what is wanted of exceptions -/
structure C where
  K : PySem.W.Frag
  H0 : Hp
  J0 : Hp
  T : Exc → Prop
/-- J: what never changes any more -/
structure HI (c : C) (J H : Hp) : Prop where
  sub : Same J H
  ent : Same c.H0 H
  entJ : Same c.J0 J
  frz : ∀ a, c.H0 a ≠ none → c.J0 a = none → J a = none
/-- an expression has been reckoned -/
structure Ext (J H J' H' : Hp) : Prop where
  h : Same H H'
  j : Same J J'
  sub : Same J' H'
  frz : ∀ a, H a ≠ none → J a = none → J' a = none
theorem Same.ne {H H' : Hp} (e : Same H H') {a : Addr} (h : H a ≠ none) : H' a ≠ none := by
  cases q : H a with
  | none => exact absurd q h
  | some o => rw [e a o q]; intro z; cases z
theorem Ext.refl {J H : Hp} (h : Same J H) : Ext J H J H := ⟨Same.refl H, Same.refl J, h, fun _ _ q => q⟩
theorem Ext.trans {J H J1 H1 J2 H2 : Hp} (a : Ext J H J1 H1) (b : Ext J1 H1 J2 H2) : Ext J H J2 H2 :=
  ⟨a.h.trans b.h, a.j.trans b.j, b.sub, fun p h q => b.frz p (Same.ne a.h h) (a.frz p h q)⟩
theorem HI.ext {c : C} {J H J' H' : Hp} (h : HI c J H) (e : Ext J H J' H') : HI c J' H' :=
  ⟨e.sub, h.ent.trans e.h, h.entJ.trans e.j, fun a h0 j0 => e.frz a (Same.ne h.ent h0) (h.frz a h0 j0)⟩
theorem same_new {H : Hp} {p : Addr} (h : H p = none) (o : HO) : Same H (upd H p o) := fun b u q => by rw [upd_ne (ne_of_none q h)]; exact q
/-- a new object -/
theorem Ext.new {J H : Hp} (h : Same J H) {p : Addr} (e : H p = none) (o : HO) : Ext J H J (upd H p o) :=
  ⟨same_new e o, Same.refl J, fun b u q => same_new e o b u (h b u q), fun _ _ q => q⟩
/-- a new object that never changes -/
theorem Ext.newJ {J H : Hp} (h : Same J H) {p : Addr} (e : H p = none) (o : HO) : Ext J H (upd J p o) (upd H p o) :=
  ⟨same_new e o, same_new (h.free e) o, fun b u q => by
    by_cases hb : b = p
    · subst hb; rw [upd_same] at q ⊢; exact q
    · rw [upd_ne hb] at q ⊢; exact h b u q, fun a ha q => by
    have : a ≠ p := fun z => ha (z ▸ e)
    rw [upd_ne this]; exact q⟩
def SRep (c : C) (J H : Hp) : S → V → Prop
  | .d x, v => Rep c.K J x v
  | .own xs, v => ∃ a vs, v = .ref a ∧ H a = some (.lst vs) ∧ J a = none ∧ c.H0 a = none ∧ Reps c.K J xs vs
  | .bor xs, v => ∃ a vs, v = .ref a ∧ SqL c.K c.H0 a vs ∧ Reps c.K J xs vs
theorem SRep.ext {c : C} {J H J' H' : Hp} (e : Ext J H J' H') : ∀ {x : S} {v : V}, SRep c J H x v → SRep c J' H' x v
  | .d x, v, h => Rep.mono e.j h
  | .own xs, v, ⟨a, vs, h1, h2, h3, h4, h5⟩ => ⟨a, vs, h1, e.h _ _ h2, e.frz a (by rw [h2]; intro z; cases z) h3, h4, Reps.mono e.j h5⟩
  | .bor xs, v, ⟨a, vs, h1, h2, h3⟩ => ⟨a, vs, h1, h2, Reps.mono e.j h3⟩
structure SR (c : C) (J H : Hp) (σ : L2.St) (env : Ev) : Prop where
  hp : HI c J H
  len : env.length = σ.length
  at_ : ∀ (i : Nat) (x : S), env[i]? = some (some x) → ∃ v, σ[i]? = some (some v) ∧ SRep c J H x v
  sep : ∀ (i j : Nat) (xs ys : List D) (v : V), i ≠ j → env[i]? = some (some (.own xs)) → env[j]? = some (some (.own ys)) → σ[i]? = some (some v) → σ[j]? ≠ some (some v)
theorem SR.ext {c : C} {J H J' H' : Hp} {σ : L2.St} {env : Ev} (h : SR c J H σ env) (e : Ext J H J' H') : SR c J' H' σ env :=
  ⟨h.hp.ext e, h.len, fun i x q => let ⟨v, q1, q2⟩ := h.at_ i x q; ⟨v, q1, q2.ext e⟩, h.sep⟩
/-- He: the heap when the expression began -/
def RR (c : C) (He J H : Hp) : R → V → Prop
  | .d x, v => Rep c.K J x v
  | .l .fresh xs, v => ∃ a vs, v = .ref a ∧ H a = some (.lst vs) ∧ J a = none ∧ He a = none ∧ Reps c.K J xs vs
  | .l .own xs, v => ∃ a vs, v = .ref a ∧ H a = some (.lst vs) ∧ J a = none ∧ c.H0 a = none ∧ Reps c.K J xs vs
  | .l .bor xs, v => ∃ a vs, v = .ref a ∧ SqL c.K c.H0 a vs ∧ Reps c.K J xs vs
theorem RR.ext {c : C} {He J H J' H' : Hp} (e : Ext J H J' H') : ∀ {x : R} {v : V}, RR c He J H x v → RR c He J' H' x v
  | .d x, v, h => Rep.mono e.j h
  | .l .fresh xs, v, ⟨a, vs, h1, h2, h3, h4, h5⟩ => ⟨a, vs, h1, e.h _ _ h2, e.frz a (by rw [h2]; intro z; cases z) h3, h4, Reps.mono e.j h5⟩
  | .l .own xs, v, ⟨a, vs, h1, h2, h3, h4, h5⟩ => ⟨a, vs, h1, e.h _ _ h2, e.frz a (by rw [h2]; intro z; cases z) h3, h4, Reps.mono e.j h5⟩
  | .l .bor xs, v, ⟨a, vs, h1, h2, h3⟩ => ⟨a, vs, h1, h2, Reps.mono e.j h3⟩
/-- an earlier beginning -/
theorem RR.from {c : C} {He He' J H : Hp} (e : Same He He') : ∀ {x : R} {v : V}, RR c He' J H x v → RR c He J H x v
  | .d x, v, h => h
  | .l .fresh xs, v, ⟨a, vs, h1, h2, h3, h4, h5⟩ => ⟨a, vs, h1, h2, h3, e.free h4, h5⟩
  | .l .own xs, v, h => h
  | .l .bor xs, v, h => h
def asL : R → M (List D)
  | .d (.lst xs) => .ok xs
  | .l _ xs => .ok xs
  | _ => .bad
def toD : R → M D
  | .d x => .ok x
  | .l .fresh xs => .ok (.lst xs)
  | _ => .bad
theorem RR.list {c : C} {He J H : Hp} (hp : HI c J H) : ∀ {r : R} {v : V} {xs : List D}, RR c He J H r v → asL r = .ok xs → ∃ a vs, v = .ref a ∧ SqL c.K H a vs ∧ Reps c.K J xs vs
  | .d (.lst ys), v, xs, h, e => by
    cases e
    cases h with
    | lst h hs => exact ⟨_, _, rfl, hp.sub.seq h, hs⟩
  | .l .fresh ys, v, xs, ⟨a, vs, h1, h2, h3, h4, h5⟩, e => by cases e; exact ⟨a, vs, h1, SqL.of h2, h5⟩
  | .l .own ys, v, xs, ⟨a, vs, h1, h2, h3, h4, h5⟩, e => by cases e; exact ⟨a, vs, h1, SqL.of h2, h5⟩
  | .l .bor ys, v, xs, ⟨a, vs, h1, h2, h3⟩, e => by cases e; exact ⟨a, vs, h1, hp.ent.seq h2, h3⟩
  | .d .non, _, _, _, e => nomatch e
  | .d (.bl _), _, _, _, e => nomatch e
  | .d (.int _), _, _, _, e => nomatch e
  | .d (.str _), _, _, _, e => nomatch e
  | .d (.tup _), _, _, _, e => nomatch e
  | .d .emp, _, _, _, e => nomatch e
/-- a value that is put away never changes any more -/
theorem freeze {c : C} {Je He J H : Hp} (x : Ext Je He J H) : ∀ {r : R} {v : V} {d : D}, RR c He J H r v → toD r = .ok d → ∃ J', Ext Je He J' H ∧ Same J J' ∧ Rep c.K J' d v
  | .d y, v, d, h, e => by cases e; exact ⟨J, x, Same.refl J, h⟩
  | .l .fresh ys, v, d, ⟨a, vs, h1, h2, h3, h4, h5⟩, e => by
    cases e
    subst h1
    have s1 : Same J (upd J a (.lst vs)) := same_new h3 _
    refine ⟨upd J a (.lst vs), ⟨x.h, x.j.trans s1, fun b u q => ?_, fun b hb q => ?_⟩, s1, .lst (.inl (.inl upd_same)) (Reps.mono s1 h5)⟩
    · by_cases hb : b = a
      · subst hb; rw [upd_same] at q; cases q; exact h2
      · rw [upd_ne hb] at q; exact x.sub b u q
    · have : b ≠ a := fun z => hb (z ▸ h4)
      rw [upd_ne this]; exact x.frz b hb q
  | .l .own _, _, _, _, e => nomatch e
  | .l .bor _, _, _, _, e => nomatch e
/-! ### the judgements -/
abbrev G (α : Type) := Ev → M α
def tD (c : C) (g : G R) : TE := fun σ H Q => ∃ J env, SR c J H σ env ∧ wpM (g env) (fun r => ∀ v J' H', Ext J H J' H' → RR c H J' H' r v → Q v H') c.T
def PD (X : Cx) (c : C) (e : Expr) (g : G R) : Prop := PE X e (tD c g)
def tB (c : C) (g : G Bool) : TT := fun σ H Q => ∃ J env, SR c J H σ env ∧ wpM (g env) (fun b => ∀ J' H', Ext J H J' H' → Q b H') c.T
def PB (X : Cx) (c : C) (e : Expr) (g : G Bool) : Prop := PT X e (tB c g)
/-- an argument list; each is put away as it comes (Ds), or kept as it is -/
def RRs (c : C) (He J H : Hp) : List R → List V → Prop
  | [], vs => vs = []
  | r :: rs, vs => ∃ v us, vs = v :: us ∧ RR c He J H r v ∧ RRs c He J H rs us
def tA (c : C) (g : G (List R)) : TA := fun σ H Q => ∃ J env, SR c J H σ env ∧ wpM (g env) (fun rs => ∀ vs J' H', Ext J H J' H' → RRs c H J' H' rs vs → Q vs H') c.T
def PAr (X : Cx) (c : C) (es : List Expr) (g : G (List R)) : Prop := PA X es (tA c g)
def tAD (c : C) (g : G (List D)) : TA := fun σ H Q => ∃ J env, SR c J H σ env ∧ wpM (g env) (fun ds => ∀ vs J' H', Ext J H J' H' → Reps c.K J' ds vs → Q vs H') c.T
def PAd (X : Cx) (c : C) (es : List Expr) (g : G (List D)) : Prop := PA X es (tAD c g)
/-- a statement's end -/
inductive O where
  | nx (e : Ev) | rt (r : R) | bk (e : Ev) | ct (e : Ev)
def RF (c : C) (J H : Hp) : R → V → Prop
  | .d x, v => Rep c.K J x v
  | .l _ xs, v => ∃ a vs, v = .ref a ∧ H a = some (.lst vs) ∧ J a = none ∧ c.H0 a = none ∧ Reps c.K J xs vs
def oP (c : C) (J : Hp) (E : Ends) : O → Prop
  | .nx e => ∀ σ' J' H', Same J J' → SR c J' H' σ' e → E.nx σ' H'
  | .rt r => ∀ v J' H', Same J J' → HI c J' H' → RF c J' H' r v → E.rt v H'
  | .bk e => ∀ σ' J' H', Same J J' → SR c J' H' σ' e → E.bk σ' H'
  | .ct e => ∀ σ' J' H', Same J J' → SR c J' H' σ' e → E.ct σ' H'
def tS (c : C) (g : G O) : TS := fun E σ H => ∃ J env, SR c J H σ env ∧ wpM (g env) (oP c J E) c.T
def PD1 (X : Cx) (c : C) (st : Stmt) (g : G O) : Prop := PS X st (tS c g)
def PDs (X : Cx) (c : C) (st : List Stmt) (g : G O) : Prop := PSs X st (tS c g)
theorem oP.mono {c : C} {J J1 : Hp} {E : Ends} (e : Same J J1) : ∀ {o : O}, oP c J E o → oP c J1 E o
  | .nx _, h => fun σ' J' H' q r => h σ' J' H' (e.trans q) r
  | .rt _, h => fun σ' J' H' q r => h σ' J' H' (e.trans q) r
  | .bk _, h => fun σ' J' H' q r => h σ' J' H' (e.trans q) r
  | .ct _, h => fun σ' J' H' q r => h σ' J' H' (e.trans q) r
theorem peImp {X : Cx} {e : Expr} {t t' : TE} (h : PE X e t) (k : ∀ σ H Q, t' σ H Q → t σ H Q) : PE X e t' := fun pins s σ H Q I q => h pins s σ H Q I (k σ H Q q)
theorem ptImp {X : Cx} {e : Expr} {t t' : TT} (h : PT X e t) (k : ∀ σ H Q, t' σ H Q → t σ H Q) : PT X e t' := fun pins s σ H Q I q => h pins s σ H Q I (k σ H Q q)
theorem paImp {X : Cx} {es : List Expr} {t t' : TA} (h : PA X es t) (k : ∀ σ H Q, t' σ H Q → t σ H Q) : PA X es t' := fun pos pins s σ H Q I q => h pos pins s σ H Q I (k σ H Q q)
theorem psImp {X : Cx} {st : Stmt} {t t' : TS} (h : PS X st t) (k : ∀ D σ H, t' D σ H → t D σ H) : PS X st t' := fun pins s σ H D I q => h pins s σ H D I (k D σ H q)
theorem pssImp {X : Cx} {st : List Stmt} {t t' : TS} (h : PSs X st t) (k : ∀ D σ H, t' D σ H → t D σ H) : PSs X st t' := fun pins s σ H D I q => h pins s σ H D I (k D σ H q)
end DL
set_option Elab.async false
set_option linter.all false
set_option maxRecDepth 100000
set_option maxHeartbeats 4000000
namespace DL
open PySem PySem.Spec PyProof.Rows L2
section
variable {X : Cx} {c : C} {e a b : Expr} {ga gb : G R} {pos : Pos}
/-! ### names, constants -/
def S.rd : S → R
  | .d x => .d x
  | .own xs => .l .own xs
  | .bor xs => .l .bor xs
def gVar (i : Nat) : G R := fun env => match env[i]? with
  | some (some x) => .ok x.rd
  | _ => .bad
theorem SRep.rd {He J H : Hp} : ∀ {x : S} {v : V}, SRep c J H x v → RR c He J H x.rd v
  | .d _, _, h => h
  | .own _, _, h => h
  | .bor _, _, h => h
theorem pd_name {x : Str} {i : Nat} (h : PE X (.Name x pos) (tVar i)) : PD X c (.Name x pos) (gVar i) := peImp h fun σ H Q ⟨J, env, sr, w⟩ => by
  unfold gVar at w
  cases q : env[i]? with
  | none => rw [q] at w; exact w.elim
  | some o =>
    cases o with
    | none => rw [q] at w; exact w.elim
    | some x =>
      rw [q] at w
      obtain ⟨v, h1, h2⟩ := sr.at_ i x q
      exact ⟨v, h1, w v J H (Ext.refl sr.hp.sub) h2.rd⟩
theorem pd_var (i : Nat) {x : Str} (hN : X.N[i]? = some x := by rfl) (hv : Vis X.env.scope x := by first | exact Or.inl rfl | exact Or.inr (Or.inl rfl) | exact Or.inr (Or.inr rfl)) (hd : (x == ("__debug__" : Str)) = false := by decide)
    (hcd : (x == ("__classdict__" : Str)) = false := by decide) : PD X c (.Name x pos) (gVar i) := pd_name (pe_var hN hv hd hcd)
def gC (d : D) : G R := fun _ => .ok (.d d)
theorem pd_tC {d : D} {v : V} (hr : ∀ J, Rep c.K J d v) (h : PE X e (tC v)) : PD X c e (gC d) := peImp h fun σ H Q ⟨J, env, sr, w⟩ => w v J H (Ext.refl sr.hp.sub) (hr J)
theorem pd_int {i : Int} {j : Nat} : PD X c (.Constant (.int i) j pos) (gC (.int i)) := pd_tC (fun _ => .int i) pe_int
theorem pd_bl {i : Bool} {j : Nat} : PD X c (.Constant (.bool i) j pos) (gC (.bl i)) := pd_tC (fun _ => .bl i) pe_bl
theorem pd_non {j : Nat} : PD X c (.Constant .none j pos) (gC .non) := pd_tC (fun _ => .non) pe_non
theorem pd_str {x : Str} {j : Nat} : PD X c (.Constant (.str x) j pos) (gC (.str x)) := pd_tC (fun _ => .str x) pe_str
/-! ### an operation upon two values -/
def BD (c : C) (r : R2) (f : R → R → M R) : Prop := ∀ (He He' J H : Hp) (x y : R) (u v : V) (Q : VK), HI c J H → RR c He J H x u → RR c He' J H y v →
  wpM (f x y) (fun z => ∀ w J' H', Ext J H J' H' → RR c H J' H' z w → Q w H') c.T → r u v H Q
def g2 (f : R → R → M R) (ga gb : G R) : G R := fun env => ga env >>= fun x => gb env >>= fun y => f x y
/-- both sides, then what follows -/
theorem two {P : R → R → M R} {σ : L2.St} {H : Hp} {k : V → V → Hp → Prop} {Q : VK} {J : Hp} {env : Ev} (sr : SR c J H σ env)
    (w : wpM (g2 P ga gb env) (fun r => ∀ v J' H', Ext J H J' H' → RR c H J' H' r v → Q v H') c.T)
    (hk : ∀ x y u v J2 H2, SR c J2 H2 σ env → Ext J H J2 H2 → RR c H J2 H2 x u → RR c H J2 H2 y v → wpM (P x y) (fun z => ∀ w J' H', Ext J2 H2 J' H' → RR c H2 J' H' z w → Q w H') c.T → k u v H2) :
    tD c ga σ H fun u H1 => tD c gb σ H1 fun v H2 => k u v H2 := by
  refine ⟨J, env, sr, wpM_mono (wpM_bind w) fun x wx u J1 H1 e1 r1 => ?_⟩
  have sr1 := sr.ext e1
  refine ⟨J1, env, sr1, wpM_mono (wpM_bind wx) fun y wy v J2 H2 e2 r2 => ?_⟩
  exact hk x y u v J2 H2 (sr1.ext e2) (e1.trans e2) (r1.ext e2) (RR.from e1.h r2) (wpM_mono wy fun z q w J' H' e3 r3 => q w J' H' ((e1.trans e2).trans e3) (RR.from (e1.h.trans e2.h) r3))
theorem pd_2 {t : TE} {r : R2} {f : R → R → M R} (ht : PE X e t) (heq : t = tOp r (tD c ga) (tD c gb)) (hf : BD c r f) : PD X c e (g2 f ga gb) := by
  subst heq
  exact peImp ht fun σ H Q ⟨J, env, sr, w⟩ => two (k := fun u v H2 => r u v H2 Q) sr w fun x y u v J2 H2 sr2 e2 r1 r2 q => hf H H J2 H2 x y u v Q sr2.hp r1 r2 q
theorem pd_op {op : Operator} {r : R2} {f : R → R → M R} (ho : OpR X (binaryOp op) r) (hf : BD c r f) (ha : PD X c a ga) (hb : PD X c b gb) : PD X c (.BinOp a op b pos) (g2 f ga gb) := pd_2 (pe_op ho ha hb) rfl hf
theorem pd_cmp {op : CmpOp} {r : R2} {f : R → R → M R} (ho : OpR X (compareOp op) r) (hf : BD c r f) (ha : PD X c a ga) (hb : PD X c b gb) (hm : behindInMarks op b = false := by first | exact nomark _ | rfl) : PD X c (.Compare a [op] [b] pos) (g2 f ga gb) := pd_2 (pe_cmpR ho ha hb hm) rfl hf
theorem pd_ix {r : R2} {f : R → R → M R} (ho : IxR X r) (hf : BD c r f) (ha : PD X c a ga) (hb : PD X c b gb) (hs : PlainIx b := by exact fun _ _ => rfl) : PD X c (.Subscript a b pos) (g2 f ga gb) := pd_2 (pe_ix ho ha hb hs) rfl hf
theorem BD.or {r r' : R2} {f f' : R → R → M R} (p : R → R → Bool) (h : BD c r f) (h' : BD c r' f') : BD c (fun x y H Q => r x y H Q ∨ r' x y H Q) (fun x y => if p x y then f x y else f' x y) := by
  intro He He' J H x y u v Q hp rx ry w
  simp only at w
  cases q : p x y with
  | true => rw [q] at w; exact .inl (h He He' J H x y u v Q hp rx ry w)
  | false => rw [q] at w; exact .inr (h' He He' J H x y u v Q hp rx ry w)
/-! ints -/
def fI (C : Int → Int → Bool) (f : Int → Int → D) : R → R → M R
  | .d (.int i), .d (.int j) => if C i j then .ok (.d (f i j)) else .bad
  | _, _ => .bad
def fI0 (f : Int → Int → D) : R → R → M R
  | .d (.int i), .d (.int j) => .ok (.d (f i j))
  | _, _ => .bad
theorem bd_I {P : Int → Int → Prop} {Cb : Int → Int → Bool} {g : Int → Int → V} {f : Int → Int → D} (hC : ∀ i j, Cb i j = true → P i j) (hr : ∀ i j J, Rep c.K J (f i j) (g i j)) : BD c (rI P g) (fI Cb f) := by
  intro He He' J H x y u v Q hp rx ry w
  unfold fI at w
  split at w
  · cases rx; cases ry
    rename_i i j
    cases q : Cb i j with
    | true => rw [q] at w; exact ⟨i, j, rfl, rfl, hC i j q, w _ J H (Ext.refl hp.sub) (hr i j J)⟩
    | false => rw [q] at w; exact w.elim
  · exact w.elim
theorem bd_I0 {g : Int → Int → V} {f : Int → Int → D} (hr : ∀ i j J, Rep c.K J (f i j) (g i j)) : BD c (rI0 g) (fI0 f) := by
  intro He He' J H x y u v Q hp rx ry w
  unfold fI0 at w
  split at w
  · cases rx; cases ry
    rename_i i j
    exact ⟨i, j, rfl, rfl, w _ J H (Ext.refl hp.sub) (hr i j J)⟩
  · exact w.elim
/-! the bounds are told by natural numbers: a kernel that looks at them with a letter within stops at once -/
def below (n : Nat) (j : Int) : Bool := Nat.blt j.natAbs n
theorem below_iff {n : Nat} {j : Int} : below n j = true ↔ -(n : Int) < j ∧ j < n := by
  unfold below
  rw [Nat.blt_eq]
  omega
def kDiv (_ j : Int) : Bool := decide (0 < j) && below 1073741824 j
def kPos (_ j : Int) : Bool := decide (0 < j)
def kMul (i j : Int) : Bool := below 18446744073709551616 i || below 18446744073709551616 j
theorem kMul_ok {i j : Int} (h : kMul i j = true) : (-(2 ^ 64) < i ∧ i < 2 ^ 64) ∨ (-(2 ^ 64) < j ∧ j < 2 ^ 64) := by
  unfold kMul at h
  rw [Bool.or_eq_true] at h
  exact h.imp below_iff.mp below_iff.mp
theorem kDiv_ok {i j : Int} (h : kDiv i j = true) : 0 < j ∧ j < 1073741824 := by
  unfold kDiv at h
  rw [Bool.and_eq_true] at h
  exact ⟨of_decide_eq_true h.1, (below_iff.mp h.2).2⟩
def kPow (i j : Int) : Bool := decide (0 ≤ j) && below 1000001 j && below 18446744073709551616 i
theorem kPow_ok {i j : Int} (h : kPow i j = true) : 0 ≤ j ∧ j ≤ 1000000 ∧ i.natAbs < 2 ^ 64 := by
  unfold kPow at h
  rw [Bool.and_eq_true, Bool.and_eq_true] at h
  have h2 := below_iff.mp h.1.2
  have h3 := below_iff.mp h.2
  exact ⟨of_decide_eq_true h.1.1, by omega, by omega⟩
abbrev fAdd : R → R → M R := fI0 fun i j => .int (i + j)
abbrev fSub : R → R → M R := fI0 fun i j => .int (i - j)
abbrev fMul : R → R → M R := fI kMul fun i j => .int (i * j)
abbrev fDiv : R → R → M R := fI kDiv fun i j => .int (i / j)
abbrev fMod : R → R → M R := fI kPos fun i j => .int (i % j)
abbrev fPow : R → R → M R := fI kPow fun i j => .int (i ^ j.toNat)
theorem pd_sub (ha : PD X c a ga) (hb : PD X c b gb) : PD X c (.BinOp a .Sub b pos) (g2 fSub ga gb) := pd_op op_sub (bd_I0 fun _ _ _ => .int _) ha hb
theorem pd_div (ha : PD X c a ga) (hb : PD X c b gb) : PD X c (.BinOp a .FloorDiv b pos) (g2 fDiv ga gb) := pd_op op_fdiv (bd_I (fun i j h => kDiv_ok h) fun _ _ _ => .int _) ha hb
theorem pd_mod (ha : PD X c a ga) (hb : PD X c b gb) : PD X c (.BinOp a .Mod b pos) (g2 fMod ga gb) := pd_op op_mod (bd_I (fun i j h => by unfold kPos at h; exact of_decide_eq_true h) fun _ _ _ => .int _) ha hb
theorem pd_pow (ha : PD X c a ga) (hb : PD X c b gb) : PD X c (.BinOp a .Pow b pos) (g2 fPow ga gb) := pd_op op_pow (bd_I (fun i j h => kPow_ok h) fun _ _ _ => .int _) ha hb
theorem pd_le (ha : PD X c a ga) (hb : PD X c b gb) : PD X c (.Compare a [.LtE] [b] pos) (g2 (fI0 fun i j => .bl (decide (i ≤ j))) ga gb) := pd_cmp op_le (bd_I0 fun _ _ _ => .bl _) ha hb
/-! texts -/
def fAddS : R → R → M R
  | .d (.str i), .d (.str j) => if i.length + j.length ≤ sizeLine then .ok (.d (.str (i ++ j))) else .bad
  | _, _ => .bad
/-! items of lists, tuples -/
theorem reps_at {K : PySem.W.Frag} {J : Hp} {ds : List D} {vs : List V} {i : Int} {d : D} (h : Reps K J ds vs) (e : atI ds i = some d) : ∃ v, atI vs i = some v ∧ Rep K J d v := by
  unfold atI at e ⊢
  rw [h.length] at e
  cases q : ixN vs.length i with
  | none => rw [q] at e; cases e
  | some j => rw [q] at e; exact h.get e
theorem wpM_asL {x : R} {f : List D → M R} {Q : R → Prop} {T : Exc → Prop} (w : wpM (asL x >>= f) Q T) : ∃ xs, asL x = .ok xs ∧ wpM (f xs) Q T := by
  cases q : asL x with
  | bad => rw [q] at w; exact w.elim
  | ok xs => rw [q] at w; exact ⟨xs, rfl, w⟩
  | exc z => unfold asL at q; split at q <;> cases q
/-- lists joined: both made here -/
def isMade : R → Bool
  | .l .fresh _ => true
  | .l .own _ => true
  | _ => false
def fCatL (x y : R) : M R := if isMade x && isMade y then asL x >>= fun xs => asL y >>= fun ys => if xs.length + ys.length ≤ sizeLine then .ok (.l .fresh (xs ++ ys)) else .bad else .bad
theorem RR.made {He J H : Hp} : ∀ {r : R} {v : V}, isMade r = true → RR c He J H r v → ∃ a vs xs, asL r = .ok xs ∧ v = .ref a ∧ H a = some (.lst vs) ∧ Reps c.K J xs vs
  | .l .fresh xs, v, _, ⟨a, vs, h1, h2, h3, h4, h5⟩ => ⟨a, vs, xs, rfl, h1, h2, h5⟩
  | .l .own xs, v, _, ⟨a, vs, h1, h2, h3, h4, h5⟩ => ⟨a, vs, xs, rfl, h1, h2, h5⟩
  | .l .bor _, _, e, _ => nomatch e
  | .d _, _, e, _ => nomatch e
/-- a new list, of data -/
theorem rr_new {J H : Hp} {xs : List D} {vs : List V} {p : Addr} (hp : HI c J H) (e : H p = none) (h : Reps c.K J xs vs) : RR c H J (upd H p (.lst vs)) (.l .fresh xs) (.ref p) :=
  ⟨p, vs, rfl, upd_same, hp.sub.free e, e, h⟩
/-! ### a call of a built-in with values -/
def CD (c : C) (r : List V → Hp → VK → Prop) (f : List R → M R) : Prop := ∀ (He J H : Hp) (xs : List R) (vs : List V) (Q : VK), HI c J H → RRs c He J H xs vs →
  wpM (f xs) (fun z => ∀ w J' H', Ext J H J' H' → RR c H J' H' z w → Q w H') c.T → r vs H Q
def gN (f : List R → M R) (gs : G (List R)) : G R := fun env => gs env >>= f
theorem pd_N {t : TE} {ta : TA} {r : List V → Hp → VK → Prop} {f : List R → M R} {gs : G (List R)} (ht : PE X e t) (heq : t = fun σ H Q => tA c gs σ H fun vs H1 => r vs H1 Q) (hf : CD c r f) : PD X c e (gN f gs) := by
  subst heq
  refine peImp ht fun σ H Q ⟨J, env, sr, w⟩ => ⟨J, env, sr, wpM_mono (wpM_bind w) fun rs w vs J1 H1 e1 r1 => ?_⟩
  exact hf H J1 H1 rs vs Q (sr.hp.ext e1) r1 (wpM_mono w fun z q v J' H' e2 r2 => q v J' H' (e1.trans e2) (RR.from e1.h r2))
def gNil : G (List R) := fun _ => .ok []
def gCons (g : G R) (gs : G (List R)) : G (List R) := fun env => g env >>= fun x => gs env >>= fun xs => .ok (x :: xs)
theorem pa_nil' : PAr X c [] gNil := paImp pa_nil fun σ H Q ⟨J, env, sr, w⟩ => w [] J H (Ext.refl sr.hp.sub) rfl
theorem RRs.from {He He' J H : Hp} (e : Same He He') : ∀ {xs : List R} {vs : List V}, RRs c He' J H xs vs → RRs c He J H xs vs
  | [], _, h => h
  | _ :: _, _, ⟨v, us, h1, h2, h3⟩ => ⟨v, us, h1, RR.from e h2, RRs.from e h3⟩
theorem pa_cons' {es : List Expr} {g : G R} {gs : G (List R)} (h : PD X c e g) (hs : PAr X c es gs) (hst : starEach (e :: es) X.env = (false, eval e X.env) :: starEach es X.env := by rfl) : PAr X c (e :: es) (gCons g gs) :=
  paImp (pa_cons h hs hst) fun σ H Q ⟨J, env, sr, w⟩ => by
    refine ⟨J, env, sr, wpM_mono (wpM_bind w) fun x wx u J1 H1 e1 r1 => ?_⟩
    refine ⟨J1, env, sr.ext e1, wpM_mono (wpM_bind wx) fun xs wy us J2 H2 e2 r2 => ?_⟩
    exact wy (u :: us) J2 H2 (e1.trans e2) ⟨u, us, rfl, r1.ext e2, RRs.from e1.h r2⟩
theorem pd_callB {id : String} {x : Str} {p : Pos} {es : List Expr} {r : List V → Hp → VK → Prop} {f : List R → M R} {gs : G (List R)} (hc : CallR X (.builtin id) r) (hf : CD c r f) (hv : bootBuiltins x = some (.builtin id)) (hm : X.mg x = none) (ha : PAr X c (e :: es) gs)
    (hg : Gl X x := by rfl) (hn : x ≠ "__name__" := by decide) (hdb : (x == ("__debug__" : Str)) = false := by decide)
    (he : starEach (e :: es) X.env = (false, eval e X.env) :: starEach es X.env := by rfl) (hpl : (backTo pos (starEach es X.env)).any (·.1) = false := by rfl) : PD X c (.Call (.Name x p) (e :: es) [] pos) (gN f gs) :=
  pd_N (ta := tNil) (pe_callB hc hg hm hv ha hn hdb he hpl) rfl hf
theorem pd_callTy {T : String} {x : Str} {p : Pos} {es : List Expr} {r : List V → Hp → VK → Prop} {f : List R → M R} {gs : G (List R)} (hc : CallR X (.type T) r) (hf : CD c r f) (hv : bootBuiltins x = some (.type T)) (hm : X.mg x = none) (ha : PAr X c (e :: es) gs)
    (hg : Gl X x := by rfl) (hn : x ≠ "__name__" := by decide) (hdb : (x == ("__debug__" : Str)) = false := by decide)
    (he : starEach (e :: es) X.env = (false, eval e X.env) :: starEach es X.env := by rfl) (hpl : (backTo pos (starEach es X.env)).any (·.1) = false := by rfl) : PD X c (.Call (.Name x p) (e :: es) [] pos) (gN f gs) :=
  pd_N (ta := tNil) (pe_callTy hc hg hm hv ha hn hdb he hpl) rfl hf
end
end DL
set_option Elab.async false
set_option linter.all false
set_option maxRecDepth 100000
set_option maxHeartbeats 4000000
namespace DL
open PySem PySem.Spec PyProof.Rows L2
section
variable {X : Cx} {c : C} {e a b : Expr} {es : List Expr} {ga gb g : G R} {pos : Pos}
/-! ### displays -/
def gDNil : G (List D) := fun _ => .ok []
def gDCons (g : G R) (gs : G (List D)) : G (List D) := fun env => g env >>= fun x => toD x >>= fun d => gs env >>= fun ds => .ok (d :: ds)
theorem pad_nil : PAd X c [] gDNil := paImp pa_nil fun σ H Q ⟨J, env, sr, w⟩ => w [] J H (Ext.refl sr.hp.sub) .nil
theorem wpM_toD {α : Type} {x : R} {f : D → M α} {Q : α → Prop} {T : Exc → Prop} (w : wpM (toD x >>= f) Q T) : ∃ d, toD x = .ok d ∧ wpM (f d) Q T := by
  cases q : toD x with
  | bad => rw [q] at w; exact w.elim
  | ok xs => rw [q] at w; exact ⟨xs, rfl, w⟩
  | exc z => unfold toD at q; split at q <;> cases q
theorem pad_cons {gs : G (List D)} (h : PD X c e g) (hs : PAd X c es gs) (hst : starEach (e :: es) X.env = (false, eval e X.env) :: starEach es X.env := by rfl) : PAd X c (e :: es) (gDCons g gs) :=
  paImp (pa_cons h hs hst) fun σ H Q ⟨J, env, sr, w⟩ => by
    refine ⟨J, env, sr, wpM_mono (wpM_bind w) fun x wx u J1 H1 e1 r1 => ?_⟩
    obtain ⟨d, q, wx⟩ := wpM_toD wx
    obtain ⟨J1', e1', s1, rd⟩ := freeze e1 r1 q
    refine ⟨J1', env, sr.ext e1', wpM_mono (wpM_bind wx) fun xs wy us J2 H2 e2 r2 => ?_⟩
    exact wy (u :: us) J2 H2 (e1'.trans e2) (.cons (rd.mono e2.j) r2)
def gTup (gs : G (List D)) : G R := fun env => gs env >>= fun ds => if ds.length ≤ sizeLine then .ok (.d (.tup ds)) else .bad
def gLst (gs : G (List D)) : G R := fun env => gs env >>= fun ds => if ds.length ≤ sizeLine then .ok (.l .fresh ds) else .bad
/-- a new tuple, of data -/
theorem rr_tup {J H : Hp} {xs : List D} {vs : List V} {p : Addr} (hp : HI c J H) (e : H p = none) (h : Reps c.K J xs vs) : Rep c.K (upd J p (.tup vs)) (.tup xs) (.ref p) :=
  .tup (.inl (.inl upd_same)) (h.mono (same_new (hp.sub.free e) _))
theorem pd_tup {k} {gs : G (List D)} (h : PAd X c es gs) : PD X c (.Tuple es k pos) (gTup gs) := peImp (pe_tup h) fun σ H Q ⟨J, env, sr, w⟩ => by
  refine ⟨J, env, sr, wpM_mono (wpM_bind w) fun ds wd vs J1 H1 e1 r1 => ?_⟩
  split at wd
  · rename_i hz
    rw [r1.length] at hz
    exact ⟨hz, fun p hp => wd _ _ _ (e1.trans (Ext.newJ e1.sub hp _)) (rr_tup (sr.hp.ext e1) hp r1)⟩
  · exact wd.elim
theorem pd_lst {gs : G (List D)} (h : PAd X c es gs) : PD X c (.List es pos) (gLst gs) := peImp (pe_lst h) fun σ H Q ⟨J, env, sr, w⟩ => by
  refine ⟨J, env, sr, wpM_mono (wpM_bind w) fun ds wd vs J1 H1 e1 r1 => ?_⟩
  split at wd
  · rename_i hz
    rw [r1.length] at hz
    exact ⟨hz, fun p hp => wd _ _ _ (e1.trans (Ext.new e1.sub hp _)) (RR.from e1.h (rr_new (sr.hp.ext e1) hp r1))⟩
  · exact wd.elim
/-! ### len, tuple, list -/
def asQ : R → M (List D)
  | .d (.tup xs) => .ok xs
  | .d (.lst xs) => .ok xs
  | .l _ xs => .ok xs
  | _ => .bad
theorem asQ_seq {He J H : Hp} (hp : HI c J H) : ∀ {r : R} {v : V} {xs : List D}, RR c He J H r v → asQ r = .ok xs → ∃ a vs, v = .ref a ∧ (SqL c.K H a vs ∨ SqT c.K H a vs) ∧ Reps c.K J xs vs
  | .d (.tup ys), v, xs, h, e => by
    cases e
    cases h with
    | tup h hs => exact ⟨_, _, rfl, .inr (sameT hp.sub h), hs⟩
  | .d (.lst ys), v, xs, h, e => let ⟨a, vs, h1, h2, h3⟩ := RR.list hp h e; ⟨a, vs, h1, .inl h2, h3⟩
  | .l m ys, v, xs, h, e => let ⟨a, vs, h1, h2, h3⟩ := RR.list hp h e; ⟨a, vs, h1, .inl h2, h3⟩
  | .d .non, _, _, _, e => nomatch e
  | .d (.bl _), _, _, _, e => nomatch e
  | .d (.int _), _, _, _, e => nomatch e
  | .d (.str _), _, _, _, e => nomatch e
  | .d .emp, _, _, _, e => nomatch e
theorem wpM_asQ {α : Type} {x : R} {f : List D → M α} {Q : α → Prop} {T : Exc → Prop} (w : wpM (asQ x >>= f) Q T) : ∃ xs, asQ x = .ok xs ∧ wpM (f xs) Q T := by
  cases q : asQ x with
  | bad => rw [q] at w; exact w.elim
  | ok xs => rw [q] at w; exact ⟨xs, rfl, w⟩
  | exc z => unfold asQ at q; split at q <;> cases q
def fLen : List R → M R
  | [.d (.str z)] => if z.length ≤ sizeLine then .ok (.d (.int z.length)) else .bad
  | [r] => asQ r >>= fun xs => .ok (.d (.int xs.length))
  | _ => .bad
theorem RRs.one {He J H : Hp} {r : R} {vs : List V} (h : RRs c He J H [r] vs) : ∃ v, vs = [v] ∧ RR c He J H r v := by
  obtain ⟨v, us, rfl, h1, h2⟩ := h
  cases h2
  exact ⟨v, rfl, h1⟩
theorem RRs.two {He J H : Hp} {r r' : R} {vs : List V} (h : RRs c He J H [r, r'] vs) : ∃ v v', vs = [v, v'] ∧ RR c He J H r v ∧ RR c He J H r' v' := by
  obtain ⟨v, us, rfl, h1, v2, us2, rfl, h2, h3⟩ := h
  cases h3
  exact ⟨v, v2, rfl, h1, h2⟩
theorem pd_len {p : Pos} {gs : G (List R)} (ha : PAr X c (e :: es) gs) (hm : X.mg "len" = none) (hK : X.K = c.K := by rfl) (hg : Gl X "len" := by rfl)
    (he : starEach (e :: es) X.env = (false, eval e X.env) :: starEach es X.env := by rfl) (hpl : (backTo pos (starEach es X.env)).any (·.1) = false := by rfl) : PD X c (.Call (.Name "len" p) (e :: es) [] pos) (gN fLen gs) :=
  pd_callB (call_len_str.or call_len_seq) (by
    intro He J H xs vs Q hp rs w
    unfold fLen at w
    split at w
    · obtain ⟨v, rfl, r⟩ := rs.one
      cases r
      split at w
      · rename_i hz; exact .inl ⟨_, rfl, hz, w _ J H (Ext.refl hp.sub) (.int _)⟩
      · exact w.elim
    · obtain ⟨v, rfl, r⟩ := rs.one
      obtain ⟨xs, q, w⟩ := wpM_asQ w
      obtain ⟨p, vs, rfl, hq, hs⟩ := asQ_seq hp r q
      have w' := w (.int vs.length) J H (Ext.refl hp.sub) (by rw [hs.length]; exact .int _)
      exact .inr ⟨p, vs, rfl, by rw [hK]; exact hq, w'⟩
    · exact w.elim) PySem.boot_len hm ha hg (by decide) (by decide) he hpl
def fTuple : List R → M R
  | [r] => asQ r >>= fun xs => .ok (.d (.tup xs))
  | _ => .bad
theorem boot_tuple' : bootBuiltins "tuple" = some (.type "tuple") := by decide +kernel
theorem boot_list' : bootBuiltins "list" = some (.type "list") := by decide +kernel
theorem pd_tuple {p : Pos} {gs : G (List R)} (ha : PAr X c (e :: es) gs) (hm : X.mg "tuple" = none) (hK : X.K = c.K := by rfl) (hg : Gl X "tuple" := by rfl)
    (he : starEach (e :: es) X.env = (false, eval e X.env) :: starEach es X.env := by rfl) (hpl : (backTo pos (starEach es X.env)).any (·.1) = false := by rfl) : PD X c (.Call (.Name "tuple" p) (e :: es) [] pos) (gN fTuple gs) :=
  pd_callTy call_tuple_of (by
    intro He J H xs vs Q hp rs w
    unfold fTuple at w
    split at w
    · obtain ⟨v, rfl, r⟩ := rs.one
      rename_i r0
      obtain ⟨xs, q, w⟩ := wpM_asQ w
      cases r0 with
      | d y =>
        cases y with
        | tup ys =>
          cases q
          cases r with
          | tup h hs => exact ⟨_, _, rfl, .inr ⟨by rw [hK]; exact sameT hp.sub h, w _ J H (Ext.refl hp.sub) (.tup h hs)⟩⟩
        | lst ys =>
          cases q
          obtain ⟨p, vs, rfl, hq, hs⟩ := RR.list hp r rfl
          exact ⟨p, vs, rfl, .inl ⟨by rw [hK]; exact hq, fun l hl => w _ _ _ (Ext.newJ hp.sub hl _) (rr_tup hp hl hs)⟩⟩
        | _ => cases q
      | l m ys =>
        cases q
        obtain ⟨p, vs, rfl, hq, hs⟩ := RR.list hp r rfl
        exact ⟨p, vs, rfl, .inl ⟨by rw [hK]; exact hq, fun l hl => w _ _ _ (Ext.newJ hp.sub hl _) (rr_tup hp hl hs)⟩⟩
    · exact w.elim) boot_tuple' hm ha hg (by decide) (by decide) he hpl
def fList : List R → M R
  | [r] => asQ r >>= fun xs => .ok (.l .fresh xs)
  | _ => .bad
theorem pd_list {p : Pos} {gs : G (List R)} (ha : PAr X c (e :: es) gs) (hm : X.mg "list" = none) (hK : X.K = c.K := by rfl) (hg : Gl X "list" := by rfl)
    (he : starEach (e :: es) X.env = (false, eval e X.env) :: starEach es X.env := by rfl) (hpl : (backTo pos (starEach es X.env)).any (·.1) = false := by rfl) : PD X c (.Call (.Name "list" p) (e :: es) [] pos) (gN fList gs) :=
  pd_callTy call_list_of (by
    intro He J H xs vs Q hp rs w
    unfold fList at w
    split at w
    · obtain ⟨v, rfl, r⟩ := rs.one
      obtain ⟨xs, q, w⟩ := wpM_asQ w
      obtain ⟨p, vs, rfl, hq, hs⟩ := asQ_seq hp r q
      exact ⟨p, vs, rfl, by rw [hK]; exact hq, fun l hl => w _ _ _ (Ext.new hp.sub hl _) (rr_new hp hl hs)⟩
    · exact w.elim) boot_list' hm ha hg (by decide) (by decide) he hpl
/-! ### truths -/
def gTr (g : G R) : G Bool := fun env => g env >>= fun r => match r with
  | .d (.bl k) => .ok k
  | _ => .bad
theorem pb_val (h : PD X c e g) (he : ∀ whole, isTrue e X.env whole = (do let v ← whole; standAt e.pos; holding [v] (truthy v)) := by intro _; rfl) : PB X c e (gTr g) := ptImp (pt_val h he) fun σ H Q ⟨J, env, sr, w⟩ => by
  refine ⟨J, env, sr, wpM_mono (wpM_bind w) fun r wr v J1 H1 e1 r1 => ?_⟩
  split at wr
  · cases r1; exact ⟨_, rfl, wr J1 H1 e1⟩
  · exact wr.elim
/-- a test by an operation (a comparison) -/
theorem pb_cmp {op : CmpOp} {r : R2} {f : R → R → M R} (ho : OpR X (compareOp op) r) (hf : BD c r f) (ha : PD X c a ga) (hb : PD X c b gb) (hm : behindInMarks op b = false := by first | exact nomark _ | rfl) : PB X c (.Compare a [op] [b] pos) (gTr (g2 f ga gb)) :=
  ptImp (pt_cmpR ho ha hb hm) fun σ H Q ⟨J, env, sr, w⟩ => by
    have w2 := wpM_bind w
    refine two (k := fun u v H2 => r u v H2 fun z H3 => ∃ k, z = .bl k ∧ Q k H3) (Q := fun z H3 => ∃ k, z = .bl k ∧ Q k H3) sr (wpM_mono w2 fun r0 wr v J1 H1 e1 r1 => ?_)
      fun x y u v J2 H2 sr2 e2 r1 r2 q => hf H H J2 H2 x y u v _ sr2.hp r1 r2 q
    split at wr
    · cases r1; exact ⟨_, rfl, wr J1 H1 e1⟩
    · exact wr.elim
def gAnd (g h : G Bool) : G Bool := fun env => g env >>= fun k => if k = true then h env else .ok false
def gOr (g h : G Bool) : G Bool := fun env => g env >>= fun k => if k = true then .ok true else h env
def gNot (g : G Bool) : G Bool := fun env => g env >>= fun k => .ok (!k)
def PBw (X : Cx) (c : C) (e : Expr) (g : G Bool) : Prop := PW X e (tB c g)
variable {t u : G Bool} {rest : List Expr}
theorem PBw.pb (h : PBw X c e t) : PB X c e t := PW.pt h
theorem pb_and1 (h : PB X c a t) : PBw X c (.BoolOp .And [a] pos) t := pw_and1 h
theorem pb_or1 (h : PB X c a t) : PBw X c (.BoolOp .Or [a] pos) t := pw_or1 h
theorem pwImp {X : Cx} {e : Expr} {t t' : TT} (h : PW X e t) (k : ∀ σ H Q, t' σ H Q → t σ H Q) : PW X e t' := fun wh pins s σ H Q I q => h wh pins s σ H Q I (k σ H Q q)
theorem pb_and (h : PB X c a t) (h' : PBw X c (.BoolOp .And (b :: rest) pos) u) : PBw X c (.BoolOp .And (a :: b :: rest) pos) (gAnd t u) := pwImp (pw_and h h') fun σ H Q ⟨J, env, sr, w⟩ => by
  refine ⟨J, env, sr, wpM_mono (wpM_bind w) fun k wk J1 H1 e1 => ?_⟩
  cases k with
  | true =>
    rw [if_pos rfl] at wk ⊢
    exact ⟨J1, env, sr.ext e1, wpM_mono wk fun k q J2 H2 e2 => q J2 H2 (e1.trans e2)⟩
  | false =>
    rw [if_neg (by decide)] at wk ⊢
    exact wk J1 H1 e1
theorem pb_or (h : PB X c a t) (h' : PBw X c (.BoolOp .Or (b :: rest) pos) u) : PBw X c (.BoolOp .Or (a :: b :: rest) pos) (gOr t u) := pwImp (pw_or h h') fun σ H Q ⟨J, env, sr, w⟩ => by
  refine ⟨J, env, sr, wpM_mono (wpM_bind w) fun k wk J1 H1 e1 => ?_⟩
  cases k with
  | true =>
    rw [if_pos rfl] at wk ⊢
    exact wk J1 H1 e1
  | false =>
    rw [if_neg (by decide)] at wk ⊢
    exact ⟨J1, env, sr.ext e1, wpM_mono wk fun k q J2 H2 e2 => q J2 H2 (e1.trans e2)⟩
theorem pb_not (h : PB X c a t) : PB X c (.UnaryOp .Not a pos) (gNot t) := ptImp (pt_not h) fun σ H Q ⟨J, env, sr, w⟩ => ⟨J, env, sr, wpM_mono (wpM_bind w) fun k wk J1 H1 e1 => wk J1 H1 e1⟩
/-- and, or, not as values -/
def gAndV (g h : G R) : G R := fun env => g env >>= fun r => match r with
  | .d (.bl true) => h env
  | .d (.bl false) => .ok (.d (.bl false))
  | _ => .bad
def gNotV (g : G R) : G R := fun env => g env >>= fun r => match r with
  | .d (.bl k) => .ok (.d (.bl (!k)))
  | _ => .bad
theorem pd_and1 {op} (h : PD X c a ga) : PD X c (.BoolOp op [a] pos) ga := pe_one h
theorem pd_and (h : PD X c a ga) (h' : PD X c (.BoolOp .And (b :: rest) pos) gb) : PD X c (.BoolOp .And (a :: b :: rest) pos) (gAndV ga gb) := peImp (pe_and h h') fun σ H Q ⟨J, env, sr, w⟩ => by
  refine ⟨J, env, sr, wpM_mono (wpM_bind w) fun r wr v J1 H1 e1 r1 => ?_⟩
  split at wr
  · cases r1
    exact ⟨true, rfl, iteT ⟨J1, env, sr.ext e1, wpM_mono wr fun z q v J2 H2 e2 r2 => q v J2 H2 (e1.trans e2) (RR.from e1.h r2)⟩⟩
  · cases r1
    exact ⟨false, rfl, iteF (wr _ J1 H1 e1 (.bl _))⟩
  · exact wr.elim
theorem pd_not (h : PD X c a ga) : PD X c (.UnaryOp .Not a pos) (gNotV ga) := peImp (pe_not h) fun σ H Q ⟨J, env, sr, w⟩ => by
  refine ⟨J, env, sr, wpM_mono (wpM_bind w) fun r wr v J1 H1 e1 r1 => ?_⟩
  split at wr
  · cases r1
    exact ⟨_, rfl, wr _ J1 H1 e1 (.bl _)⟩
  · exact wr.elim
end
end DL
set_option Elab.async false
set_option linter.all false
set_option maxRecDepth 100000
set_option maxHeartbeats 4000000
namespace DL
open PySem PySem.Spec PyProof.Rows L2
section
variable {X : Cx} {c : C} {e a b tg : Expr} {es : List Expr} {ga gb g : G R} {pos : Pos} {st : Stmt} {rest : List Stmt} {t u : G O} {tb : G Bool}
/-! ### statements -/
def gNx : G O := fun env => .ok (.nx env)
def gSeq (t u : G O) : G O := fun env => t env >>= fun o => match o with
  | .nx e => u e
  | o => .ok o
theorem pds_nil : PDs X c [] gNx := pssImp pss_nil fun E σ H ⟨J, env, sr, w⟩ => w σ J H (Same.refl J) sr
theorem pds_cons (h : PD1 X c st t) (h' : PDs X c rest u) : PDs X c (st :: rest) (gSeq t u) := pssImp (pss_cons h h') fun E σ H ⟨J, env, sr, w⟩ => by
  refine ⟨J, env, sr, wpM_mono (wpM_bind w) fun o wo => ?_⟩
  cases o with
  | nx e => exact fun σ' J' H' s' sr' => ⟨J', e, sr', wpM_mono wo fun o q => q.mono s'⟩
  | rt r => exact wo
  | bk e => exact wo
  | ct e => exact wo
theorem pds_one (h : PD1 X c st t) : PDs X c [st] t := pss_one h
def rF : R → M R
  | .d x => .ok (.d x)
  | .l .fresh xs => .ok (.l .fresh xs)
  | .l .own xs => .ok (.l .fresh xs)
  | .l .bor _ => .bad
def gRet (g : G R) : G O := fun env => g env >>= fun r => rF r >>= fun r => .ok (.rt r)
theorem RR.rf {J H J1 H1 : Hp} (hp : HI c J H) : ∀ {r r' : R} {v : V}, RR c H J1 H1 r v → rF r = .ok r' → RF c J1 H1 r' v
  | .d x, r', v, h, e => by cases e; exact h
  | .l .fresh xs, r', v, ⟨a, vs, h1, h2, h3, h4, h5⟩, e => by cases e; exact ⟨a, vs, h1, h2, h3, hp.ent.free h4, h5⟩
  | .l .own xs, r', v, ⟨a, vs, h1, h2, h3, h4, h5⟩, e => by cases e; exact ⟨a, vs, h1, h2, h3, h4, h5⟩
  | .l .bor _, _, _, _, e => nomatch e
theorem pd1_ret (h : PD X c e g) : PD1 X c (.Return (some e) pos) (gRet g) := psImp (ps_ret h) fun E σ H ⟨J, env, sr, w⟩ => by
  refine ⟨J, env, sr, wpM_mono (wpM_bind w) fun r wr v J1 H1 e1 r1 => ?_⟩
  cases q : rF r with
  | bad => rw [q] at wr; exact wr.elim
  | exc x => cases r with
    | d _ => cases q
    | l m _ => cases m <;> cases q
  | ok r' => rw [q] at wr; exact wr v J1 H1 e1.j (sr.hp.ext e1) (RR.rf sr.hp r1 q)
def gIfS (b : G Bool) (t u : G O) : G O := fun env => b env >>= fun k => if k = true then t env else u env
theorem pd1_if {x : Expr} {as bs : List Stmt} (hx : PB X c x tb) (h : PDs X c as t) (h' : PDs X c bs u) : PD1 X c (.If x as bs pos) (gIfS tb t u) := psImp (ps_if hx h h') fun E σ H ⟨J, env, sr, w⟩ => by
  refine ⟨J, env, sr, wpM_mono (wpM_bind w) fun k wk J1 H1 e1 => ?_⟩
  cases k with
  | true =>
    rw [if_pos rfl] at wk ⊢
    exact ⟨J1, env, sr.ext e1, wpM_mono wk fun o q => q.mono e1.j⟩
  | false =>
    rw [if_neg (by decide)] at wk ⊢
    exact ⟨J1, env, sr.ext e1, wpM_mono wk fun o q => q.mono e1.j⟩
/-! ### assignments -/
def toS : R → M S
  | .d x => .ok (.d x)
  | .l .fresh xs => .ok (.own xs)
  | .l .bor xs => .ok (.bor xs)
  | .l .own _ => .bad
theorem set_at {α : Type} {l : List (Option α)} {i j : Nat} {x y : α} (h : (l.set i (some x))[j]? = some (some y)) : (j = i ∧ i < l.length ∧ y = x) ∨ (j ≠ i ∧ l[j]? = some (some y)) := by
  by_cases e : j = i
  · subst e
    have hj : j < l.length := by
      have := (List.getElem?_eq_some_iff.mp h).1
      simpa using this
    rw [List.getElem?_set_self hj] at h
    cases h
    exact .inl ⟨rfl, hj, rfl⟩
  · rw [List.getElem?_set_ne (Ne.symm e)] at h
    exact .inr ⟨e, h⟩
/-- a slot given a value that is no list of its own -/
theorem SR.setD {J H : Hp} {σ : L2.St} {env : Ev} (sr : SR c J H σ env) {i : Nat} {x : S} {v : V} (h : SRep c J H x v) (hx : ∀ xs, x ≠ .own xs) : SR c J H (σ.set i (some v)) (env.set i (some x)) := by
  refine ⟨sr.hp, by simpa using sr.len, fun j y q => ?_, fun j k xs ys w hjk q1 q2 q3 q4 => ?_⟩
  · rcases set_at q with ⟨rfl, hl, rfl⟩ | ⟨hj, q⟩
    · exact ⟨v, by rw [List.getElem?_set_self (by rw [← sr.len]; exact hl)], h⟩
    · obtain ⟨w, h1, h2⟩ := sr.at_ j y q
      exact ⟨w, by rw [List.getElem?_set_ne (Ne.symm hj)]; exact h1, h2⟩
  · rcases set_at q1 with ⟨rfl, hl, e⟩ | ⟨hj, q1⟩
    · exact hx xs e.symm
    · rcases set_at q2 with ⟨rfl, hl, e⟩ | ⟨hk, q2⟩
      · exact hx ys e.symm
      · rw [List.getElem?_set_ne (Ne.symm hj)] at q3
        rw [List.getElem?_set_ne (Ne.symm hk)] at q4
        exact sr.sep j k xs ys w hjk q1 q2 q3 q4
/-- a slot given a value; He the heap ahead of it, where the state stood -/
theorem SR.set {J He : Hp} {σ : L2.St} {env : Ev} (sr : SR c J He σ env) {J1 H1 : Hp} (e1 : Ext J He J1 H1) {i : Nat} {r : R} {x : S} {v : V} (h : RR c He J1 H1 r v) (q : toS r = .ok x) : SR c J1 H1 (σ.set i (some v)) (env.set i (some x)) := by
  have sr1 := sr.ext e1
  cases r with
  | d y => cases q; exact sr1.setD h (fun _ z => nomatch z)
  | l m xs =>
    cases m with
    | own => cases q
    | bor => cases q; exact sr1.setD h (fun _ z => nomatch z)
    | fresh =>
      cases q
      obtain ⟨p, vs, rfl, h1, h2, h3, h4⟩ := h
      have old : ∀ (j : Nat) (ys : List D), env[j]? = some (some (.own ys)) → σ[j]? ≠ some (some (.ref p)) := fun j ys qj z => by
        obtain ⟨w, k1, a, us, k2, k3, _⟩ := sr.at_ j _ qj
        rw [z] at k1
        cases k1
        cases k2
        rw [h3] at k3
        cases k3
      refine ⟨sr1.hp, by simpa using sr.len, fun j y q => ?_, fun j k ys zs w hjk q1 q2 q3 q4 => ?_⟩
      · rcases set_at q with ⟨rfl, hl, rfl⟩ | ⟨hj, q⟩
        · exact ⟨.ref p, by rw [List.getElem?_set_self (by rw [← sr.len]; exact hl)], p, vs, rfl, h1, h2, sr.hp.ent.free h3, h4⟩
        · obtain ⟨w, k1, k2⟩ := sr1.at_ j y q
          exact ⟨w, by rw [List.getElem?_set_ne (Ne.symm hj)]; exact k1, k2⟩
      · rcases set_at q1 with ⟨rfl, hl, e⟩ | ⟨hj, q1'⟩
        · rcases set_at q2 with ⟨rfl, _, _⟩ | ⟨hk, q2⟩
          · exact hjk rfl
          · rw [List.getElem?_set_self (by rw [← sr.len]; exact hl)] at q3
            cases q3
            rw [List.getElem?_set_ne (Ne.symm hk)] at q4
            exact old k zs q2 q4
        · rw [List.getElem?_set_ne (Ne.symm hj)] at q3
          rcases set_at q2 with ⟨rfl, hl, e⟩ | ⟨hk, q2⟩
          · rw [List.getElem?_set_self (by rw [← sr.len]; exact hl)] at q4
            cases q4
            exact old j ys q1' q3
          · rw [List.getElem?_set_ne (Ne.symm hk)] at q4
            exact sr.sep j k ys zs w hjk q1' q2 q3 q4
theorem wpM_toS {α : Type} {x : R} {f : S → M α} {Q : α → Prop} {T : Exc → Prop} (w : wpM (toS x >>= f) Q T) : ∃ d, toS x = .ok d ∧ wpM (f d) Q T := by
  cases q : toS x with
  | bad => rw [q] at w; exact w.elim
  | ok xs => rw [q] at w; exact ⟨xs, rfl, w⟩
  | exc z => unfold toS at q; split at q <;> cases q
def gSet (i : Nat) (g : G R) : G O := fun env => g env >>= fun r => toS r >>= fun x => .ok (.nx (env.set i (some x)))
theorem pd1_set (i : Nat) {x : Str} {pos' : Pos} (hN : X.N.Nodup) (h : PD X c e g) (hi : X.N[i]? = some x := by rfl) (hx : Loc X.env.scope x := by first | exact Or.inl rfl | exact Or.inr rfl) (hs : swapsWith e (some (.Name x pos')) pos.line X.env = pure false := by rfl)
    (hf : X.fn x = true ∨ X.env.scope.names.lookup x = some .local := by first | exact .inl rfl | exact .inr rfl) : PD1 X c (.Assign [.Name x pos'] e pos) (gSet i g) := psImp (ps_set hN hi hx h hs hf) fun E σ H ⟨J, env, sr, w⟩ => by
  refine ⟨J, env, sr, wpM_mono (wpM_bind w) fun r wr v J1 H1 e1 r1 => ?_⟩
  obtain ⟨x, q, wr⟩ := wpM_toS wr
  exact wr (σ.set i (some v)) J1 H1 e1.j (sr.set e1 r1 q)
/-! ### targets -/
abbrev GT := D → Ev → M Ev
/-- lists of one's own stay where they are -/
def KO (env : Ev) (σ : L2.St) (e : Ev) (σ' : L2.St) : Prop := ∀ (j : Nat) (xs : List D), e[j]? = some (some (.own xs)) → env[j]? = some (some (.own xs)) ∧ σ'[j]? = σ[j]?
theorem KO.refl {env : Ev} {σ : L2.St} : KO env σ env σ := fun _ _ h => ⟨h, rfl⟩
theorem KO.trans {env e1 e2 : Ev} {σ s1 s2 : L2.St} (a : KO env σ e1 s1) (b : KO e1 s1 e2 s2) : KO env σ e2 s2 := fun j xs h => by
  obtain ⟨h1, h2⟩ := b j xs h
  obtain ⟨h3, h4⟩ := a j xs h1
  exact ⟨h3, h2.trans h4⟩
def tT (c : C) (g : GT) : TG := fun v σ H Q => ∃ J env d, SR c J H σ env ∧ Rep c.K J d v ∧ wpM (g d env) (fun e => ∀ σ', SR c J H σ' e → KO env σ e σ' → Q σ' H) c.T
def PTg (X : Cx) (c : C) (tg : Expr) (g : GT) : Prop := PG X tg (tT c g)
abbrev GTs := List D → Ev → M Ev
def tTs (c : C) (g : GTs) : TGs := fun vs σ H Q => ∃ J env ds, SR c J H σ env ∧ Reps c.K J ds vs ∧ wpM (g ds env) (fun e => ∀ σ', SR c J H σ' e → KO env σ e σ' → Q σ' H) c.T
def PTgs (X : Cx) (c : C) (tgs : List Expr) (g : GTs) : Prop := PGs X tgs (tTs c g)
theorem pgImp {X : Cx} {e : Expr} {t t' : TG} (h : PG X e t) (k : ∀ v σ H Q, t' v σ H Q → t v σ H Q) : PG X e t' := fun pins s σ H v u Q I r q => h pins s σ H v u Q I r (k v σ H Q q)
theorem pgsImp {X : Cx} {e : List Expr} {t t' : TGs} (h : PGs X e t) (k : ∀ v σ H Q, t' v σ H Q → t v σ H Q) : PGs X e t' := fun pins s σ H vs us Q I r q => h pins s σ H vs us Q I r (k vs σ H Q q)
def tgName (i : Nat) : GT := fun d env => .ok (env.set i (some (.d d)))
theorem ptg_name (i : Nat) {x : Str} (hN : X.N.Nodup) (hi : X.N[i]? = some x := by rfl) (hx : Loc X.env.scope x := by first | exact Or.inl rfl | exact Or.inr rfl) (hf : X.fn x = true ∨ X.env.scope.names.lookup x = some .local := by first | exact .inl rfl | exact .inr rfl) : PTg X c (.Name x pos) (tgName i) :=
  pgImp (pg_name hN hi hx hf) fun v σ H Q ⟨J, env, d, sr, rd, w⟩ => w _ (sr.setD (x := .d d) rd fun _ z => nomatch z) fun j xs q => by
    rcases set_at q with ⟨_, _, e⟩ | ⟨hj, q⟩
    · cases e
    · exact ⟨q, List.getElem?_set_ne (Ne.symm hj)⟩
def tgNil : GTs := fun ds env => match ds with
  | [] => .ok env
  | _ => .bad
def tgCons (t : GT) (u : GTs) : GTs := fun ds env => match ds with
  | d :: r => t d env >>= fun e => u r e
  | [] => .bad
theorem ptgs_nil : PTgs X c [] tgNil := pgsImp pgs_nil fun vs σ H Q ⟨J, env, ds, sr, rd, w⟩ => by
  cases rd with
  | nil => exact ⟨rfl, w σ sr KO.refl⟩
  | cons _ _ => exact w.elim
theorem ptgs_cons {t : GT} {u : GTs} (h : PTg X c e t) (h' : PTgs X c es u) (hs : (assignEach (e :: es) X.env).map (·.2) = assign e X.env :: (assignEach es X.env).map (·.2) := by rfl) : PTgs X c (e :: es) (tgCons t u) :=
  pgsImp (pgs_cons h h' hs) fun vs σ H Q ⟨J, env, ds, sr, rd, w⟩ => by
    cases rd with
    | nil => exact w.elim
    | cons r rs =>
      refine ⟨_, _, rfl, J, env, _, sr, r, wpM_mono (wpM_bind w) fun e1 w1 σ' sr' ko => ?_⟩
      exact ⟨J, e1, _, sr', rs, wpM_mono w1 fun e2 q σ2 sr2 ko2 => q σ2 sr2 (ko.trans ko2)⟩
def tgTup (n : Nat) (u : GTs) : GT := fun d env => match d with
  | .tup ds => if ds.length = n then u ds env else .bad
  | _ => .bad
theorem ptg_tup {k : Nat} {u : GTs} {n : Nat} (h : PTgs X c es u) (hc : X.calm = true := by rfl) (hK : X.K = c.K := by rfl) (hn : (assignEach es X.env).length = n := by rfl) (hst : (assignEach es X.env).findIdx? (·.1) = none := by rfl) : PTg X c (.Tuple es k pos) (tgTup n u) :=
  pgImp (pg_tup hc h hn hst) fun v σ H Q ⟨J, env, d, sr, rd, w⟩ => by
    cases rd with
    | tup h1 h2 =>
      unfold tgTup at w
      simp only at w
      split at w
      · rename_i hl
        exact ⟨_, _, rfl, by rw [hK]; exact sameT sr.hp.sub h1, by rw [← h2.length]; exact hl, J, env, _, sr, h2, w⟩
      · exact w.elim
    | _ => exact w.elim
/-- (a, b) = e -/
def gAsg (t : GT) (g : G R) : G O := fun env => g env >>= fun r => toD r >>= fun d => t d env >>= fun e => .ok (.nx e)
theorem pd1_asg {t : GT} (h : PD X c e g) (ht : PTg X c tg t)
    (hq : PS X (.Assign [tg] e pos) (tAsg (tD c g) (tT c t))) : PD1 X c (.Assign [tg] e pos) (gAsg t g) := psImp hq fun E σ H ⟨J, env, sr, w⟩ => by
  refine ⟨J, env, sr, wpM_mono (wpM_bind w) fun r wr v J1 H1 e1 r1 => ?_⟩
  obtain ⟨d, q, wr⟩ := wpM_toD wr
  obtain ⟨J1', e1', s1, rd⟩ := freeze e1 r1 q
  refine ⟨J1', env, d, sr.ext e1', rd, wpM_mono (wpM_bind wr) fun e2 w2 σ' sr' _ => ?_⟩
  exact w2 σ' J1' H1 e1'.j sr'
/-! ### loops -/
/-- it walks ds, whatever is done meanwhile -/
def Walk (c : C) (It : It) (ds : List D) (J1 : Hp) (U : Hp → Hp → Prop) : Prop := ∀ (i : Nat) (J H : Hp), HI c J H → U J H →
  (ds.length ≤ i → It.stop i H) ∧ ∀ d, ds[i]? = some d → It.go i H ∧ ∀ x H2, It.yld i H x H2 → ∃ J2, Ext J H J2 H2 ∧ Rep c.K J2 d x
def tI (c : C) (g : G (List D)) : TI := fun σ H Q => ∃ J env, SR c J H σ env ∧ wpM (g env) (fun ds => ∀ It J1 H1, Ext J H J1 H1 → Walk c It ds J1 (fun J' _ => Same J1 J') → Q It H1) c.T
def PIt (X : Cx) (c : C) (tg iter : Expr) (g : G (List D)) : Prop := PI X tg iter (tI c g)
theorem piImp {X : Cx} {tg it : Expr} {t t' : TI} (h : PI X tg it t) (k : ∀ σ H Q, t' σ H Q → t σ H Q) : PI X tg it t' := fun pins s σ H Q I q => h pins s σ H Q I (k σ H Q q)
/-- the turns -/
def loopG (t : GT) (u : G O) : List D → Ev → M O
  | [], env => .ok (.nx env)
  | d :: ds, env => t d env >>= fun e => u e >>= fun o => match o with
    | .nx e => loopG t u ds e
    | .ct e => loopG t u ds e
    | .bk e => .ok (.nx e)
    | .rt r => .ok (.rt r)
def gFor (g : G (List D)) (t : GT) (u : G O) : G O := fun env => g env >>= fun ds => loopG t u ds env
theorem pd1_for {iter : Expr} {body : List Stmt} {gi : G (List D)} {t : GT} (hi : PIt X c tg iter gi) (ht : PTg X c tg t) (hb : PDs X c body u) (hp : PassesOwn (model X.prog X.w) X.A X.env X.xe := by exact PassesOwn.never) (hc : X.calm = true := by rfl)
    (hs : ∀ x, foldedSetIterable iter X.env x = pure x := by intro _; rfl) : PD1 X c (.For tg iter body [] pos) (gFor gi t u) := psImp (ps_for hp hc hi ht hb hs) fun E σ H ⟨J, env, sr, w⟩ => by
  refine ⟨J, env, sr, wpM_mono (wpM_bind w) fun ds wd It J1 H1 e1 wk => ?_⟩
  refine ⟨fun i m σ H => m = ds.length - i ∧ ∃ J' env, Same J1 J' ∧ SR c J' H σ env ∧ wpM (loopG t u (ds.drop i) env) (oP c J' E) c.T,
    ⟨ds.length, by simp, J1, env, Same.refl J1, sr.ext e1, by rw [List.drop_zero]; exact wpM_mono wd fun o q => q.mono e1.j⟩, ?_⟩
  rintro i m σ H ⟨rfl, J', env, s', sr', w'⟩
  obtain ⟨w1, w2⟩ := wk i J' H sr'.hp s'
  by_cases hlt : i < ds.length
  · obtain ⟨g1, y1⟩ := w2 ds[i] (by simp [hlt])
    rw [List.drop_eq_getElem_cons hlt] at w'
    refine .inr ⟨g1, fun σ2 H2 => ∃ J2 env2, Same J' J2 ∧ SR c J2 H2 σ2 env2 ∧ wpM (loopG t u (ds.drop (i + 1)) env2) (oP c J2 E) c.T, ?_, ?_⟩
    · rintro σ2 H2 ⟨J2, env2, s2, sr2, w2⟩
      exact ⟨ds.length - (i + 1), by omega, rfl, J2, env2, s'.trans s2, sr2, w2⟩
    · intro x H2 hy
      obtain ⟨J2, e2, rx⟩ := y1 x H2 hy
      refine ⟨J2, env, ds[i], sr'.ext e2, rx, wpM_mono (wpM_bind w') fun env3 w3 σ3 sr3 _ => ?_⟩
      refine ⟨J2, env3, sr3, wpM_mono (wpM_bind w3) fun o wo => ?_⟩
      cases o with
      | nx env4 => exact fun σ4 J4 H4 s4 sr4 => ⟨J4, env4, e2.j.trans s4, sr4, wpM_mono wo fun o q => q.mono (e2.j.trans s4)⟩
      | ct env4 => exact fun σ4 J4 H4 s4 sr4 => ⟨J4, env4, e2.j.trans s4, sr4, wpM_mono wo fun o q => q.mono (e2.j.trans s4)⟩
      | bk env4 => exact fun σ4 J4 H4 s4 sr4 => wo σ4 J4 H4 (e2.j.trans s4) sr4
      | rt r => exact fun v J4 H4 s4 h4 r4 => wo v J4 H4 (e2.j.trans s4) h4 r4
  · rw [List.drop_eq_nil_of_le (by omega)] at w'
    exact .inl ⟨w1 (by omega), w' σ J' H (Same.refl J') sr'⟩
/-! what is walked -/
/-- lo, lo + 1, .. -/
def rngD (lo : Int) (n : Nat) : List D := (List.range n).map fun (k : Nat) => .int (lo + (k : Int))
theorem walk_range {J1 : Hp} {lo : Int} {n : Nat} {Ut : Hp → Hp → Prop} : Walk c (Itr lo n) (rngD lo n) J1 Ut := by
  intro i J H hp u
  refine ⟨fun hl => (show n ≤ i by simpa [rngD] using hl), fun d hd => ?_⟩
  have hi : i < n := by
    have := (List.getElem?_eq_some_iff.mp hd).1
    simpa [rngD] using this
  have hd' : d = .int (lo + i) := by
    unfold rngD at hd
    rw [List.getElem?_map, List.getElem?_range hi] at hd
    exact (Option.some.inj hd).symm
  subst hd'
  exact ⟨hi, fun x H2 ⟨e, hx⟩ => by subst e hx; exact ⟨J, Ext.refl hp.sub, .int _⟩⟩
def gRng1 (gs : G (List R)) : G (List D) := fun env => gs env >>= fun rs => match rs with
  | [.d (.int j)] => if below 4611686018427387904 j then .ok (rngD 0 j.toNat) else .bad
  | _ => .bad
theorem pit_range1 {p : Pos} {gs : G (List R)} (ha : PAr X c [a] gs) (hm : X.mg "range" = none) (hg : Gl X "range" := by rfl) (hs : starEach [a] X.env = [(false, eval a X.env)] := by rfl) : PIt X c tg (.Call (.Name "range" p) [a] [] pos) (gRng1 gs) :=
  piImp (pi_range1 hg hm ha hs) fun σ H Q ⟨J, env, sr, w⟩ => by
    refine ⟨J, env, sr, wpM_mono (wpM_bind w) fun rs wr vs J1 H1 e1 r1 => ?_⟩
    split at wr
    · split at wr
      · rename_i h
        obtain ⟨v, rfl, r⟩ := r1.one
        cases r
        have h := below_iff.mp h
        exact ⟨_, rfl, Int.le_of_lt h.1, h.2, wr _ J1 H1 e1 walk_range⟩
      · exact wr.elim
    · exact wr.elim
/-! what a comprehension walks: nothing is changed meanwhile -/
def tIc (c : C) (g : G (List D)) : TI := fun σ H Q => ∃ J env, SR c J H σ env ∧ wpM (g env) (fun ds => ∀ It J1 H1, Ext J H J1 H1 → Walk c It ds J1 (fun J' H' => Same J1 J' ∧ Same H1 H') → Q It H1) c.T
def PIc (X : Cx) (c : C) (tg iter : Expr) (g : G (List D)) : Prop := PI X tg iter (tIc c g)
theorem PIt.pic {gi : G (List D)} (h : PIt X c tg e gi) : PIc X c tg e gi := piImp h fun σ H Q ⟨J, env, sr, w⟩ =>
  ⟨J, env, sr, wpM_mono w fun ds q It J1 H1 e1 wk => q It J1 H1 e1 fun i J' H' hp u => wk i J' H' hp u.1⟩
end
end DL
set_option Elab.async false
set_option linter.all false
set_option maxRecDepth 100000
set_option maxHeartbeats 4000000
namespace DL
open PySem PySem.Spec PyProof.Rows L2
section
variable {X : Cx} {c : C} {e a b tg : Expr} {es : List Expr} {ga gb g : G R} {pos : Pos}
/-! ### x.append(e) -/
theorem SR.upd {J H : Hp} {σ : L2.St} {env : Ev} (sr : SR c J H σ env) {i : Nat} {xs xs' : List D} {p : Addr} {vs vs' : List V} (hi : env[i]? = some (some (.own xs))) (hs : σ[i]? = some (some (.ref p))) (hH : H p = some (.lst vs)) (hJ : J p = none) (h0 : c.H0 p = none)
    (h : Reps c.K J xs' vs') : SR c J (L2.upd H p (.lst vs')) σ (env.set i (some (.own xs'))) := by
  have hil : i < env.length := (List.getElem?_eq_some_iff.mp hi).1
  refine ⟨⟨fun b o q => ?_, fun b o q => ?_, sr.hp.entJ, sr.hp.frz⟩, by simpa using sr.len, fun j y q => ?_, fun j k ys zs w hjk q1 q2 q3 q4 => ?_⟩
  · have : b ≠ p := fun z => by rw [z, hJ] at q; cases q
    rw [upd_ne this]; exact sr.hp.sub b o q
  · have : b ≠ p := fun z => by rw [z, h0] at q; cases q
    rw [upd_ne this]; exact sr.hp.ent b o q
  · rcases set_at q with ⟨rfl, hl, rfl⟩ | ⟨hj, q⟩
    · exact ⟨.ref p, hs, p, vs', rfl, upd_same, hJ, h0, h⟩
    · obtain ⟨w, k1, k2⟩ := sr.at_ j y q
      refine ⟨w, k1, ?_⟩
      cases y with
      | d x => exact k2
      | bor zs => exact k2
      | own zs =>
        obtain ⟨p', us, rfl, m1, m2, m3, m4⟩ := k2
        have hne : p' ≠ p := fun z => sr.sep i j xs zs (.ref p) (Ne.symm hj) hi q hs (z ▸ k1)
        exact ⟨p', us, rfl, by rw [upd_ne hne]; exact m1, m2, m3, m4⟩
  · have f : ∀ (k : Nat) (ys : List D), (env.set i (some (.own xs')))[k]? = some (some (.own ys)) → ∃ ys', env[k]? = some (some (.own ys')) := fun k ys q => by
      rcases set_at q with ⟨rfl, _, _⟩ | ⟨_, q⟩
      · exact ⟨xs, hi⟩
      · exact ⟨ys, q⟩
    obtain ⟨ys', r1⟩ := f j ys q1
    obtain ⟨zs', r2⟩ := f k zs q2
    exact sr.sep j k ys' zs' w hjk r1 r2 q3 q4
def gApp (i : Nat) (g : G R) : G O := fun env => match env[i]? with
  | some (some (.own xs)) => g env >>= fun r => toD r >>= fun d => if xs.length < sizeLine then .ok (.nx (env.set i (some (.own (xs ++ [d]))))) else .bad
  | _ => .bad
theorem pd1_append (i : Nat) {x : Str} {p1 p2 pos' : Pos} (h : PD X c e g) (hN : X.N[i]? = some x := by rfl) (hv : Vis X.env.scope x := by first | exact Or.inl rfl | exact Or.inr (Or.inl rfl) | exact Or.inr (Or.inr rfl)) (hd : (x == ("__debug__" : Str)) = false := by decide)
    (hcd : (x == ("__classdict__" : Str)) = false := by decide)
    (hbase : attributeBase (.Name x p1) "append" X.env (eval (.Name x p1) X.env) = eval (.Name x p1) X.env := by rfl)
    (hfew : ((backTo pos' (starEach [e] X.env)).all (fun x => !x.1) && (backToKw pos' (keywordEach [] X.env)).all (fun x => x.1.isSome)
      && decide (([e] : List Expr).length + ([] : List Keyword).length + (if ([] : List Keyword).isEmpty then 0 else 1) < 30)) = true := by rfl)
    (hline : (p2.endLine == pos'.line) = true := by rfl) (hst : starEach [e] X.env = (false, eval e X.env) :: starEach [] X.env := by rfl) (hplain : (backTo pos' (starEach [] X.env)).any (·.1) = false := by rfl)
    (hs : swapsWith (.Call (.Attribute (.Name x p1) "append" p2) [e] [] pos') none pos.line X.env = pure false := by rfl) :
    PD1 X c (.Expr (.Call (.Attribute (.Name x p1) "append" p2) [e] [] pos') pos) (gApp i g) :=
  psImp (ps_expr (pe_bm PySem.F.plainAttrs_list PySem.F.slot_list_append PySem.F.type_list_append mt_append (pe_var hN hv hd hcd) (pa_cons h pa_nil hst) hbase hfew hline hst hplain) hs) fun E σ H ⟨J, env, sr, w⟩ => by
    unfold gApp at w
    split at w
    · rename_i xs hi
      obtain ⟨v, h1, a, vs, rfl, h2, h3, h4, h5⟩ := sr.at_ i _ hi
      refine ⟨.ref a, h1, .inl ⟨rfl, vs, SqL.of h2⟩, ?_⟩
      refine ⟨J, env, sr, wpM_mono (wpM_bind w) fun r wr y J1 H1 e1 r1 => ?_⟩
      obtain ⟨d, q, wr⟩ := wpM_toD wr
      obtain ⟨J2, e2, s2, rd⟩ := freeze e1 r1 q
      split at wr
      · rename_i hz
        refine ⟨a, vs, y, rfl, rfl, e2.h _ _ h2, by rw [← h5.length]; exact hz, ?_⟩
        refine wr σ J2 _ e2.j ?_
        exact (sr.ext e2).upd hi h1 (e2.h _ _ h2) (e2.frz a (by rw [h2]; intro z; cases z) h3) h4 ((h5.mono e2.j).append (.cons rd .nil))
      · exact wr.elim
    · exact w.elim
/-! ### defs -/
def toA : R → S
  | .d x => .d x
  | .l _ xs => .bor xs
def ARep (K : PySem.W.Frag) (J H : Hp) : List S → List V → Prop
  | [], vs => vs = []
  | s :: ss, vs => ∃ v us, vs = v :: us ∧ (match s with
    | .d x => Rep K J x v
    | .bor xs => ∃ a ws, v = .ref a ∧ SqL K H a ws ∧ Reps K J xs ws
    | .own _ => False) ∧ ARep K J H ss us
theorem ARep.length {K : PySem.W.Frag} {J H : Hp} : ∀ {ss : List S} {vs : List V}, ARep K J H ss vs → vs.length = ss.length
  | [], _, h => by cases h; rfl
  | _ :: _, _, ⟨_, _, h, _, h2⟩ => by subst h; exact congrArg (· + 1) h2.length
theorem ARep.get {K : PySem.W.Frag} {J H : Hp} : ∀ {ss : List S} {vs : List V} {i : Nat} {s : S}, ARep K J H ss vs → ss[i]? = some s → ∃ v, vs[i]? = some v ∧ (match s with
    | .d x => Rep K J x v
    | .bor xs => ∃ a ws, v = .ref a ∧ SqL K H a ws ∧ Reps K J xs ws
    | .own _ => False)
  | [], _, _, _, _, e => by simp at e
  | _ :: _, _, 0, _, ⟨v, us, h, h1, h2⟩, e => by simp at e; subst e; subst h; exact ⟨v, rfl, h1⟩
  | _ :: _, _, i + 1, s, ⟨v, us, h, h1, h2⟩, e => by
    subst h
    obtain ⟨v, k1, k2⟩ := ARep.get (i := i) (s := s) h2 (by simpa using e)
    exact ⟨v, by simpa using k1, k2⟩
def FR (K : PySem.W.Frag) (H J' H' : Hp) : R → V → Prop
  | .d x, v => Rep K J' x v
  | .l _ xs, v => ∃ a vs, v = .ref a ∧ H' a = some (.lst vs) ∧ J' a = none ∧ H a = none ∧ Reps K J' xs vs
/-- what a def promises: F upon the arguments -/
def spD (K : PySem.W.Frag) (n : Nat) (F : List S → M R) : Sp := fun vs H Q _ => ∃ J as, Same J H ∧ as.length = n ∧ ARep K J H as vs ∧ wpM (F as) (fun r => ∀ v J' H', Ext J H J' H' → FR K H J' H' r v → Q v H') (fun _ => False)
def fin : M O → M R
  | .ok (.rt r) => .ok r
  | .ok (.nx _) => .ok (.d .non)
  | .exc x => .exc x
  | _ => .bad
def startE (N : List Str) (as : List S) : Ev := as.map some ++ List.replicate (N.length - as.length) none
theorem startE_at {N : List Str} {as : List S} {i : Nat} {x : S} (h : (startE N as)[i]? = some (some x)) : as[i]? = some x := by
  unfold startE at h
  by_cases hi : i < as.length
  · rw [List.getElem?_append_left (by simpa using hi), List.getElem?_map] at h
    cases q : as[i]? with
    | none => rw [q] at h; cases h
    | some y => rw [q] at h; cases h; rfl
  · rw [List.getElem?_append_right (by simpa using hi), List.getElem?_replicate] at h
    split at h <;> cases h
theorem start_at {N : List Str} {vs : List V} {i : Nat} {v : V} (h : vs[i]? = some v) : (L2.start N vs)[i]? = some (some v) := by
  unfold L2.start
  have hi : i < vs.length := (List.getElem?_eq_some_iff.mp h).1
  rw [List.getElem?_append_left (by simpa using hi), List.getElem?_map, h]
  rfl
theorem sr_start {K : PySem.W.Frag} {J H : Hp} {T : Exc → Prop} {N : List Str} {as : List S} {vs : List V} (hs : Same J H) (h : ARep K J H as vs) : SR ⟨K, H, J, T⟩ J H (L2.start N vs) (startE N as) := by
  have own : ∀ (i : Nat) (xs : List D), (startE N as)[i]? ≠ some (some (.own xs)) := fun i xs q => by
    obtain ⟨v, _, k⟩ := h.get (startE_at q)
    exact k
  refine ⟨⟨hs, Same.refl H, Same.refl J, fun _ _ q => q⟩, ?_, fun i x q => ?_, fun i j xs ys v _ q => absurd q (own i xs)⟩
  · unfold startE L2.start
    rw [List.length_append, List.length_append, List.length_map, List.length_map, List.length_replicate, List.length_replicate, h.length]
  · obtain ⟨v, k1, k2⟩ := h.get (startE_at q)
    refine ⟨v, start_at k1, ?_⟩
    cases x with
    | d y => exact k2
    | own y => exact k2.elim
    | bor y => exact k2
abbrev cxD (P : Program) (w : World) (K : PySem.W.Frag) (mg : Str → Option Value) (base : Heap) (N : List Str) (qual : Str) (sc : Scope) (f : Addr) (cd : Value) (A : Around) (outer : List Env) (s : Shared) (H : Hp) (E : XK) : Cx := (cxOf CX0 P w K mg base N qual sc f cd A outer s H E).nox
theorem fn_okD {P : Program} {w : World} {K : PySem.W.Frag} {mg : Str → Option Value} {base : Heap} {x qual : Str} {st : Stmt} {f : Addr} {fd : FuncData} {N ps : List Str} {k : Nat} {Fm : List S → M R} (F : Fun K x qual st f fd) (Sc : FnScope N ps (defScope st)) {gB : G O}
    (hb : ∀ (cdv : Value) (A : Around) (outer : List Env) (s : Shared) (H : Hp) (E : XK) (J : Hp) (T : Exc → Prop), Room k (A.deeper (envOfC qual (defScope st) s.heap.objs.size f cdv)) →
      PDs (cxD P w K mg base N qual (defScope st) f cdv A outer s H E) ⟨K, H, J, T⟩ (defBody st) gB)
    (hF : ∀ as r, as.length = ps.length → Fm as = .ok r → fin (gB (startE N as)) = .ok r) : FnOk P w K mg base CX0 (k + 1) f fd ps (spD K ps.length Fm) := by
  refine F.ok Sc (fun vs H Q E h => ?_) (fun cdv A outer s H vs Q E hr h => ?_)
  · obtain ⟨J, as, h1, h2, h3, h4⟩ := h
    rw [h3.length, h2]
  · obtain ⟨J, as, h1, h2, h3, h4⟩ := h
    refine ⟨_, hb cdv A outer s H E J (fun _ => False) hr, J, startE N as, sr_start h1 h3, ?_⟩
    cases q : Fm as with
    | bad => rw [q] at h4; exact h4.elim
    | exc x => rw [q] at h4; exact h4.elim
    | ok r =>
      rw [q] at h4
      have z := hF as r h2 q
      have ext : ∀ {J' H' : Hp}, HI ⟨K, H, J, fun _ => False⟩ J' H' → Ext J H J' H' := fun hp => ⟨hp.ent, hp.entJ, hp.sub, hp.frz⟩
      cases qg : gB (startE N as) with
      | bad => rw [qg] at z; cases z
      | exc x => rw [qg] at z; cases z
      | ok o =>
        rw [qg] at z
        cases o with
        | bk _ => cases z
        | ct _ => cases z
        | nx env => cases z; exact fun σ' J' H' _ sr => h4 .non J' H' (ext sr.hp) .non
        | rt r' =>
          cases z
          exact fun v J' H' _ hp rf => h4 v J' H' (ext hp) (by
            cases r with
            | d x => exact rf
            | l m xs => exact rf)
def frR : R → R
  | .d x => .d x
  | .l _ xs => .l .fresh xs
def gCall (n : Nat) (F : List S → M R) : List R → M R := fun rs => if rs.length = n then (match F (rs.map toA) with
  | .ok r => .ok (frR r)
  | _ => .bad) else .bad
theorem RRs.args {He J H : Hp} (hp : HI c J H) : ∀ {rs : List R} {vs : List V}, RRs c He J H rs vs → ARep c.K J H (rs.map toA) vs
  | [], _, h => h
  | r :: rs, _, ⟨v, us, h, h1, h2⟩ => by
    refine ⟨v, us, h, ?_, RRs.args hp h2⟩
    cases r with
    | d x => exact h1
    | l m xs => exact RR.list hp h1 rfl
theorem pd_call {k n : Nat} {f : Addr} {fd : FuncData} {ps : List Str} {F : List S → M R} {x : Str} {p : Pos} {gs : G (List R)} (G : FnOk X.prog X.w X.K X.mg X.base CX0 k f fd ps (spD X.K n F)) (hr : Room k X.A) (hm : X.mg x = some (.ref f)) (hk : PySem.W.keepIn X.K (.ref f) = true)
    (hb : Binds X.K fd ps []) (ha : PAr X c (e :: es) gs) (hT : c.K = X.K := by rfl) (hg : Gl X x := by rfl) (hdb : (x == ("__debug__" : Str)) = false := by decide) (he : starEach (e :: es) X.env = (false, eval e X.env) :: starEach es X.env := by rfl)
    (hpl : (backTo pos (starEach es X.env)).any (·.1) = false := by rfl) : PD X c (.Call (.Name x p) (e :: es) [] pos) (gN (gCall n F) gs) :=
  peImp (pe_call (E := E0) G hr hg hm hk hb .nil pass0 ha hdb he hpl) fun σ H Q ⟨J, env, sr, w⟩ => by
    refine ⟨J, env, sr, wpM_mono (wpM_bind w) fun rs wr vs J1 H1 e1 r1 => ?_⟩
    unfold gCall at wr
    split at wr
    · rename_i hl
      have ar := r1.args (sr.hp.ext e1)
      rw [hT] at ar
      refine ⟨J1, rs.map toA, e1.sub, by simpa using hl, by rw [List.append_nil]; exact ar, ?_⟩
      cases q : F (rs.map toA) with
      | bad => rw [q] at wr; exact wr
      | exc x => rw [q] at wr; exact wr
      | ok r =>
        rw [q] at wr
        intro v J' H' e2 fr
        refine wr v J' H' (e1.trans e2) ?_
        cases r with
        | d y => exact (show Rep c.K J' y v from hT ▸ fr)
        | l m ys =>
          obtain ⟨a, us, h1, h2, h3, h4, h5⟩ := fr
          exact ⟨a, us, h1, h2, h3, e1.h.free h4, hT ▸ h5⟩
    · exact wr.elim
end
end DL
set_option Elab.async false
set_option linter.all false
set_option maxRecDepth 100000
set_option maxHeartbeats 4000000
namespace DL
open PySem PySem.Spec PyProof.Rows L2
/-! ### the cells that a comprehension takes along -/
def clsOf (cells : List (Str × Addr)) : List (Str × NameKind) → List (Str × Addr) → Option (List (Str × Addr))
  | [], cs => some cs
  | (n, k) :: r, cs => if k == .free then (match cells.lookup n with
    | some a => clsOf cells r ((n, a) :: cs)
    | none => none) else clsOf cells r cs
theorem closure_run {env : Env} : ∀ (names : List (Str × NameKind)) (cs cl : List (Str × Addr)), clsOf env.cells names cs = some cl →
    (forIn names cs fun (x : Str × NameKind) (r : List (Str × Addr)) => (if (x.2 == .free) = true then do let a ← cellOf env x.1; pure (ForInStep.yield ((x.1, a) :: r)) else pure (ForInStep.yield r) : Sem (ForInStep (List (Str × Addr))))) = (pure cl : Sem (List (Str × Addr)))
  | [], cs, cl, h => by cases h; rfl
  | (n, k) :: r, cs, cl, h => by
    unfold clsOf at h
    rw [List.forIn_cons]
    cases hk : (k == NameKind.free) with
    | true =>
      rw [hk, if_pos rfl] at h
      cases hc : env.cells.lookup n with
      | none => rw [hc] at h; cases h
      | some a =>
        rw [hc] at h
        have e : cellOf env n = pure a := by unfold cellOf; rw [hc]
        simp only [hk, if_true, e]
        exact closure_run r ((n, a) :: cs) cl h
    | false =>
      rw [hk, if_neg (by decide)] at h
      simp only [hk]
      exact closure_run r cs cl h
theorem closureFor_of {scope : Scope} {env : Env} {cl : List (Str × Addr)} (h : clsOf env.cells scope.names [] = some cl) : closureFor scope env = pure cl := by
  have q := closure_run (env := env) scope.names [] cl h
  unfold closureFor
  show ((forIn scope.names [] fun (x : Str × NameKind) (r : List (Str × Addr)) => (if (x.2 == .free) = true then do let a ← cellOf env x.1; pure (ForInStep.yield ((x.1, a) :: r)) else pure (ForInStep.yield r) : Sem (ForInStep (List (Str × Addr))))) >>= fun z => pure z) = pure cl
  rw [q]
  rfl
theorem clsOf_mem {cells : List (Str × Addr)} : ∀ (names : List (Str × NameKind)) (cs cl : List (Str × Addr)), clsOf cells names cs = some cl → (∀ x c, cs.lookup x = some c → cells.lookup x = some c) →
    (∀ x c, cl.lookup x = some c → cells.lookup x = some c) ∧ (∀ x, ((cs.lookup x).isSome = true ∨ (x, NameKind.free) ∈ names) → (cl.lookup x).isSome = true)
  | [], cs, cl, h, k => by
    cases h
    exact ⟨k, fun x hx => hx.elim id fun z => by cases z⟩
  | (n, kd) :: r, cs, cl, h, k => by
    unfold clsOf at h
    cases hk : (kd == NameKind.free) with
    | true =>
      rw [hk, if_pos rfl] at h
      cases hc : cells.lookup n with
      | none => rw [hc] at h; cases h
      | some a =>
        rw [hc] at h
        obtain ⟨h1, h2⟩ := clsOf_mem r ((n, a) :: cs) cl h (fun x c q => by
          rw [List.lookup_cons] at q
          cases e : x == n with
          | true =>
            rw [e] at q
            cases q
            have : x = n := by simpa using e
            rw [this]; exact hc
          | false => rw [e] at q; exact k x c q)
        refine ⟨h1, fun x hx => h2 x ?_⟩
        by_cases e : x = n
        · left; subst e; rw [List.lookup_cons]; simp
        · have e' : (x == n) = false := by simpa using e
          rcases hx with hx | hx
          · left; rw [List.lookup_cons, e']; exact hx
          · right
            rcases List.mem_cons.mp hx with z | z
            · cases z; exact absurd rfl e
            · exact z
    | false =>
      rw [hk, if_neg (by decide)] at h
      obtain ⟨h1, h2⟩ := clsOf_mem r cs cl h k
      refine ⟨h1, fun x hx => h2 x ?_⟩
      rcases hx with hx | hx
      · exact .inl hx
      · rcases List.mem_cons.mp hx with z | z
        · cases z; simp at hk
        · exact .inr z
section
variable {X : Cx}
def cN (X : Cx) (own : List Str) (cap : List Nat) : List Str := own ++ cap.map fun (j : Nat) => (X.N[j]?).getD ("" : Str)
/-- a comprehension's block -/
def cxC (X : Cx) (own : List Str) (cap : List Nat) (scope : Scope) (cl : List (Str × Addr)) (C : Addr) (s : Shared) (H : Hp) (fp : List Addr) : Cx where
  prog := X.prog
  w := X.w
  K := X.K
  mg := X.mg
  base := X.base
  A := X.A
  N := cN X own cap
  s₀ := s
  H₀ := H
  env := compEnvC scope cl C X.env
  outer := X.stack
  stack := X.stack
  ex := fp
  fn := fun _ => false
  calm := X.calm
  pn := []
  xe := fun _ _ => False
def capOk (X : Cx) (cap : List Nat) : Bool := cap.all fun j => match X.N[j]? with
  | some x => (match X.env.scope.names.lookup x with
    | some .cell => true
    | some .free => true
    | _ => false)
  | none => false
theorem relabel_free {scope : Scope} {env : Env} (hc : ∀ y ∈ scope.names, y.2 ≠ .cell) : ∀ {x : Str}, ((relabel scope env).names.lookup x = some .cell ∨ (relabel scope env).names.lookup x = some .free) → (x, NameKind.free) ∈ scope.names := by
  unfold relabel
  have main : ∀ (names : List (Str × NameKind)), (∀ y ∈ names, y.2 ≠ .cell) → ∀ x, ((names.map fun (n, k) => if (k == NameKind.free && env.scope.kind == .function && env.kindOf n == some .cell) then (n, NameKind.cell) else (n, k)).lookup x = some .cell ∨
      (names.map fun (n, k) => if (k == NameKind.free && env.scope.kind == .function && env.kindOf n == some .cell) then (n, NameKind.cell) else (n, k)).lookup x = some .free) → (x, NameKind.free) ∈ names := by
    intro names
    induction names with
    | nil => intro _ x h; simp at h
    | cons p r ih =>
      obtain ⟨n, k⟩ := p
      intro hc x h
      rw [List.map_cons] at h
      simp only at h
      by_cases hx : x = n
      · subst hx
        have hk : k ≠ .cell := hc (x, k) List.mem_cons_self
        have : k = .free := by
          by_cases q : (k == NameKind.free && env.scope.kind == .function && env.kindOf x == some .cell) = true
          · rw [Bool.and_eq_true, Bool.and_eq_true] at q
            simpa using q.1.1
          · rw [if_neg q, List.lookup_cons] at h
            simp at h
            rcases h with h | h
            · exact absurd h hk
            · exact h
        subst this
        exact List.mem_cons_self
      · have hx' : (x == n) = false := by simpa using hx
        refine List.mem_cons_of_mem _ (ih (fun y hy => hc y (List.mem_cons_of_mem _ hy)) x ?_)
        have red : ∀ (q : Str × NameKind) (l : List (Str × NameKind)), q.1 = n → List.lookup x (q :: l) = List.lookup x l := fun q l hq => by
          obtain ⟨q1, q2⟩ := q
          simp only at hq
          subst hq
          rw [List.lookup_cons, hx']
        have hq : (if (k == NameKind.free && env.scope.kind == .function && env.kindOf n == some .cell) then (n, NameKind.cell) else (n, k)).1 = n := by split <;> rfl
        rw [red _ _ hq] at h
        exact h
  intro x h
  exact main scope.names hc x h
end
/-! ### the loop -/
section
variable {prog : Program} {w : World} {A : Around} {R : Result → Shared → Prop} {s : Shared}
theorem compLoop_any {elt target iter : Expr} {ifs : List Expr} {scope : Scope} {pos : Pos} {it acc : Value} {env : Env} (I : Nat → Shared → Prop)
    (turn : ∀ n s, I n s → wpAny (model prog w) A (pyNext it) (fun r s₁ => match r with
      | none => R (.ok .next) s₁
      | some v => wpAny (model prog w) A (letOwnedTupleGo target it v) (fun _ s₁ => wpAny (model prog w) A (assign target env v) (fun _ s₂ =>
          wpAny (model prog w) A (forIn ifs true fun c r => if r = true then do let ok ← isTrue c env (eval c env); pure (ForInStep.yield ok) else pure (ForInStep.yield r)) (fun ok s₃ =>
            if ok = true then wpAny (model prog w) A (eval elt env) (fun x s₄ =>
              wpAny (model prog w) A (call (.builtin "list.append") [acc, x]) (fun _ s₅ => ∃ m, m < n ∧ I m s₅) (notedBy (model prog w) A env fun e s' => R (.error e) s') s₄) (notedBy (model prog w) A env fun e s' => R (.error e) s') s₃
            else ∃ m, m < n ∧ I m s₃) (notedBy (model prog w) A env fun e s' => R (.error e) s') s₂) (notedBy (model prog w) A env fun e s' => R (.error e) s') s₁) (notedBy (model prog w) A env fun e s' => R (.error e) s') s₁) (notedBy (model prog w) A env fun e s' => R (.error e) s') s)
    (n : Nat) (h : I n s) :
    codeAny (model prog w) A (.compLoop (.ListComp elt [⟨target, iter, ifs, 0⟩] scope pos) 0 it acc env) R s := by
  refine codeAny_loop rfl I (fun n s hI => ?_) n h
  show wpAny _ A ((compTurn (.ListComp elt [⟨target, iter, ifs, 0⟩] scope pos) 0 it acc env).onRaise (fun x => do noteFrame x env; theTreesLotGoes x)) _ _ s
  refine wpAny_noted ?_
  rw [compTurn_list]
  refine wpAny_bind (wpAny_standAt (wpAny_bind (wpAny_mono (turn n s hI) (fun r s₁ h₁ => ?_) fun _ _ h' => h')))
  cases r with
  | none => exact wpAny_pure h₁
  | some v =>
    refine wpAny_bind (wpAny_mono h₁ (fun _ s₁' h₁' => ?_) fun _ _ h' => h')
    refine wpAny_bind (wpAny_mono h₁' (fun _ s₂ h₂ => wpAny_bind (wpAny_mono h₂ (fun ok s₃ h₃ => ?_) fun _ _ h' => h')) fun _ _ h' => h')
    cases ok with
    | false => exact wpAny_pure ⟨rfl, h₃⟩
    | true =>
      exact wpAny_bind (wpAny_bind (wpAny_mono h₃ (fun x s₄ h₄ => wpAny_bind (wpAny_mono h₄ (fun _ s₅ h₅ => wpAny_pure (wpAny_pure ⟨rfl, h₅⟩)) fun _ _ h' => h')) fun _ _ h' => h'))
end
end DL
set_option Elab.async false
set_option linter.all false
set_option maxRecDepth 100000
set_option maxHeartbeats 4000000
namespace DL
open PySem PySem.Spec PyProof.Rows L2
section
variable {X : Cx} {c : C}
/-- a comprehension's tests -/
def PIfs (X : Cx) (c : C) (ifs : List Expr) (g : G Bool) : Prop :=
  ∀ (pins : List (Addr × Obj)) (s : Shared) (σ : L2.St) (H : Hp) (Q : Bool → Hp → Prop), Inv X pins σ H s → tB c g σ H Q →
    wpAny (model X.prog X.w) X.A (forIn ifs true fun c r => if r = true then do let ok ← isTrue c X.env (eval c X.env); pure (ForInStep.yield ok) else pure (ForInStep.yield r)) (TP X pins σ Q) X.xe s
def gTt : G Bool := fun _ => .ok true
theorem pifs_nil : PIfs X c [] gTt := fun pins s σ H Q I ⟨J, env, sr, w⟩ => wpAny_tests_nil ⟨H, I, w J H (Ext.refl sr.hp.sub)⟩
def compG (gt : GT) (gts : G Bool) (ge : G R) : List D → Ev → M (List D)
  | [], _ => .ok []
  | d :: ds, env => gt d env >>= fun e => gts e >>= fun k => if k = true then ge e >>= fun r => toD r >>= fun y => compG gt gts ge ds e >>= fun ys => .ok (y :: ys) else compG gt gts ge ds e
def cE (n : Nat) (cap : List Nat) (env : Ev) : Ev := List.replicate n none ++ cap.map fun (j : Nat) => (env[j]?).getD none
def gComp (n : Nat) (cap : List Nat) (gi : G (List D)) (gt : GT) (gts : G Bool) (ge : G R) : G R := fun env => gi env >>= fun ds => if ds.length ≤ sizeLine then compG gt gts ge ds (cE n cap env) >>= fun ys => .ok (.l .fresh ys) else .bad
theorem cE_at {α : Type} {n : Nat} {cap : List Nat} {env : List (Option α)} {i : Nat} {x : α} (h : (List.replicate n none ++ cap.map fun (j : Nat) => (env[j]?).getD none)[i]? = some (some x)) : ∃ j, n ≤ i ∧ cap[i - n]? = some j ∧ env[j]? = some (some x) := by
  by_cases hi : i < n
  · rw [List.getElem?_append_left (by simpa using hi), List.getElem?_replicate] at h
    split at h <;> cases h
  · rw [List.getElem?_append_right (by simpa using hi), List.length_replicate, List.getElem?_map] at h
    cases q : cap[i - n]? with
    | none => rw [q] at h; cases h
    | some j =>
      rw [q] at h
      refine ⟨j, by omega, rfl, ?_⟩
      have h' : (env[j]?).getD none = some x := Option.some.inj h
      cases z : env[j]? with
      | none => rw [z] at h'; cases h'
      | some o => rw [z] at h'; exact congrArg some h'
theorem cE_of {α : Type} {n : Nat} {cap : List Nat} {env : List (Option α)} {i j : Nat} {x : α} (h1 : n ≤ i) (h2 : cap[i - n]? = some j) (h3 : env[j]? = some (some x)) : (List.replicate n none ++ cap.map fun (j : Nat) => (env[j]?).getD none)[i]? = some (some x) := by
  rw [List.getElem?_append_right (by simpa using h1), List.length_replicate, List.getElem?_map, h2]
  simp [h3]
theorem SR.cap {J H : Hp} {σ : L2.St} {env : Ev} (sr : SR c J H σ env) (n : Nat) (cap : List Nat) (hnd : cap.Nodup) : SR c J H (List.replicate n none ++ cap.map fun (j : Nat) => (σ[j]?).getD none) (cE n cap env) := by
  refine ⟨sr.hp, by simp [cE], fun i x q => ?_, fun i j xs ys v hij q1 q2 q3 q4 => ?_⟩
  · obtain ⟨j, h1, h2, h3⟩ := cE_at q
    obtain ⟨v, k1, k2⟩ := sr.at_ j x h3
    exact ⟨v, cE_of h1 h2 k1, k2⟩
  · obtain ⟨a, h1, h2, h3⟩ := cE_at q1
    obtain ⟨b, h4, h5, h6⟩ := cE_at q2
    obtain ⟨a', h7, h8, h9⟩ := cE_at q3
    obtain ⟨b', h10, h11, h12⟩ := cE_at q4
    rw [h2] at h8; cases h8
    rw [h5] at h11; cases h11
    have hab : a ≠ b := fun z => by
      subst z
      have e1 := (List.getElem?_eq_some_iff.mp h2)
      have e2 := (List.getElem?_eq_some_iff.mp h5)
      have := (List.getElem_inj hnd).mp (e1.2.trans e2.2.symm)
      omega
    exact sr.sep a b xs ys v hab h3 h6 h9 h12
/-- an object that no slot knows is changed -/
theorem SR.other {J H : Hp} {σ : L2.St} {env : Ev} (sr : SR c J H σ env) {p : Addr} {o : HO} (hJ : J p = none) (h0 : c.H0 p = none) (hn : ∀ (j : Nat) (xs : List D), env[j]? = some (some (.own xs)) → σ[j]? ≠ some (some (.ref p))) : SR c J (L2.upd H p o) σ env := by
  refine ⟨⟨fun b u q => ?_, fun b u q => ?_, sr.hp.entJ, sr.hp.frz⟩, sr.len, fun j y q => ?_, sr.sep⟩
  · have : b ≠ p := fun z => by rw [z, hJ] at q; cases q
    rw [upd_ne this]; exact sr.hp.sub b u q
  · have : b ≠ p := fun z => by rw [z, h0] at q; cases q
    rw [upd_ne this]; exact sr.hp.ent b u q
  · obtain ⟨w, k1, k2⟩ := sr.at_ j y q
    refine ⟨w, k1, ?_⟩
    cases y with
    | d x => exact k2
    | bor zs => exact k2
    | own zs =>
      obtain ⟨p', us, rfl, m1, m2, m3, m4⟩ := k2
      have hne : p' ≠ p := fun z => hn j zs q (z ▸ k1)
      exact ⟨p', us, rfl, by rw [upd_ne hne]; exact m1, m2, m3, m4⟩
theorem Ext.other {J H J' H' : Hp} (e : Ext J H J' H') {p : Addr} {o : HO} (h : H p = none) (hJ : J' p = none) : Ext J H J' (L2.upd H' p o) :=
  ⟨fun b u q => by rw [upd_ne (ne_of_none q h)]; exact e.h b u q, e.j, fun b u q => by
    have : b ≠ p := fun z => by rw [z, hJ] at q; cases q
    rw [upd_ne this]; exact e.sub b u q, e.frz⟩
theorem sameBut_hok {P : Program} {w : World} {H : Hp} {h h' : Heap} {a : Addr} (x : HOk P w H h) (hn : H a = none) (sb : Heap.SameBut a h h') : HOk P w H h' := fun b u e => by
  refine (x b u e).stay (fun d v hd q => (sb.2 d ?_).trans q) (fun _ q => q) fun _ _ q => q
  rintro rfl
  rcases hd with rfl | hd
  · rw [hn] at e; cases e
  · rw [hn] at hd; cases hd
/-- the block's context stands -/
theorem cxC_ok {pins : List (Addr × Obj)} {σ : L2.St} {H : Hp} {s : Shared} {own : List Str} {cap : List Nat} {scope : Scope} {cl : List (Str × Addr)} {fp : List Addr} (I : Inv X pins σ H s) (hk : scope.kind = .function) (hcell : ∀ y ∈ scope.names, y.2 ≠ .cell)
    (hcl : clsOf X.env.cells scope.names [] = some cl) (hfp : ∀ b ∈ fp, FpOk X pins H b) (hin : ∀ b ∈ fp, b < s.heap.objs.size) : (cxC X own cap scope cl s.heap.objs.size s H fp).Ok := by
  obtain ⟨m1, m2⟩ := clsOf_mem scope.names [] cl hcl (fun x c h => by simp at h)
  refine ⟨I.ok.mod, hk, I.ok.glob, I.ok.blt, Nat.le_refl _, fun x y d h1 h2 => I.ok.inj x y d (m1 x d h1) (m1 y d h2), fun x hx => ?_, fun x d h => absurd (show false = true from h) (by decide), fun hc => I.ok.hd hc, I.ok.frames, .inl rfl, fun b hb => ⟨Nat.ne_of_lt (hin b hb), fun x d h => (hfp b hb).2.2.2.2.1 x d (m1 x d h)⟩,
    I.bs, Nat.le_trans I.ok.bsz I.sz, fun b o h hb => ?_, fun b hb hf => ?_, I.stack, I.stkFree⟩
  · exact Option.isSome_iff_exists.mp (m2 x (.inr (relabel_free hcell hx)))
  · rcases (hfp b hb).2.2.2.1 with z | z
    · exact I.ok.noex b o h z
    · exact absurd (Nat.lt_of_lt_of_le (Heap.lt_size (I.ok.bs b o h).1) z) (Nat.lt_irrefl _)
  · rcases List.mem_cons.mp (I.stkSub b hf) with e | e
    · exact (hfp b hb).2.1 e
    · exact (hfp b hb).2.2.1 e
/-- its first state -/
theorem cxC_inv {pins : List (Addr × Obj)} {σ : L2.St} {H : Hp} {s : Shared} {own : List Str} {cap : List Nat} {scope : Scope} {cl : List (Str × Addr)} {fp : List Addr} {h1 : Heap} {m : Str → Option Value} {tk : Nat} (I : Inv X pins σ H s) (ok : (cxC X own cap scope cl s.heap.objs.size s H fp).Ok)
    (hcl : clsOf X.env.cells scope.names [] = some cl) (hcell : ∀ y ∈ scope.names, y.2 ≠ .cell) (hcap : capOk X cap = true) (hlocal : ∀ j ∈ cap, ∀ x, X.N[j]? = some x → (relabel scope X.env).names.lookup x ≠ some .local)
    (hns : h1.Ns s.heap.objs.size m) (old : ∀ b o, s.heap.get? b = some o → h1.get? b = some o) :
    Inv (cxC X own cap scope cl s.heap.objs.size s H fp) [] (List.replicate own.length none ++ cap.map fun (j : Nat) => (σ[j]?).getD none) H { s with heap := h1, toks := tk } := by
  obtain ⟨m1, m2⟩ := clsOf_mem scope.names [] cl hcl (fun x c h => by simp at h)
  refine ⟨ok, rfl, I.bare, Un.kept old, ⟨m, hns, fun i x v q1 q2 q3 => ?_⟩, fun x d h => ?_, I.hok.fresh (Nat.le_refl _), fun x d h => I.freeC x d (m1 x d h), fun p hp => absurd (show p ∈ ([] : List (Addr × Obj)) from hp) (by simp), I.hok.kept old, ?_⟩
  · obtain ⟨j, h2, h3, h4⟩ := cE_at q2
    have q1' : (own ++ cap.map fun (j : Nat) => (X.N[j]?).getD ("" : Str))[i]? = some x := q1
    rw [List.getElem?_append_right (by exact h2), List.getElem?_map, h3] at q1'
    have hj : j ∈ cap := List.mem_of_getElem? h3
    have hc : (match X.N[j]? with
      | some x => (match X.env.scope.names.lookup x with
        | some .cell => true
        | some .free => true
        | _ => false)
      | none => false) = true := by
      unfold capOk at hcap
      exact List.all_eq_true.mp hcap j hj
    cases hx : X.N[j]? with
    | none => rw [hx] at hc; cases hc
    | some y =>
      rw [Option.map_some, hx] at q1'
      rw [hx] at hc
      have e : y = x := by simpa using q1'
      subst e
      have kd : X.env.kindOf y = some .cell ∨ X.env.kindOf y = some .free := by
        unfold Env.kindOf
        simp only at hc
        split at hc
        · rename_i z; exact .inl z
        · rename_i z; exact .inr z
        · cases hc
      obtain ⟨mX, nX, lX⟩ := I.loc
      obtain ⟨u, ru, lu⟩ := lX j y v hx h4 (kd.elim (fun z => .inr (.inl z)) fun z => .inr (.inr z))
      refine ⟨u, ru, .inr ?_⟩
      have kd' : (relabel scope X.env).names.lookup y = some .cell ∨ (relabel scope X.env).names.lookup y = some .free := by
        rcases q3 with z | z | z
        · exact absurd z (hlocal j hj y hx)
        · exact .inl z
        · exact .inr z
      refine ⟨kd', ?_⟩
      obtain ⟨d, hd⟩ := Option.isSome_iff_exists.mp (m2 y (.inr (relabel_free hcell kd')))
      refine ⟨d, hd, ?_⟩
      rcases lu with ⟨z, _⟩ | ⟨_, d', hd', z⟩
      · rcases kd with k | k <;> (rw [k] at z; cases z)
      · have := m1 y d hd
        rw [hd'] at this
        cases this
        obtain ⟨o, ho, hod⟩ := z
        exact ⟨o, old _ _ ho, hod⟩
  · obtain ⟨v, o, ho, hod⟩ := I.cell x d (m1 x d h)
    exact ⟨v, o, old _ _ ho, hod⟩
  · show _ = (own ++ cap.map fun (j : Nat) => (X.N[j]?).getD ("" : Str)).length
    simp
def capLoc (X : Cx) (cap : List Nat) (scope : Scope) : Bool := cap.all fun j => match X.N[j]? with
  | some x => !((relabel scope X.env).names.lookup x == some .local)
  | none => true
def nodN : List Nat → Bool
  | [] => true
  | x :: r => !(r.contains x) && nodN r
theorem nodN_ok : ∀ {l : List Nat}, nodN l = true → l.Nodup
  | [], _ => List.nodup_nil
  | x :: r, h => by
    unfold nodN at h
    rw [Bool.and_eq_true] at h
    refine List.nodup_cons.mpr ⟨fun z => ?_, nodN_ok h.2⟩
    have := h.1
    simp [z] at this
theorem pd_comp (own : List Str) (cap : List Nat) {elt target iter : Expr} {ifs : List Expr} {scope : Scope} {pos : Pos} {gi : G (List D)} {gt : GT} {gts : G Bool} {ge : G R} (hi : PIc X c target iter gi)
    (hbody : ∀ (cl : List (Str × Addr)) (C : Addr) (s : Shared) (H : Hp) (fp : List Addr), PTg (cxC X own cap scope cl C s H fp) c target gt ∧ PIfs (cxC X own cap scope cl C s H fp) c ifs gts ∧ PD (cxC X own cap scope cl C s H fp) c elt ge)
    (hk : scope.kind = .function := by rfl) (hcell : (scope.names.all fun y => !(y.2 == .cell)) = true := by rfl) (hnames : (scope.names.all fun x => !(x.2 == .local) || (scope.names.lookup x.1 == some .local)) = true := by rfl)
    (hcl : (clsOf X.env.cells scope.names []).isSome = true := by rfl) (hcap : capOk X cap = true := by rfl) (hloc : capLoc X cap scope = true := by rfl) (hnd : nodN cap = true := by rfl) (hcalm : X.calm = true := by rfl)
    (hs : ∀ x, foldedSetIterable iter X.env x = pure x := by intro _; rfl) : PD X c (.ListComp elt [⟨target, iter, ifs, 0⟩] scope pos) (gComp own.length cap gi gt gts ge) := by
  intro pins s σ H Q I h
  obtain ⟨J, env, sr, w⟩ := h
  obtain ⟨cl, hcl⟩ := Option.isSome_iff_exists.mp hcl
  have hcell' : ∀ y ∈ scope.names, y.2 ≠ .cell := fun y hy z => by
    have := List.all_eq_true.mp hcell y hy
    rw [z] at this
    cases this
  have hnames' : ∀ x ∈ scope.names, x.2 = .local → scope.names.lookup x.1 = some .local := fun y hy z => by
    have := List.all_eq_true.mp hnames y hy
    rw [z] at this
    simpa using this
  have hloc' : ∀ j ∈ cap, ∀ x, X.N[j]? = some x → (relabel scope X.env).names.lookup x ≠ some .local := fun j hj x hx z => by
    have := List.all_eq_true.mp hloc j hj
    rw [hx] at this
    simp only at this
    rw [z] at this
    cases this
  rw [eval_ListComp]
  refine wpAny_comprehension_free (use := none) rfl hs (closureFor_of hcl) hk hnames' ?_
  refine thn (hi pins s σ H (fun It H1 => ∃ ds J1, Ext J H J1 H1 ∧ Walk c It ds J1 (fun J' H' => Same J1 J' ∧ Same H1 H') ∧
    wpM (if ds.length ≤ sizeLine then compG gt gts ge ds (cE own.length cap env) >>= fun ys => .ok (R.l .fresh ys) else .bad) (fun r => ∀ v J' H', Ext J H J' H' → RR c H J' H' r v → Q v H') c.T) I ⟨J, env, sr, wpM_mono (wpM_bind w) fun ds wd It J1 H1 e1 wk => ⟨ds, J1, e1, wk, wd⟩⟩) fun xv s1 h1 => thn h1 fun itv s2 h2 => ?_
  obtain ⟨it, fp, tn, It, H2, rfl, I2, T, st2, f2, ds, J2, e2, wk, w2⟩ := h2
  have hsz : ds.length ≤ sizeLine := by
    by_cases z : ds.length ≤ sizeLine
    · exact z
    · rw [if_neg z] at w2; exact w2.elim
  rw [if_pos hsz] at w2
  have w3 := wpM_bind w2
  refine wpAny_newObj_type (wpAny_newFunctionEnv hcell' (by intro y hy; simp at hy) (fun h₁ hns₁ hsb₁ => ?_) hk)
  dsimp only at hns₁ hsb₁ ⊢
  generalize hHs : s2.heap.push { cls := .type "list", dict := none, data := .seq ([] : List Value).toArray } = Hs at hns₁ hsb₁ ⊢
  have hC : Hs.objs.size = s2.heap.objs.size + 1 := by rw [← hHs, Heap.size_push]
  have hp2 : H2 s2.heap.objs.size = none := I2.hok.fresh (Nat.le_refl _)
  have kHs : ∀ b o, s2.heap.get? b = some o → Hs.get? b = some o := fun b o e => by rw [← hHs]; exact Heap.get?_push_of_some _ e
  have I3 : Inv X pins σ (L2.upd H2 s2.heap.objs.size (.lst [])) { s2 with heap := Hs, toks := s2.toks } := I2.laid (t' := s2.toks) kHs (Nat.le_refl _) ⟨Nat.zero_le _, [], 0, .nil, by rw [← hHs]; exact Heap.get?_push_size _ rfl⟩
  have f3 : ∀ b ∈ fp, FpOk X pins (L2.upd H2 s2.heap.objs.size (.lst [])) b := fun b hb => by
    obtain ⟨o, ho, _⟩ := T.obj _ _ st2 b hb
    exact ⟨by rw [upd_ne (Nat.ne_of_lt (Heap.lt_size ho))]; exact (f2 b hb).1, (f2 b hb).2⟩
  have hin : ∀ b ∈ fp, b < Hs.objs.size := fun b hb => by
    obtain ⟨o, ho, _⟩ := T.obj _ _ st2 b hb
    exact Nat.lt_trans (Heap.lt_size ho) (by rw [hC]; exact Nat.lt_succ_self _)
  have okC := cxC_ok (own := own) (cap := cap) I3 hk hcell' hcl f3 hin
  have old1 : ∀ b o, Hs.get? b = some o → h₁.get? b = some o := fun b o e => hsb₁.extBut b o (Nat.ne_of_lt (Heap.lt_size e)) (Heap.get?_push_of_some _ e)
  have I4 := cxC_inv (tk := s2.toks + ([] : List (Str × Value)).length) I3 okC hcl hcell' hcap hloc' hns₁ old1
  have sr2 := sr.ext e2
  have srA : SR c J2 (L2.upd H2 s2.heap.objs.size (.lst [])) σ env := sr2.ext (Ext.new e2.sub hp2 _)
  have J2p : J2 s2.heap.objs.size = none := e2.sub.free hp2
  have H0p : c.H0 s2.heap.objs.size = none := sr2.hp.ent.free hp2
  have nown : ∀ (j : Nat) (xs : List D), (cE own.length cap env)[j]? = some (some (.own xs)) → (List.replicate own.length none ++ cap.map fun (j : Nat) => (σ[j]?).getD none)[j]? ≠ some (some (.ref s2.heap.objs.size)) := fun j xs q z => by
    obtain ⟨a, h1, h2, h3⟩ := cE_at q
    obtain ⟨a', h4, h5, h6⟩ := cE_at z
    rw [h2] at h5; cases h5
    obtain ⟨v, k1, p, vs, rfl, k2, _⟩ := sr2.at_ a _ h3
    rw [h6] at k1
    cases k1
    rw [hp2] at k2
    cases k2
  obtain ⟨hT, hIf, hE⟩ := hbody cl Hs.objs.size { s2 with heap := Hs, toks := s2.toks } (L2.upd H2 s2.heap.objs.size (.lst [])) fp
  have fpC : ∀ {H' : Hp}, (∀ b ∈ fp, H' b = none) → ∀ b ∈ fp, FpOk (cxC X own cap scope cl Hs.objs.size { s2 with heap := Hs, toks := s2.toks } (L2.upd H2 s2.heap.objs.size (.lst [])) fp) [] H' b := fun {H'} hn b hb => by
    obtain ⟨m1, _⟩ := clsOf_mem scope.names [] cl hcl (fun x c h => by simp at h)
    refine ⟨hn b hb, Nat.ne_of_lt (hin b hb), fun z => ?_, .inl hb, fun x d h => (f2 b hb).2.2.2.2.1 x d (m1 x d h), fun p hp => absurd (show p ∈ ([] : List (Addr × Obj)) from hp) (by simp)⟩
    rcases List.mem_cons.mp (I2.stkSub b z) with e | e
    · exact (f2 b hb).2.1 e
    · exact (f2 b hb).2.2.1 e
  -- behind the block
  have back : ∀ {pi : List (Addr × Obj)} {σ' : L2.St} {H' : Hp} {s' : Shared} {h'' : Heap}, Inv (cxC X own cap scope cl Hs.objs.size { s2 with heap := Hs, toks := s2.toks } (L2.upd H2 s2.heap.objs.size (.lst [])) fp) pi σ' H' s' → Heap.SameBut Hs.objs.size s'.heap h'' → Inv X pins σ H' { s' with heap := h'' } := fun {pi σ' H' s' h''} I' sb => by
    have B : Un (frs X.stack) fp (L2.upd H2 s2.heap.objs.size (.lst [])) H' Hs s'.heap := I'.base
    have ne2 : ∀ {b : Addr} {o : Obj}, s2.heap.get? b = some o → b ≠ s2.heap.objs.size ∧ b ≠ Hs.objs.size := fun {b o} e =>
      ⟨Nat.ne_of_lt (Heap.lt_size e), Nat.ne_of_lt (Nat.lt_trans (Heap.lt_size e) (by rw [hC]; exact Nat.lt_succ_self _))⟩
    have nH : ∀ {b : Addr} {o : HO}, H2 b = some o → L2.upd H2 s2.heap.objs.size (.lst []) b = some o := fun {b o} e => by rw [upd_ne (ne_of_none e hp2)]; exact e
    refine Inv.call' (ch := fp) (s' := { s' with heap := h'' }) I2 I'.os ⟨fun b o e n hf hx => ?_, fun b o e n hf hx => ?_, fun b o e n hx => ?_, fun b o e hx => ?_, fun b xs e => B.tups b xs (nH e), fun b o u e => B.frzs b o u (nH e), fun b ps e => B.tbls b ps (nH e)⟩ (sameBut_hok I'.hok I'.free sb) I'.bare fun b hb => ⟨(f2 b hb).2.2.2.1, (f2 b hb).2.1, (f2 b hb).2.2.2.2.1, (f2 b hb).2.2.2.2.2⟩
    · exact (sb.2 b (ne2 e).2).trans (B.keep b o (kHs b o e) (by rw [upd_ne (ne2 e).1]; exact n) hf hx)
    · obtain ⟨sl, z⟩ := B.slot b o (kHs b o e) (by rw [upd_ne (ne2 e).1]; exact n) hf hx
      exact ⟨sl, (sb.2 b (ne2 e).2).trans z⟩
    · exact B.free b o (kHs b o e) (by rw [upd_ne (ne2 e).1]; exact n) hx
    · obtain ⟨o', z⟩ := B.there b o (kHs b o e) hx
      exact ⟨o', (sb.2 b (ne2 e).2).trans z⟩
  have loop : ∀ s4 : Shared, s4 = { s2 with heap := h₁, toks := s2.toks + ([] : List (Str × Value)).length } →
      codeAny (model X.prog X.w) X.A (.compLoop (.ListComp elt [⟨target, iter, ifs, 0⟩] scope pos) 0 (.ref it) (.ref s2.heap.objs.size) (compEnvC scope cl Hs.objs.size X.env))
        (compPost (model X.prog X.w) X.A X.xe none (EP X pins σ Q) (.ref s2.heap.objs.size) Hs.objs.size) s4 := by
    rintro s4 rfl
    refine compLoop_any (fun n s' => ∃ (i : Nat) (σ' : L2.St) (H' J' : Hp) (env' : Ev) (us : List V) (ys0 : List D), n = ds.length - i ∧ i ≤ ds.length ∧ Inv (cxC X own cap scope cl Hs.objs.size { s2 with heap := Hs, toks := s2.toks } (L2.upd H2 s2.heap.objs.size (.lst [])) fp) [] σ' H' s' ∧ tn i s'.heap ∧ (∀ b ∈ fp, H' b = none) ∧
      Ext J2 H2 J' H' ∧ SR c J' H' σ' env' ∧ (∀ (j : Nat) (xs : List D), env'[j]? = some (some (.own xs)) → σ'[j]? ≠ some (some (.ref s2.heap.objs.size))) ∧ H' s2.heap.objs.size = some (.lst us) ∧ J' s2.heap.objs.size = none ∧ Reps c.K J' ys0 us ∧ us.length ≤ i ∧
      wpM (compG gt gts ge (ds.drop i) env') (fun ys => ∀ v J' H', Ext J H J' H' → RR c H J' H' (.l .fresh (ys0 ++ ys)) v → Q v H') c.T) ?_ ds.length
      ⟨0, _, _, J2, _, [], [], rfl, Nat.zero_le _, I4, T.keep _ _ _ st2 (fun b hb o e => old1 b o (kHs b o e)), fun b hb => (f3 b hb).1, Ext.new e2.sub hp2 _, srA.cap own.length cap (nodN_ok hnd), nown, upd_same, J2p, .nil, Nat.le_refl _, by rw [List.drop_zero]; exact w3⟩
    rintro n s' ⟨i, σ', H', J', env', us, ys0, rfl, hi', I', st', fr', e', sr', no', hp', Jp', rs', hl', w'⟩
    obtain ⟨wk1, wk2⟩ := wk i J' H' sr'.hp ⟨e'.j, e'.h⟩
    by_cases hlt : i < ds.length
    · obtain ⟨g1, y1⟩ := wk2 ds[i] (by simp [hlt])
      rw [List.drop_eq_getElem_cons hlt] at w'
      refine wpAny_mono (T.item (cxC X own cap scope cl Hs.objs.size { s2 with heap := Hs, toks := s2.toks } (L2.upd H2 s2.heap.objs.size (.lst [])) fp) rfl rfl rfl hcalm i [] s' σ' H' (fun _ _ => False) I' (fpC fr') st' g1) (fun r s4 ⟨u, hr, h4⟩ => ?_) fun _ _ f => f.elim
      subst hr
      refine wpAny_mono h4 (fun _ s5 ⟨x, H5, I5, r5, y5, st5, fr5⟩ => ?_) fun _ _ f => f.elim
      obtain ⟨J5, e5, rx⟩ := y1 x H5 y5
      have I5' := I5.pinned (fpC fr5) (T.obj _ _ st5)
      have again : ∀ {σ7 : L2.St} {H7 : Hp} {s7 : Shared}, Inv (cxC X own cap scope cl Hs.objs.size { s2 with heap := Hs, toks := s2.toks } (L2.upd H2 s2.heap.objs.size (.lst [])) fp) ([] ++ pinsAt fp s5.heap) σ7 H7 s7 →
          Inv (cxC X own cap scope cl Hs.objs.size { s2 with heap := Hs, toks := s2.toks } (L2.upd H2 s2.heap.objs.size (.lst [])) fp) [] σ7 H7 s7 ∧ tn (i + 1) s7.heap ∧ (∀ b ∈ fp, H7 b = none) := fun {σ7 H7 s7} I7 => by
        refine ⟨I7.unpinned, T.keep _ _ _ st5 fun b hb o e => (I7.pin (b, o) (List.mem_append_right _ (List.mem_append_right _ (mem_pinsAt hb e)))).1, fun b hb => ?_⟩
        obtain ⟨o, e, d⟩ := T.obj _ _ st5 b hb
        exact (I7.pin (b, o) (List.mem_append_right _ (List.mem_append_right _ (mem_pinsAt hb e)))).2.1
      have p5 : H5 s2.heap.objs.size = some (.lst us) := e5.h _ _ hp'
      have pn : ∀ {J H : Hp}, H s2.heap.objs.size = some (.lst us) → H s2.heap.objs.size ≠ none := fun h z => by rw [h] at z; cases z
      refine wpAny_mono (hT _ s5 σ' H5 x u (fun σ6 H6 => ∃ e6, H6 = H5 ∧ SR c J5 H5 σ6 e6 ∧ KO env' σ' e6 σ6 ∧ wpM (gts e6 >>= fun k => if k = true then ge e6 >>= fun r => toD r >>= fun y => compG gt gts ge (ds.drop (i + 1)) e6 >>= fun ys => .ok (y :: ys) else compG gt gts ge (ds.drop (i + 1)) e6)
        (fun ys => ∀ v J' H', Ext J H J' H' → RR c H J' H' (.l .fresh (ys0 ++ ys)) v → Q v H') c.T) I5' r5 ⟨J5, env', ds[i], sr'.ext e5, rx, wpM_mono (wpM_bind w') fun e6 w6 σ6 sr6 ko => ⟨e6, rfl, sr6, ko, w6⟩⟩) (fun _ s6 ⟨σ6, H6, I6, e6, hH6, sr6, ko, w6⟩ => ?_) fun _ _ f => f.elim
      subst hH6
      have no6 : ∀ (j : Nat) (xs : List D), e6[j]? = some (some (.own xs)) → σ6[j]? ≠ some (some (.ref s2.heap.objs.size)) := fun j xs q z => by
        obtain ⟨k1, k2⟩ := ko j xs q
        exact no' j xs k1 (k2 ▸ z)
      have J5p : J5 s2.heap.objs.size = none := e5.frz _ (by rw [hp']; intro z; cases z) Jp'
      refine wpAny_mono (hIf _ s6 σ6 H6 (fun k H7 => ∃ J7, Ext J5 H6 J7 H7 ∧ wpM (if k = true then ge e6 >>= fun r => toD r >>= fun y => compG gt gts ge (ds.drop (i + 1)) e6 >>= fun ys => .ok (y :: ys) else compG gt gts ge (ds.drop (i + 1)) e6)
        (fun ys => ∀ v J' H', Ext J H J' H' → RR c H J' H' (.l .fresh (ys0 ++ ys)) v → Q v H') c.T) I6 ⟨J5, e6, sr6, wpM_mono (wpM_bind w6) fun k wk J7 H7 e7 => ⟨J7, e7, wk⟩⟩) (fun k s7 ⟨H7, I7, J7, e7, w7⟩ => ?_) fun _ _ f => f.elim
      have p7 : H7 s2.heap.objs.size = some (.lst us) := e7.h _ _ p5
      have J7p : J7 s2.heap.objs.size = none := e7.frz _ (by rw [p5]; intro z; cases z) J5p
      have sr7 := sr6.ext e7
      cases k with
      | false =>
        rw [if_neg (by decide)] at w7 ⊢
        obtain ⟨a1, a2, a3⟩ := again I7
        exact ⟨ds.length - (i + 1), by omega, i + 1, σ6, H7, J7, e6, us, ys0, rfl, hlt, a1, a2, a3, (e'.trans e5).trans e7, sr7, no6, p7, J7p, rs'.mono (e5.j.trans e7.j), by omega, w7⟩
      | true =>
        rw [if_pos rfl] at w7 ⊢
        refine wpAny_mono (hE _ s7 σ6 H7 (fun v H8 => ∃ J8 y, Ext J7 H7 J8 H8 ∧ Rep c.K J8 y v ∧ wpM (compG gt gts ge (ds.drop (i + 1)) e6 >>= fun ys => .ok (y :: ys)) (fun ys => ∀ v J' H', Ext J H J' H' → RR c H J' H' (.l .fresh (ys0 ++ ys)) v → Q v H') c.T) I7
          ⟨J7, e6, sr7, wpM_mono (wpM_bind w7) fun r wr v J8 H8 e8 r8 => ?_⟩) (fun u8 s8 ⟨v8, H8, I8, r8, J8, y, e8, ry, w8⟩ => ?_) fun _ _ f => f.elim
        · obtain ⟨y, q, wr⟩ := wpM_toD wr
          obtain ⟨J9, e9, _, ry⟩ := freeze e8 r8 q
          exact ⟨J9, y, e9, ry, wr⟩
        have p8 : H8 s2.heap.objs.size = some (.lst us) := e8.h _ _ p7
        have J8p : J8 s2.heap.objs.size = none := e8.frz _ (by rw [p7]; intro z; cases z) J7p
        refine wpAny_mono (mt_append (X := (cxC X own cap scope cl Hs.objs.size { s2 with heap := Hs, toks := s2.toks } (L2.upd H2 s2.heap.objs.size (.lst [])) fp)) _ s8 σ6 H8 (.ref s2.heap.objs.size) [v8] (.ref s2.heap.objs.size) [u8] (fun _ H9 => H9 = L2.upd H8 s2.heap.objs.size (.lst (us ++ [v8]))) I8 rfl (.cons r8 .nil) ⟨_, us, v8, rfl, rfl, p8, by omega, rfl⟩) (fun _ s9 ⟨_, H9, I9, _, h9⟩ => ?_) fun _ _ f => f.elim
        subst h9
        obtain ⟨a1, a2, a3⟩ := again I9
        refine ⟨ds.length - (i + 1), by omega, i + 1, σ6, _, J8, e6, us ++ [v8], ys0 ++ [y], rfl, hlt, a1, a2, a3, (((e'.trans e5).trans e7).trans e8).other hp2 J8p, (sr7.ext e8).other J8p H0p no6, no6, upd_same, J8p, (rs'.mono ((e5.j.trans e7.j).trans e8.j)).append (.cons ry .nil), by simp; omega, ?_⟩
        refine wpM_mono (wpM_bind w8) fun ys q v J' H' ee rr => q v J' H' ee ?_
        rw [List.append_assoc] at rr
        exact rr
    · have hie : i = ds.length := by omega
      rw [List.drop_eq_nil_of_le (by omega)] at w'
      refine wpAny_mono (T.done (cxC X own cap scope cl Hs.objs.size { s2 with heap := Hs, toks := s2.toks } (L2.upd H2 s2.heap.objs.size (.lst [])) fp) rfl rfl rfl hcalm i [] s' σ' H' (fun _ _ => False) I' (fpC fr') st' (wk1 (by omega))) (fun r s4 ⟨hr, I9⟩ => ?_) fun _ _ f => f.elim
      subst hr
      obtain ⟨m, hm, _⟩ := I9.loc
      refine ⟨m, hm, fun h'' sb => ⟨.ref s2.heap.objs.size, H', back I9 sb, rfl, ?_⟩⟩
      have w9 : ∀ v J' H', Ext J H J' H' → RR c H J' H' (.l .fresh (ys0 ++ [])) v → Q v H' := w'
      rw [List.append_nil] at w9
      exact w9 _ J' H' (e2.trans e') ⟨_, us, rfl, hp', Jp', e2.h.free hp2, rs'⟩
  exact codeAny_compStart_list (loop _ rfl) (T.self _ 0 _ _ _ (T.keep _ _ _ st2 (fun b hb o e => old1 b o (kHs b o e))) (loop _ rfl))
end
end DL
set_option Elab.async false
set_option linter.all false
set_option maxRecDepth 100000
set_option maxHeartbeats 4000000
namespace DL
open PySem PySem.Spec PyProof.Rows L2
/-! ### == of data -/
mutual
def eqD : D → D → Bool
  | .non, .non => true
  | .bl p, .bl q => p == q
  | .bl p, .int q => (if p then 1 else 0) == q
  | .int p, .bl q => p == (if q then 1 else 0)
  | .int p, .int q => p == q
  | .str p, .str q => p == q
  | .tup p, .tup q => eqDs p q
  | .lst p, .lst q => eqDs p q
  | .emp, .emp => true
  | _, _ => false
def eqDs : List D → List D → Bool
  | [], [] => true
  | x :: xs, y :: ys => eqD x y && eqDs xs ys
  | _, _ => false
end
mutual
def dep : D → Nat
  | .tup xs => deps xs + 1
  | .lst xs => deps xs + 1
  | .emp => 5000
  | _ => 0
def deps : List D → Nat
  | [] => 0
  | x :: xs => max (dep x) (deps xs)
end
mutual
theorem eqD_refl : ∀ d : D, eqD d d = true
  | .non => by simp [eqD]
  | .bl _ => by simp [eqD]
  | .int _ => by simp [eqD]
  | .str _ => by simp [eqD]
  | .tup xs => by simp only [eqD]; exact eqDs_refl xs
  | .lst xs => by simp only [eqD]; exact eqDs_refl xs
  | .emp => by simp [eqD]
theorem eqDs_refl : ∀ ds : List D, eqDs ds ds = true
  | [] => by simp [eqDs]
  | x :: xs => by simp only [eqDs, eqD_refl x, eqDs_refl xs, Bool.and_self]
end
theorem eqDs_len : ∀ {xs ys : List D}, xs.length ≠ ys.length → eqDs xs ys = false
  | [], [], h => absurd rfl h
  | [], _ :: _, _ => by simp [eqDs]
  | _ :: _, [], _ => by simp [eqDs]
  | x :: xs, y :: ys, h => by
    simp only [eqDs, eqDs_len (xs := xs) (ys := ys) (fun z => h (congrArg (· + 1) z)), Bool.and_false]
/-- the j-th pair -/
def nthEq (xs ys : List D) (j : Nat) : Bool := match xs[j]?, ys[j]? with
  | some x, some y => eqD x y
  | _, _ => false
theorem eqDs_nth : ∀ {xs ys : List D}, xs.length = ys.length → (List.range xs.length).all (nthEq xs ys) = eqDs xs ys
  | [], [], _ => by simp [eqDs]
  | x :: xs, y :: ys, h => by
    have ih := eqDs_nth (xs := xs) (ys := ys) (by simpa using h)
    rw [List.length_cons, List.range_succ_eq_map, List.all_cons, List.all_map]
    simp only [eqDs]
    rw [← ih]
    rfl
theorem eqDs_min (xs ys : List D) : ((List.range (min xs.length ys.length)).all (nthEq xs ys) && xs.length == ys.length) = eqDs xs ys := by
  by_cases h : xs.length = ys.length
  · rw [← h, Nat.min_self, eqDs_nth h]; simp
  · rw [eqDs_len h, beq_eq_false_iff_ne.mpr h, Bool.and_false]
section
/-- what is known of the heap -/
structure HF (K : PySem.W.Frag) (J : Hp) (s : Shared) : Prop where
  t : ∀ a xs, SqT K J a xs → ∃ its : List Value, Vals xs its ∧ s.heap.IsTuple a its.toArray
  l : ∀ a xs, SqL K J a xs → ∃ its : List Value, Vals xs its ∧ s.heap.IsList a its.toArray
  e : ∀ a, J a = some (.dK []) → ∃ o, s.heap.get? a = some o ∧ o.cls = .type "dict"
variable {K : PySem.W.Frag} {J : Hp} {s : Shared}
theorem HF.of {X : Cx} {c : C} {pins : List (Addr × Obj)} {σ : L2.St} {H : Hp} (I : Inv X pins σ H s) (hs : Same J H) : HF X.K J s :=
  ⟨fun a xs h => let ⟨its, r, p, _⟩ := I.tuple (sameT hs h); ⟨its, r, p⟩, fun a xs h => let ⟨its, r, p, _⟩ := I.list (hs.seq h); ⟨its, r, p.isList⟩, fun a h => by
    obtain ⟨_, _, vs, _, p⟩ := (show ObjOk X.prog X.w H s.heap a (.dK []) from I.hok a _ (hs _ _ h))
    obtain ⟨o, es, ep, h1, h2, _⟩ := p
    exact ⟨o, h1, h2.1⟩⟩
theorem isTup_inj {a : Addr} {xs ys : List Value} (h : s.heap.IsTuple a xs.toArray) (h' : s.heap.IsTuple a ys.toArray) : xs = ys := by
  obtain ⟨o, ho, _, n, hd⟩ := h
  obtain ⟨o', ho', _, n', hd'⟩ := h'
  rw [ho] at ho'; cases ho'
  rw [hd] at hd'
  injection hd' with h1 _
  simpa using congrArg Array.toList h1
theorem isList_inj {a : Addr} {xs ys : List Value} (h : s.heap.IsList a xs.toArray) (h' : s.heap.IsList a ys.toArray) : xs = ys := by
  obtain ⟨o, ho, _, n, hd⟩ := h
  obtain ⟨o', ho', _, n', hd'⟩ := h'
  rw [ho] at ho'; cases ho'
  rw [hd] at hd'
  injection hd' with h1 _
  simpa using congrArg Array.toList h1
mutual
theorem Rep.inj (F : HF K J s) : ∀ {d e : D} {v : V}, Rep K J d v → Rep K J e v → d = e
  | _, _, _, .non, .non => rfl
  | _, _, _, .bl _, .bl _ => rfl
  | _, _, _, .int _, .int _ => rfl
  | _, _, _, .str _, .str _ => rfl
  | _, _, _, .emp _, .emp _ => rfl
  | _, _, _, .emp h, .tup h' _ => by
    obtain ⟨its, r, o', k1, k2, _⟩ := F.t _ _ h'
    obtain ⟨o, q1, q2⟩ := F.e _ h
    rw [q1] at k1; cases k1
    rw [q2] at k2; exact absurd k2 (by simp)
  | _, _, _, .tup h' _, .emp h => by
    obtain ⟨its, r, o', k1, k2, _⟩ := F.t _ _ h'
    obtain ⟨o, q1, q2⟩ := F.e _ h
    rw [q1] at k1; cases k1
    rw [q2] at k2; exact absurd k2 (by simp)
  | _, _, _, .emp h, .lst h' _ => by
    obtain ⟨its, r, o', k1, k2, _⟩ := F.l _ _ h'
    obtain ⟨o, q1, q2⟩ := F.e _ h
    rw [q1] at k1; cases k1
    rw [q2] at k2; exact absurd k2 (by simp)
  | _, _, _, .lst h' _, .emp h => by
    obtain ⟨its, r, o', k1, k2, _⟩ := F.l _ _ h'
    obtain ⟨o, q1, q2⟩ := F.e _ h
    rw [q1] at k1; cases k1
    rw [q2] at k2; exact absurd k2 (by simp)
  | _, _, _, .tup h hs, .tup h' hs' => by
    obtain ⟨its, r, p⟩ := F.t _ _ h
    obtain ⟨its', r', p'⟩ := F.t _ _ h'
    have := isTup_inj p p'
    subst this
    have := r.inj r'
    subst this
    rw [Reps.inj F hs hs']
  | _, _, _, .lst h hs, .lst h' hs' => by
    obtain ⟨its, r, p⟩ := F.l _ _ h
    obtain ⟨its', r', p'⟩ := F.l _ _ h'
    have := isList_inj p p'
    subst this
    have := r.inj r'
    subst this
    rw [Reps.inj F hs hs']
  | _, _, _, .tup h _, .lst h' _ => by
    obtain ⟨its, r, p⟩ := F.t _ _ h
    obtain ⟨its', r', p'⟩ := F.l _ _ h'
    exact absurd rfl (SeqAt.ne_of_list_tuple p' p)
  | _, _, _, .lst h _, .tup h' _ => by
    obtain ⟨its, r, p⟩ := F.l _ _ h
    obtain ⟨its', r', p'⟩ := F.t _ _ h'
    exact absurd rfl (SeqAt.ne_of_list_tuple p p')
theorem Reps.inj (F : HF K J s) : ∀ {ds es : List D} {vs : List V}, Reps K J ds vs → Reps K J es vs → ds = es
  | _, _, _, .nil, .nil => rfl
  | _, _, _, .cons h hs, .cons h' hs' => by rw [Rep.inj F h h', Reps.inj F hs hs']
end
theorem tuple_flat {A : Around} {a : Addr} {its : Array Value} {v : V} {u : Value} (h : s.heap.IsTuple a its) (r : RelV v u) (f : flatV v = true) (hu : A.units < cLine) : SeqAt.EqAt A s (.ref a) u false ∧ SeqAt.EqAt A s u (.ref a) false := by
  cases v with
  | non => cases r; exact ⟨.tuple_none h hu, .none_tuple h hu⟩
  | bl b => cases r; exact ⟨.tuple_bool b h hu, .bool_tuple b h hu⟩
  | int i => obtain ⟨t, rfl⟩ := r; exact ⟨.tuple_int i t h hu, .int_tuple i t h hu⟩
  | str x => obtain ⟨t, rfl⟩ := r; exact ⟨.tuple_str x t h hu, .str_tuple x t h hu⟩
  | _ => exact absurd (show false = true from f) Bool.false_ne_true
theorem list_flat {A : Around} {a : Addr} {its : Array Value} {v : V} {u : Value} (h : s.heap.IsList a its) (r : RelV v u) (f : flatV v = true) (hu : A.units < cLine) : SeqAt.EqAt A s (.ref a) u false ∧ SeqAt.EqAt A s u (.ref a) false := by
  cases v with
  | non => cases r; exact ⟨.list_none h hu, .none_list h hu⟩
  | bl b => cases r; exact ⟨.list_bool b h hu, .bool_list b h hu⟩
  | int i => obtain ⟨t, rfl⟩ := r; exact ⟨.list_int i t h hu, .int_list i t h hu⟩
  | str x => obtain ⟨t, rfl⟩ := r; exact ⟨.list_str x t h hu, .str_list x t h hu⟩
  | _ => exact absurd (show false = true from f) Bool.false_ne_true
def isFlat : D → Bool
  | .tup _ => false
  | .lst _ => false
  | .emp => false
  | _ => true
theorem Rep.flat {d : D} {v : V} (h : Rep K J d v) (f : isFlat d = true) : flatV v = true := by
  cases h <;> first | rfl | cases f
theorem eqV_flat {d e : D} {v w : V} (h : Rep K J d v) (h' : Rep K J e w) (f : isFlat d = true) (f' : isFlat e = true) : eqV v w = eqD d e := by
  cases h <;> cases h' <;> first | rfl | cases f | cases f' | simp [eqV, eqD]
theorem in1_units (A : Around) : A.in1.units = A.units + 1 := rfl
theorem flatAt (F : HF K J s) {d e : D} {v w : V} {u u' : Value} (A : Around) (hd : Rep K J d v) (he : Rep K J e w) (rv : RelV v u) (rw' : RelV w u') (f : isFlat d = true) (hu : A.units < cLine) (hu' : dep e ≤ 1000) : SeqAt.EqAt A s u u' (eqD d e) := by
  cases q : isFlat e with
  | true => rw [← eqV_flat hd he f q]; exact eqAt_V rv rw' (hd.flat f) (he.flat q)
  | false =>
    cases he with
    | tup h' hs' =>
      cases rw'
      obtain ⟨its', r', p'⟩ := F.t _ _ h'
      have := (tuple_flat p' rv (hd.flat f) hu).2
      cases hd <;> first | exact this | cases f
    | lst h' hs' =>
      cases rw'
      obtain ⟨its', r', p'⟩ := F.l _ _ h'
      have := (list_flat p' rv (hd.flat f) hu).2
      cases hd <;> first | exact this | cases f
    | emp _ => unfold dep at hu'; omega
    | _ => cases q
mutual
theorem eqAt_D (F : HF K J s) : ∀ {d e : D} {v w : V} {u u' : Value} (A : Around), Rep K J d v → Rep K J e w → RelV v u → RelV w u' → A.units + dep d < cLine → dep d ≤ 1000 → dep e ≤ 1000 → SeqAt.EqAt A s u u' (eqD d e)
  | .tup ds, e, _, w, u, u', A, .tup h hs, he, rv, rw', hu, hd1, hu' => by
    cases rv
    obtain ⟨its, r, p⟩ := F.t _ _ h
    have hu0 : A.units < cLine := by unfold dep at hu; omega
    cases he with
    | tup h' hs' =>
      cases rw'
      obtain ⟨its', r', p'⟩ := F.t _ _ h'
      rename_i a vs b ws es
      by_cases q : a = b
      · subst q
        have := Rep.inj F (.tup h hs) (.tup h' hs')
        rw [← this, eqD_refl]
        exact SeqAt.EqAt.same _
      · have l1 : its.length = ds.length := by rw [← r.length, hs.length]
        have l2 : its'.length = es.length := by rw [← r'.length, hs'.length]
        simp only [eqD]
        rw [← eqDs_min, ← l1, ← l2]
        refine SeqAt.EqAt.of_refs q ?_
        have := SeqAt.RcAt.tuples (e := nthEq ds es) p p' hu0 fun j j1 j2 => by
          have k1 : j < ds.length := by rw [← l1]; simpa using j1
          have k2 : j < es.length := by rw [← l2]; simpa using j2
          have := eqAt_Ds F A.in1 hs hs' r r' (by rw [in1_units]; unfold dep at hu; omega) (by unfold dep at hd1; omega) (by unfold dep at hu'; omega) j k1 k2
          have m1 : j < its.length := by simpa using j1
          have m2 : j < its'.length := by simpa using j2
          simpa [m1, m2] using this
        simpa using this
    | lst h' hs' =>
      cases rw'
      obtain ⟨its', r', p'⟩ := F.l _ _ h'
      exact SeqAt.EqAt.tuple_list p p' hu0
    | non => exact (tuple_flat p rw' rfl hu0).1
    | bl _ => exact (tuple_flat p rw' rfl hu0).1
    | int _ => exact (tuple_flat p rw' rfl hu0).1
    | str _ => exact (tuple_flat p rw' rfl hu0).1
    | emp _ => unfold dep at hu'; omega
  | .lst ds, e, _, w, u, u', A, .lst h hs, he, rv, rw', hu, hd1, hu' => by
    cases rv
    obtain ⟨its, r, p⟩ := F.l _ _ h
    have hu0 : A.units < cLine := by unfold dep at hu; omega
    cases he with
    | lst h' hs' =>
      cases rw'
      obtain ⟨its', r', p'⟩ := F.l _ _ h'
      rename_i a vs b ws es
      by_cases q : a = b
      · subst q
        have := Rep.inj F (.lst h hs) (.lst h' hs')
        rw [← this, eqD_refl]
        exact SeqAt.EqAt.same _
      · have l1 : its.length = ds.length := by rw [← r.length, hs.length]
        have l2 : its'.length = es.length := by rw [← r'.length, hs'.length]
        simp only [eqD]
        refine SeqAt.EqAt.of_refs q ?_
        by_cases z : ds.length = es.length
        · rw [← eqDs_nth z, ← l1]
          have := SeqAt.RcAt.lists (e := nthEq ds es) p p' (by simp; omega) hu0 fun j j1 j2 => by
            have k1 : j < ds.length := by rw [← l1]; simpa using j1
            have k2 : j < es.length := by rw [← l2]; simpa using j2
            have := eqAt_Ds F A.in1 hs hs' r r' (by rw [in1_units]; unfold dep at hu; omega) (by unfold dep at hd1; omega) (by unfold dep at hu'; omega) j k1 k2
            have m1 : j < its.length := by simpa using j1
            have m2 : j < its'.length := by simpa using j2
            simpa [m1, m2] using this
          simpa using this
        · rw [eqDs_len z]
          exact SeqAt.RcAt.lists_lengths p p' (by simp; omega) hu0
    | tup h' hs' =>
      cases rw'
      obtain ⟨its', r', p'⟩ := F.t _ _ h'
      exact SeqAt.EqAt.list_tuple p p' hu0
    | non => exact (list_flat p rw' rfl hu0).1
    | bl _ => exact (list_flat p rw' rfl hu0).1
    | int _ => exact (list_flat p rw' rfl hu0).1
    | str _ => exact (list_flat p rw' rfl hu0).1
    | emp _ => unfold dep at hu'; omega
  | .non, e, v, w, u, u', A, hd, he, rv, rw', hu, _, hu' => flatAt F A hd he rv rw' rfl (by omega) hu'
  | .bl _, e, v, w, u, u', A, hd, he, rv, rw', hu, _, hu' => flatAt F A hd he rv rw' rfl (by omega) hu'
  | .int _, e, v, w, u, u', A, hd, he, rv, rw', hu, _, hu' => flatAt F A hd he rv rw' rfl (by omega) hu'
  | .emp, e, v, w, u, u', A, hd, he, rv, rw', hu, hd1, hu' => by unfold dep at hd1; omega
  | .str _, e, v, w, u, u', A, hd, he, rv, rw', hu, _, hu' => flatAt F A hd he rv rw' rfl (by omega) hu'
theorem eqAt_Ds (F : HF K J s) : ∀ {ds es : List D} {vs ws : List V} {us us' : List Value} (A : Around), Reps K J ds vs → Reps K J es ws → Vals vs us → Vals ws us' → A.units + deps ds < cLine → deps ds ≤ 1000 → deps es ≤ 1000 →
    ∀ (j : Nat) (h1 : j < ds.length) (h2 : j < es.length), SeqAt.EqAt A s (us.getD j .none) (us'.getD j .none) (nthEq ds es j)
  | _, _, _, _, _, _, A, .cons h hs, .cons h' hs', .cons r rs, .cons r' rs', hu, k1, k2, 0, _, _ => eqAt_D F A h h' r r' (by unfold deps at hu; omega) (by unfold deps at k1; omega) (by unfold deps at k2; omega)
  | _, _, _, _, _, _, A, .cons h hs, .cons h' hs', .cons r rs, .cons r' rs', hu, k1, k2, j + 1, h1, h2 => eqAt_Ds F A hs hs' rs rs' (by unfold deps at hu; omega) (by unfold deps at k1; omega) (by unfold deps at k2; omega) j (by simpa using h1) (by simpa using h2)
end
end
end DL
set_option Elab.async false
set_option linter.all false
set_option maxRecDepth 100000
set_option maxHeartbeats 4000000
namespace DL
open PySem PySem.Spec PyProof.Rows L2
section
variable {K : PySem.W.Frag} {J : Hp} {s : Shared}
theorem rcAt_D (F : HF K J s) {d e : D} {v w : V} {u u' : Value} (A : Around) (hd : Rep K J d v) (he : Rep K J e w) (rv : RelV v u) (rw' : RelV w u') (hu : A.units + dep d < cLine) (hd1 : dep d ≤ 1000) (hu' : dep e ≤ 1000) : SeqAt.RcAt A s u u' (eqD d e) ∧ SeqAt.RcNeAt A s u u' (!eqD d e) := by
  have hu0 : A.units < cLine := by omega
  cases hd with
  | non =>
    cases rv
    cases he with
    | non => cases rw'; exact ⟨.none_none, .none_none⟩
    | bl b => cases rw'; exact ⟨.none_bool b, .none_bool b⟩
    | int i => obtain ⟨t, rfl⟩ := rw'; exact ⟨.none_int i t, .none_int i t⟩
    | str x => obtain ⟨t, rfl⟩ := rw'; exact ⟨.none_str x t, .none_str x t⟩
    | tup h hs => cases rw'; obtain ⟨its, r, p⟩ := F.t _ _ h; exact ⟨.none_tuple p hu0, .none_tuple p hu0⟩
    | lst h hs => cases rw'; obtain ⟨its, r, p⟩ := F.l _ _ h; exact ⟨.none_list p hu0, .none_list p hu0⟩
    | emp _ => unfold dep at hu'; omega
  | bl a =>
    cases rv
    cases he with
    | non => cases rw'; exact ⟨.bool_none a, .bool_none a⟩
    | bl b => cases rw'; exact ⟨.bool_bool a b, .bool_bool a b⟩
    | int i => obtain ⟨t, rfl⟩ := rw'; exact ⟨.bool_int a i t, .bool_int a i t⟩
    | str x => obtain ⟨t, rfl⟩ := rw'; exact ⟨.bool_str a x t, .bool_str a x t⟩
    | tup h hs => cases rw'; obtain ⟨its, r, p⟩ := F.t _ _ h; exact ⟨.bool_tuple a p hu0, .bool_tuple a p hu0⟩
    | lst h hs => cases rw'; obtain ⟨its, r, p⟩ := F.l _ _ h; exact ⟨.bool_list a p hu0, .bool_list a p hu0⟩
    | emp _ => unfold dep at hu'; omega
  | int a =>
    obtain ⟨t0, rfl⟩ := rv
    cases he with
    | non => cases rw'; exact ⟨.int_none a t0, .int_none a t0⟩
    | bl b => cases rw'; exact ⟨.int_bool a t0 b, .int_bool a t0 b⟩
    | int i => obtain ⟨t, rfl⟩ := rw'; exact ⟨.int_int a t0 i t, .int_int a t0 i t⟩
    | str x => obtain ⟨t, rfl⟩ := rw'; exact ⟨.int_str a t0 x t, .int_str a t0 x t⟩
    | tup h hs => cases rw'; obtain ⟨its, r, p⟩ := F.t _ _ h; exact ⟨.int_tuple a t0 p hu0, .int_tuple a t0 p hu0⟩
    | lst h hs => cases rw'; obtain ⟨its, r, p⟩ := F.l _ _ h; exact ⟨.int_list a t0 p hu0, .int_list a t0 p hu0⟩
    | emp _ => unfold dep at hu'; omega
  | str a =>
    obtain ⟨t0, rfl⟩ := rv
    cases he with
    | non => cases rw'; exact ⟨.str_none a t0, .str_none a t0⟩
    | bl b => cases rw'; exact ⟨.str_bool a t0 b, .str_bool a t0 b⟩
    | int i => obtain ⟨t, rfl⟩ := rw'; exact ⟨.str_int a t0 i t, .str_int a t0 i t⟩
    | str x => obtain ⟨t, rfl⟩ := rw'; exact ⟨.str_str a t0 x t, .str_str a t0 x t⟩
    | tup h hs => cases rw'; obtain ⟨its, r, p⟩ := F.t _ _ h; exact ⟨.str_tuple a t0 p hu0, .str_tuple a t0 p hu0⟩
    | lst h hs => cases rw'; obtain ⟨its, r, p⟩ := F.l _ _ h; exact ⟨.str_list a t0 p hu0, .str_list a t0 p hu0⟩
    | emp _ => unfold dep at hu'; omega
  | tup h hs =>
    cases rv
    obtain ⟨its, r, p⟩ := F.t _ _ h
    cases he with
    | non => cases rw'; exact ⟨.tuple_none p hu0, .tuple_none p hu0⟩
    | bl b => cases rw'; exact ⟨.tuple_bool b p hu0, .tuple_bool b p hu0⟩
    | int i => obtain ⟨t, rfl⟩ := rw'; exact ⟨.tuple_int i t p hu0, .tuple_int i t p hu0⟩
    | str x => obtain ⟨t, rfl⟩ := rw'; exact ⟨.tuple_str x t p hu0, .tuple_str x t p hu0⟩
    | lst h' hs' => cases rw'; obtain ⟨its', r', p'⟩ := F.l _ _ h'; exact ⟨.tuple_list p p' hu0, .tuple_list p p' hu0⟩
    | emp _ => unfold dep at hu'; omega
    | tup h' hs' =>
      cases rw'
      obtain ⟨its', r', p'⟩ := F.t _ _ h'
      rename_i a vs ds b ws es
      have l1 : its.length = ds.length := by rw [← r.length, hs.length]
      have l2 : its'.length = es.length := by rw [← r'.length, hs'.length]
      have it : ∀ (j : Nat) (j1 : j < its.toArray.size) (j2 : j < its'.toArray.size), SeqAt.EqAt A.in1 s its.toArray[j] its'.toArray[j] (nthEq ds es j) := fun j j1 j2 => by
        have k1 : j < ds.length := by rw [← l1]; simpa using j1
        have k2 : j < es.length := by rw [← l2]; simpa using j2
        have := eqAt_Ds F A.in1 hs hs' r r' (by rw [in1_units]; unfold dep at hu; omega) (by unfold dep at hd1; omega) (by unfold dep at hu'; omega) j k1 k2
        have m1 : j < its.length := by simpa using j1
        have m2 : j < its'.length := by simpa using j2
        simpa [m1, m2] using this
      simp only [eqD]
      rw [← eqDs_min, ← l1, ← l2]
      have q1 := SeqAt.RcAt.tuples p p' hu0 it
      have q2 := SeqAt.RcNeAt.tuples p p' hu0 it
      exact ⟨by simpa using q1, by simpa using q2⟩
  | emp _ => unfold dep at hd1; omega
  | lst h hs =>
    cases rv
    obtain ⟨its, r, p⟩ := F.l _ _ h
    cases he with
    | non => cases rw'; exact ⟨.list_none p hu0, .list_none p hu0⟩
    | bl b => cases rw'; exact ⟨.list_bool b p hu0, .list_bool b p hu0⟩
    | int i => obtain ⟨t, rfl⟩ := rw'; exact ⟨.list_int i t p hu0, .list_int i t p hu0⟩
    | str x => obtain ⟨t, rfl⟩ := rw'; exact ⟨.list_str x t p hu0, .list_str x t p hu0⟩
    | tup h' hs' => cases rw'; obtain ⟨its', r', p'⟩ := F.t _ _ h'; exact ⟨.list_tuple p p' hu0, .list_tuple p p' hu0⟩
    | emp _ => unfold dep at hu'; omega
    | lst h' hs' =>
      cases rw'
      obtain ⟨its', r', p'⟩ := F.l _ _ h'
      rename_i a vs ds b ws es
      have l1 : its.length = ds.length := by rw [← r.length, hs.length]
      have l2 : its'.length = es.length := by rw [← r'.length, hs'.length]
      have it : ∀ (j : Nat) (j1 : j < its.toArray.size) (j2 : j < its'.toArray.size), SeqAt.EqAt A.in1 s its.toArray[j] its'.toArray[j] (nthEq ds es j) := fun j j1 j2 => by
        have k1 : j < ds.length := by rw [← l1]; simpa using j1
        have k2 : j < es.length := by rw [← l2]; simpa using j2
        have := eqAt_Ds F A.in1 hs hs' r r' (by rw [in1_units]; unfold dep at hu; omega) (by unfold dep at hd1; omega) (by unfold dep at hu'; omega) j k1 k2
        have m1 : j < its.length := by simpa using j1
        have m2 : j < its'.length := by simpa using j2
        simpa [m1, m2] using this
      simp only [eqD]
      by_cases z : ds.length = es.length
      · rw [← eqDs_nth z, ← l1]
        have q1 := SeqAt.RcAt.lists p p' (by simp; omega) hu0 it
        have q2 := SeqAt.RcNeAt.lists p p' (by simp; omega) hu0 it
        exact ⟨by simpa using q1, by simpa using q2⟩
      · rw [eqDs_len z]
        exact ⟨.lists_lengths p p' (by simp; omega) hu0, .lists_lengths p p' (by simp; omega) hu0⟩
end
section
variable {X : Cx} {c : C} {e a b tg : Expr} {es : List Expr} {ga gb g : G R} {pos : Pos}
/-- any list that is read, as data of the heap as it stands -/
theorem RR.rep {He J H : Hp} (hp : HI c J H) : ∀ {r : R} {v : V} {d : D}, RR c He J H r v → (∀ xs, r = .l .fresh xs ∨ r = .l .own xs ∨ r = .l .bor xs → d = .lst xs) → (∀ x, r = .d x → d = x) → Rep c.K H d v
  | .d x, v, d, h, _, k => by rw [k x rfl]; exact Rep.mono hp.sub h
  | .l m xs, v, d, h, k, _ => by
    have e : d = .lst xs := k xs (by cases m; exact .inl rfl; exact .inr (.inl rfl); exact .inr (.inr rfl))
    obtain ⟨a, vs, rfl, h1, h2⟩ := RR.list hp h rfl
    rw [e]
    exact .lst h1 (h2.mono hp.sub)
def R.dat : R → D
  | .d x => x
  | .l _ xs => .lst xs
theorem RR.dat {He J H : Hp} (hp : HI c J H) {r : R} {v : V} (h : RR c He J H r v) : Rep c.K H r.dat v := by
  refine h.rep hp (fun xs q => ?_) (fun x q => by rw [q]; rfl)
  rcases q with q | q | q <;> (rw [q]; rfl)
def rEqD (K : PySem.W.Frag) (neg : Bool) : R2 := fun x y H Q => ∃ d e, Rep K H d x ∧ Rep K H e y ∧ dep d ≤ 60 ∧ dep e ≤ 60 ∧ Q (.bl (if neg then !eqD d e else eqD d e)) H
theorem hf_self {pins : List (Addr × Obj)} {σ : L2.St} {H : Hp} {s : Shared} (I : Inv X pins σ H s) : HF X.K H s := HF.of (c := ⟨X.K, H, H, fun _ => True⟩) I (Same.refl H)
theorem op_eqD (hu : X.A.units + 64 < cLine) : OpR X (compareOp .Eq) (rEqD X.K false) := by
  intro pins s σ H x y v u Q I rx ry h
  obtain ⟨d, e, h1, h2, h3, h4, q⟩ := h
  exact (rcAt_D (hf_self I) X.A h1 h2 rx ry (by omega) (by omega) (by omega)).1 X.prog X.w X.xe _ ⟨.bl _, H, I, rfl, q⟩
theorem op_neD (hu : X.A.units + 64 < cLine) : OpR X (compareOp .NotEq) (rEqD X.K true) := by
  intro pins s σ H x y v u Q I rx ry h
  obtain ⟨d, e, h1, h2, h3, h4, q⟩ := h
  exact (rcAt_D (hf_self I) X.A h1 h2 rx ry (by omega) (by omega) (by omega)).2 X.prog X.w X.xe _ ⟨.bl _, H, I, rfl, q⟩
def fEq (neg : Bool) (x y : R) : M R := if dep x.dat ≤ 60 ∧ dep y.dat ≤ 60 then .ok (.d (.bl (if neg then !eqD x.dat y.dat else eqD x.dat y.dat))) else .bad
theorem bd_eq (neg : Bool) (hK : X.K = c.K) : BD c (rEqD X.K neg) (fEq neg) := by
  intro He He' J H x y u v Q hp rx ry w
  unfold fEq at w
  split at w
  · rename_i hd
    exact ⟨x.dat, y.dat, by rw [hK]; exact rx.dat hp, by rw [hK]; exact ry.dat hp, hd.1, hd.2, w _ J H (Ext.refl hp.sub) (.bl _)⟩
  · exact w.elim
theorem pd_eq (hu : X.A.units + 64 < cLine) (ha : PD X c a ga) (hb : PD X c b gb) (hK : X.K = c.K := by rfl) : PD X c (.Compare a [.Eq] [b] pos) (g2 (fEq false) ga gb) := pd_cmp (op_eqD hu) (bd_eq false hK) ha hb
theorem pd_ne (hu : X.A.units + 64 < cLine) (ha : PD X c a ga) (hb : PD X c b gb) (hK : X.K = c.K := by rfl) : PD X c (.Compare a [.NotEq] [b] pos) (g2 (fEq true) ga gb) := pd_cmp (op_neD hu) (bd_eq true hK) ha hb
theorem pb_eq (hu : X.A.units + 64 < cLine) (ha : PD X c a ga) (hb : PD X c b gb) (hK : X.K = c.K := by rfl) : PB X c (.Compare a [.Eq] [b] pos) (gTr (g2 (fEq false) ga gb)) := pb_cmp (op_eqD hu) (bd_eq false hK) ha hb
theorem pb_ne (hu : X.A.units + 64 < cLine) (ha : PD X c a ga) (hb : PD X c b gb) (hK : X.K = c.K := by rfl) : PB X c (.Compare a [.NotEq] [b] pos) (gTr (g2 (fEq true) ga gb)) := pb_cmp (op_neD hu) (bd_eq true hK) ha hb
/-! ### in, not in -/
def inD (d : D) (xs : List D) : Bool := xs.any fun x => eqD x d
def rInD (K : PySem.W.Frag) (neg : Bool) : R2 := fun x y H Q => ∃ d p vs ds, Rep K H d x ∧ dep d ≤ 60 ∧ y = .ref p ∧ (SqL K H p vs ∨ SqT K H p vs) ∧ Reps K H ds vs ∧ deps ds ≤ 60 ∧ Q (.bl (if neg then !inD d ds else inD d ds)) H
theorem reps_find {K : PySem.W.Frag} {H : Hp} {y : Value} : ∀ {ds : List D} {vs : List V} {us : List Value}, Reps K H ds vs → Vals vs us → deps ds ≤ 60 → y ∈ us → ∃ d' v', Rep K H d' v' ∧ RelV v' y ∧ dep d' ≤ 60
  | _, _, _, .nil, .nil, _, hy => nomatch hy
  | _, _, _, .cons r hs, .cons q rs, hd, hy => by
    unfold deps at hd
    rcases List.mem_cons.mp hy with rfl | hy
    · exact ⟨_, _, r, q, by omega⟩
    · exact reps_find hs rs (by omega) hy
open Classical in
noncomputable def ansD (K : PySem.W.Frag) (H : Hp) (d : D) (y : Value) : Bool := decide (∃ d' v', Rep K H d' v' ∧ RelV v' y ∧ eqD d' d = true)
theorem ansD_of {K : PySem.W.Frag} {H : Hp} {s : Shared} (F : HF K H s) {d d' : D} {v' : V} {y : Value} (r' : Rep K H d' v') (q' : RelV v' y) : ansD K H d y = eqD d' d := by
  classical
  unfold ansD
  cases z : eqD d' d with
  | true => exact decide_eq_true ⟨d', v', r', q', z⟩
  | false =>
    refine decide_eq_false ?_
    rintro ⟨d2, v2, r2, q2, z2⟩
    have : v2 = v' := q2.inj q'
    subst this
    rw [Rep.inj F r2 r'] at z2
    rw [z] at z2
    cases z2
theorem any_ansD {K : PySem.W.Frag} {H : Hp} {s : Shared} (F : HF K H s) {d : D} : ∀ {ds : List D} {vs : List V} {us : List Value}, Reps K H ds vs → Vals vs us → us.any (ansD K H d) = inD d ds
  | _, _, _, .nil, .nil => rfl
  | _, _, _, .cons r hs, .cons q rs => by
    unfold inD
    rw [List.any_cons, List.any_cons, any_ansD F hs rs, ansD_of F r q]
    rfl
/-- what each item answers, by the value -/
theorem any_at {A : Around} {s : Shared} {K : PySem.W.Frag} {H : Hp} (F : HF K H s) {d : D} {x : V} {u : Value} (h : Rep K H d x) (rx : RelV x u) (hdd : dep d ≤ 60) (hA : A.units + 60 < cLine) {ds : List D} {vs : List V} {us : List Value} (hs : Reps K H ds vs) (rs : Vals vs us) (hd : deps ds ≤ 60) :
    ∃ e : Value → Bool, (∀ y ∈ us, SeqAt.EqAt A s y u (e y)) ∧ us.any e = inD d ds := by
  refine ⟨ansD K H d, fun y hy => ?_, any_ansD F hs rs⟩
  obtain ⟨d', v', r', q', hd'⟩ := reps_find hs rs hd hy
  rw [ansD_of F r' q']
  exact eqAt_D F A r' h q' rx (by omega) (by omega) (by omega)
theorem op_inD (hu : X.A.units + 64 < cLine) : OpR X (compareOp .In) (rInD X.K false) := by
  intro pins s σ H x y v u Q I rx ry h
  obtain ⟨d, p, vs, ds, h1, hdd, rfl, h2, h3, h4, q⟩ := h
  cases ry
  have F := hf_self I
  rcases h2 with h2 | h2
  · obtain ⟨its, r, pl⟩ := F.l _ _ h2
    obtain ⟨e, he, hany⟩ := any_at (A := X.A.in1) F h1 rx hdd (by rw [in1_units]; omega) h3 r h4
    exact SeqAt.in_listAt e pl (fun z hz => he z (by simpa using hz)) ⟨.bl _, H, I, rfl, by rw [show its.toArray.any e = its.any e by simp, hany]; exact q⟩
  · obtain ⟨its, r, pl⟩ := F.t _ _ h2
    obtain ⟨e, he, hany⟩ := any_at (A := X.A.in1) F h1 rx hdd (by rw [in1_units]; omega) h3 r h4
    exact SeqAt.in_tupleAt e pl (fun z hz => he z (by simpa using hz)) ⟨.bl _, H, I, rfl, by rw [show its.toArray.any e = its.any e by simp, hany]; exact q⟩
theorem op_notInD (hu : X.A.units + 64 < cLine) : OpR X (compareOp .NotIn) (rInD X.K true) := by
  intro pins s σ H x y v u Q I rx ry h
  obtain ⟨d, p, vs, ds, h1, hdd, rfl, h2, h3, h4, q⟩ := h
  cases ry
  have F := hf_self I
  rcases h2 with h2 | h2
  · obtain ⟨its, r, pl⟩ := F.l _ _ h2
    obtain ⟨e, he, hany⟩ := any_at (A := X.A.in1) F h1 rx hdd (by rw [in1_units]; omega) h3 r h4
    exact SeqAt.notIn_listAt e pl (fun z hz => he z (by simpa using hz)) ⟨.bl _, H, I, rfl, by rw [show its.toArray.any e = its.any e by simp, hany]; exact q⟩
  · obtain ⟨its, r, pl⟩ := F.t _ _ h2
    obtain ⟨e, he, hany⟩ := any_at (A := X.A.in1) F h1 rx hdd (by rw [in1_units]; omega) h3 r h4
    exact SeqAt.notIn_tupleAt e pl (fun z hz => he z (by simpa using hz)) ⟨.bl _, H, I, rfl, by rw [show its.toArray.any e = its.any e by simp, hany]; exact q⟩
def fIn (neg : Bool) (x y : R) : M R := asQ y >>= fun ys => if deps ys ≤ 60 ∧ dep x.dat ≤ 60 then .ok (.d (.bl (if neg then !inD x.dat ys else inD x.dat ys))) else .bad
theorem bd_in (neg : Bool) (hK : X.K = c.K) : BD c (rInD X.K neg) (fIn neg) := by
  intro He He' J H x y u v Q hp rx ry w
  obtain ⟨ys, q, w⟩ := wpM_asQ w
  obtain ⟨p, vs, rfl, h1, h2⟩ := asQ_seq hp ry q
  split at w
  · rename_i hd
    exact ⟨x.dat, p, vs, ys, by rw [hK]; exact rx.dat hp, hd.2, rfl, by rw [hK]; exact h1, by rw [hK]; exact h2.mono hp.sub, hd.1, w _ J H (Ext.refl hp.sub) (.bl _)⟩
  · exact w.elim
theorem pd_notin (hu : X.A.units + 64 < cLine) (ha : PD X c a ga) (hb : PD X c b gb) (hK : X.K = c.K := by rfl) (hm : behindInMarks .NotIn b = false := by rfl) : PD X c (.Compare a [.NotIn] [b] pos) (g2 (fIn true) ga gb) := pd_cmp (op_notInD hu) (bd_in true hK) ha hb hm
theorem pb_in (hu : X.A.units + 64 < cLine) (ha : PD X c a ga) (hb : PD X c b gb) (hK : X.K = c.K := by rfl) (hm : behindInMarks .In b = false := by rfl) : PB X c (.Compare a [.In] [b] pos) (gTr (g2 (fIn false) ga gb)) := pb_cmp (op_inD hu) (bd_in false hK) ha hb hm
end
end DL
set_option Elab.async false
set_option linter.all false
set_option maxRecDepth 100000
set_option maxHeartbeats 4000000
namespace DL
open PySem PySem.Spec PyProof.Rows L2
section
variable {X : Cx} {c : C} {e a b tg : Expr} {es : List Expr} {ga gb g : G R} {pos : Pos}
/-! ### slices -/
abbrev GO := G (Option Int)
def tO (c : C) (g : GO) : TO := fun σ H Q => ∃ J env, SR c J H σ env ∧ wpM (g env) (fun o => ∀ J' H', Ext J H J' H' → Q o H') c.T
def POd (X : Cx) (c : C) (e : Option Expr) (g : GO) : Prop := PO X e (tO c g)
theorem poImp {X : Cx} {e : Option Expr} {t t' : TO} (h : PO X e t) (k : ∀ σ H Q, t' σ H Q → t σ H Q) : PO X e t' := fun pins s σ H Q I q => h pins s σ H Q I (k σ H Q q)
def gNo : GO := fun _ => .ok none
def gPt (g : G R) : GO := fun env => g env >>= fun r => match r with
  | .d (.int i) => .ok (some i)
  | _ => .bad
theorem pod_none : POd X c none gNo := poImp po_none fun σ H Q ⟨J, env, sr, w⟩ => w J H (Ext.refl sr.hp.sub)
theorem pod_some (h : PD X c e g) : POd X c (some e) (gPt g) := poImp (po_some h) fun σ H Q ⟨J, env, sr, w⟩ => by
  refine ⟨J, env, sr, wpM_mono (wpM_bind w) fun r wr v J1 H1 e1 r1 => ?_⟩
  split at wr
  · cases r1; exact ⟨_, rfl, wr J1 H1 e1⟩
  · exact wr.elim
def cutD (xs : List D) (lo hi : Option Int) : List D := (xs.drop (HT.sIx xs.length 0 lo)).take (HT.sIx xs.length xs.length hi - HT.sIx xs.length 0 lo)
theorem Reps.cut {K : PySem.W.Frag} {J : Hp} {xs : List D} {vs : List V} (h : Reps K J xs vs) (lo hi : Option Int) : Reps K J (cutD xs lo hi) (cutV vs lo hi) := by
  unfold cutD cutV
  rw [h.length]
  exact (h.drop _).take _
def gSl (f : R → Option Int → Option Int → M R) (g : G R) (lo hi : GO) : G R := fun env => g env >>= fun x => lo env >>= fun l => hi env >>= fun u => f x l u
theorem pd_sl {r : V → Option Int → Option Int → Hp → VK → Prop} {f : R → Option Int → Option Int → M R} {lo hi : Option Expr} {gl gh : GO} {p2 : Pos} (hr : SlR X r) (hf : ∀ (He J H : Hp) (x : R) (v : V) (l u : Option Int) (Q : VK), HI c J H → RR c He J H x v →
      wpM (f x l u) (fun z => ∀ w J' H', Ext J H J' H' → RR c H J' H' z w → Q w H') c.T → r v l u H Q) (h : PD X c e g) (hl : POd X c lo gl) (hh : POd X c hi gh) : PD X c (.Subscript e (.Slice lo hi none p2) pos) (gSl f g gl gh) :=
  peImp (pe_slice hr h hl hh) fun σ H Q ⟨J, env, sr, w⟩ => by
    refine ⟨J, env, sr, wpM_mono (wpM_bind w) fun x wx v J1 H1 e1 r1 => ?_⟩
    refine ⟨J1, env, sr.ext e1, wpM_mono (wpM_bind wx) fun l wl J2 H2 e2 => ?_⟩
    refine ⟨J2, env, (sr.ext e1).ext e2, wpM_mono (wpM_bind wl) fun u wu J3 H3 e3 => ?_⟩
    have ee := (e1.trans e2).trans e3
    exact hf H J3 H3 x v l u Q (sr.hp.ext ee) ((r1.ext e2).ext e3) (wpM_mono wu fun z q w J' H' e4 r4 => q w J' H' (ee.trans e4) (RR.from ee.h r4))
def fSlL (x : R) (l u : Option Int) : M R := asL x >>= fun xs => .ok (.l .fresh (cutD xs l u))
/-! ### t + u -/
/-! ### sorted -/
theorem strsAre_of {ss : List Str} : ∀ {us : List Value}, Vals (ss.map V.str) us → StrsAre us ss := by
  induction ss with
  | nil => intro us h; cases h; exact .nil
  | cons x r ih =>
    intro us h
    cases h with
    | cons q rs =>
      obtain ⟨t, rfl⟩ := q
      exact .cons x t (ih rs)
theorem vals_strs : ∀ {us : List Value} {ss : List Str}, StrsAre us ss → Vals (ss.map V.str) us
  | _, _, .nil => .nil
  | _, _, .cons y t h => .cons ⟨t, rfl⟩ (vals_strs h)
/-- the texts in their order -/
def leS (x y : Str) : Bool := decide (x.cps.toList ≤ y.cps.toList)
def sortS (ss : List Str) : List Str := ss.mergeSort leS
theorem leS_trans (x y z : Str) (h1 : leS x y = true) (h2 : leS y z = true) : leS x z = true := by
  unfold leS at *
  exact decide_eq_true (List.le_trans (of_decide_eq_true h1) (of_decide_eq_true h2))
theorem leS_total (x y : Str) : (leS x y || leS y x) = true := by
  unfold leS
  rw [Bool.or_eq_true]
  rcases List.le_total x.cps.toList y.cps.toList with h | h
  · exact .inl (decide_eq_true h)
  · exact .inr (decide_eq_true h)
theorem leS_anti {x y : Str} (h1 : leS x y = true) (h2 : leS y x = true) : x = y := by
  unfold leS at *
  have := List.le_antisymm (of_decide_eq_true h1) (of_decide_eq_true h2)
  obtain ⟨⟨cx⟩⟩ := x
  obtain ⟨⟨cy⟩⟩ := y
  simp only at this
  rw [this]
theorem sortS_sorted (ss : List Str) : (sortS ss).Pairwise fun x y => leS x y = true := List.pairwise_mergeSort leS_trans leS_total ss
theorem sortS_perm (ss : List Str) : (sortS ss).Perm ss := List.mergeSort_perm ss leS
theorem risingS_pw : ∀ (x : Str) (r : List Str), risingS x r = true → (x :: r).Pairwise fun x y => leS x y = true
  | x, [], _ => by simp
  | x, y :: r, h => by
    unfold risingS at h
    rw [Bool.and_eq_true] at h
    have hy := risingS_pw y r h.2
    have hxy : leS x y = true := by
      have h1 := h.1
      rw [ltCps_eq] at h1
      unfold leS
      refine decide_eq_true ?_
      have : ¬ y.cps.toList < x.cps.toList := by simpa using h1
      exact this
    refine List.pairwise_cons.mpr ⟨fun z hz => ?_, hy⟩
    rcases List.mem_cons.mp hz with rfl | hz
    · exact hxy
    · exact leS_trans x y z hxy ((List.pairwise_cons.mp hy).1 z hz)
theorem sortS_only {ss ss' : List Str} (hp : ss'.Perm ss) (hs : sortedS ss' = true) : ss' = sortS ss := by
  have pw : ss'.Pairwise fun x y => leS x y = true := by
    cases ss' with
    | nil => exact List.Pairwise.nil
    | cons x r => exact risingS_pw x r hs
  exact (hp.trans (sortS_perm ss).symm).eq_of_pairwise (fun x y _ _ h1 h2 => leS_anti h1 h2) pw (sortS_sorted ss)
theorem call_sortedS : CallR X (.builtin "sorted") (fun xs H Q => ∃ p ss, xs = [.ref p] ∧ SqL X.K H p (ss.map V.str) ∧ ss.length < 64 ∧ ∀ ss', ss'.Perm ss → sortedS ss' = true → ∀ l, H l = none → Q (.ref l) (upd H l (.lst (ss'.map V.str)))) := by
  intro pins s σ H xs us Q I r h
  obtain ⟨p, ss, rfl, hq, hl, q⟩ := h
  obtain ⟨u, rfl, rx⟩ := vals1 r
  cases rx
  obtain ⟨its, r', pl, hz⟩ := I.list hq
  have hlen := r'.length
  refine sorted_strs pl.isList (strsAre_of r') (by rw [← hlen, List.length_map]; exact hl) fun out ss' a1 a2 a3 => ?_
  obtain ⟨n, hn⟩ := sortedAll_at s.heap its out
  have kp : ∀ b o, s.heap.get? b = some o → (sortedAll s.heap its out).get? b = some o := fun b o e => sortedAll_old e
  have fr : H (s.heap.objs.size + 1) = none := I.hok.fresh (Nat.le_succ _)
  have ll : (ss'.map V.str).length = (ss.map V.str).length := by rw [List.length_map, List.length_map, a2.length_eq]
  refine ⟨.ref (s.heap.objs.size + 1), _, I.laid (t' := s.toks) kp (Nat.le_succ _) (show ObjOk X.prog X.w _ _ _ (.lst (ss'.map V.str)) from ⟨by rw [ll]; exact hz, out.toList, n, vals_strs a1, by simpa [seqObj] using hn⟩), rfl, q ss' a2 a3 _ fr⟩
def strsOf : List D → Option (List Str)
  | [] => some []
  | .str x :: r => (strsOf r).map (x :: ·)
  | _ :: _ => none
theorem strsOf_rep {K : PySem.W.Frag} {J : Hp} : ∀ {ds : List D} {vs : List V} {ss : List Str}, strsOf ds = some ss → Reps K J ds vs → vs = ss.map V.str
  | [], _, _, h, .nil => by cases h; rfl
  | .str x :: r, _, ss, h, .cons q rs => by
    unfold strsOf at h
    cases z : strsOf r with
    | none => rw [z] at h; cases h
    | some ss' =>
      rw [z] at h
      cases h
      cases q
      rw [strsOf_rep z rs]
      rfl
theorem reps_strs {K : PySem.W.Frag} {J : Hp} : ∀ (ss : List Str), Reps K J (ss.map D.str) (ss.map V.str)
  | [] => .nil
  | x :: r => .cons (.str x) (reps_strs r)
def fSorted : List R → M R
  | [r] => asL r >>= fun xs => match strsOf xs with
    | some ss => if ss.length < 64 then .ok (.l .fresh ((sortS ss).map .str)) else .bad
    | none => .bad
  | _ => .bad
theorem boot_sorted' : bootBuiltins "sorted" = some (.builtin "sorted") := by decide +kernel
theorem pd_sorted {p : Pos} {gs : G (List R)} (ha : PAr X c (e :: es) gs) (hm : X.mg "sorted" = none) (hK : X.K = c.K := by rfl) (hg : Gl X "sorted" := by rfl)
    (he : starEach (e :: es) X.env = (false, eval e X.env) :: starEach es X.env := by rfl) (hpl : (backTo pos (starEach es X.env)).any (·.1) = false := by rfl) : PD X c (.Call (.Name "sorted" p) (e :: es) [] pos) (gN fSorted gs) :=
  pd_callB call_sortedS (by
    intro He J H xs vs Q hp rs w
    unfold fSorted at w
    split at w
    · obtain ⟨v, rfl, r⟩ := rs.one
      obtain ⟨xs, q, w⟩ := wpM_asL w
      obtain ⟨p, vs, rfl, h1, h2⟩ := RR.list hp r q
      split at w
      · rename_i ss z
        split at w
        · rename_i hl
          have := strsOf_rep z h2
          subst this
          refine ⟨p, ss, rfl, by rw [hK]; exact h1, hl, fun ss' hp' hs' l hl' => ?_⟩
          rw [sortS_only hp' hs']
          exact w _ _ _ (Ext.new hp.sub hl' _) (rr_new hp hl' (reps_strs _))
        · exact w.elim
      · exact w.elim
    · exact w.elim) boot_sorted' hm ha hg (by decide) (by decide) he hpl
/-! ### text * n -/
theorem foldl_size (c : Array Nat) : ∀ (k : Nat) (acc : Array Nat), ((List.replicate k c).foldl (· ++ ·) acc).size = acc.size + k * c.size
  | 0, acc => by simp
  | k + 1, acc => by
    rw [List.replicate_succ, List.foldl_cons, foldl_size c k, Array.size_append, Nat.succ_mul]
    omega
def repS (x : Str) (n : Nat) : Str := ⟨(List.replicate n x.cps).foldl (· ++ ·) #[]⟩
theorem repS_length (x : Str) (n : Nat) : (repS x n).length = n * x.length := by
  unfold repS Str.length
  simp only
  rw [foldl_size]
  simp
theorem op_mulS : OpR X (binaryOp .Mult) (fun x y H Q => ∃ z n, x = .str z ∧ y = .int n ∧ 0 ≤ n ∧ n ≤ 1000 ∧ z.length ≤ 1000 ∧ Q (.str (repS z n.toNat)) H) := by
  intro pins s σ H x y v u Q I rx ry h
  obtain ⟨z, n, rfl, rfl, h0, h1, h2, q⟩ := h
  obtain ⟨t, rfl⟩ := rx
  obtain ⟨t', rfl⟩ := ry
  have hz : Builtin.Str.tooLong (z.length * n.toNat) = false := by
    have : z.length * n.toNat ≤ 1000 * 1000 := Nat.mul_le_mul h2 (by omega)
    unfold Builtin.Str.tooLong
    exact decide_eq_false (by have := sizeLine_eq; omega)
  refine PySem.P.mul_str (by
    rw [decide_eq_false (by omega : ¬ n < -(2 ^ 63 : Int)), decide_eq_false (by omega : ¬ n ≥ 2 ^ 63)]; rfl) (fun hn _ => ?_) (fun _ _ => hz) ?_
  · have : (2 ^ 63 - 1 : Int) / 1000 ≤ (2 ^ 63 - 1) / n := by
      refine (Int.le_ediv_iff_mul_le (by omega)).mpr ?_
      have : (2 ^ 63 - 1 : Int) / 1000 * n ≤ (2 ^ 63 - 1 : Int) / 1000 * 1000 := Int.mul_le_mul_of_nonneg_left h1 (by decide)
      exact Int.le_trans this (by decide)
    have e : (2 ^ 63 - 1 : Int) / 1000 = 9223372036854775 := by decide
    omega
  · split
    · rename_i hn
      have e : n = 0 := by omega
      subst e
      exact ⟨by decide, .str _, H, I.tok _, ⟨_, rfl⟩, q⟩
    · split
      · rename_i hn hc
        have e : repS z n.toNat = z := by
          unfold repS
          rw [Bool.or_eq_true] at hc
          rcases hc with hc | hc
          · have e : n = 1 := by simpa using hc
            subst e
            simp
          · have e : z.length = 0 := by simpa using hc
            have e2 : z.cps = #[] := by
              unfold Str.length at e
              exact Array.eq_empty_of_size_eq_zero e
            obtain ⟨cz⟩ := z
            simp only at e2
            subst e2
            congr 1
            generalize n.toNat = k
            induction k with
            | zero => rfl
            | succ k ih => rw [List.replicate_succ, List.foldl_cons]; exact ih
        rw [e] at q
        exact ⟨.str z, H, I, ⟨_, rfl⟩, q⟩
      · exact ⟨by
          have := repS_length z n.toNat
          unfold repS at this
          rw [this, Nat.mul_comm]
          have : z.length * n.toNat ≤ 1000 * 1000 := Nat.mul_le_mul h2 (by omega)
          rw [sizeLine_eq]
          omega, .str _, H, I.tok _, ⟨_, rfl⟩, q⟩
def fMulS : R → R → M R
  | .d (.str z), .d (.int n) => if 0 ≤ n ∧ n ≤ 1000 ∧ z.length ≤ 1000 then .ok (.d (.str (repS z n.toNat))) else .bad
  | _, _ => .bad
/-! ### isinstance of a built-in class -/
def tyD : D → String
  | .non => "NoneType"
  | .bl _ => "bool"
  | .int _ => "int"
  | .str _ => "str"
  | .tup _ => "tuple"
  | .lst _ => "list"
  | .emp => "dict"
def subT (t T : String) : Bool := t == T || (t == "bool" && T == "int")
end
end DL
set_option Elab.async false
set_option linter.all false
set_option maxRecDepth 100000
set_option maxHeartbeats 4000000
namespace DL
open PySem PySem.Spec PyProof.Rows L2
section
variable {X : Cx} {c : C} {e a b tg : Expr} {es : List Expr} {ga gb g : G R} {pos : Pos}
/-! ### one rule for each sign -/
def isI : R → Bool
  | .d (.int _) => true
  | _ => false
def isS : R → Bool
  | .d (.str _) => true
  | _ => false
def fPlus (x y : R) : M R := if isI x then fAdd x y else if isS x then fAddS x y else fCatL x y
theorem pd_plus (ha : PD X c a ga) (hb : PD X c b gb) : PD X c (.BinOp a .Add b pos) (g2 fPlus ga gb) := by
  have h1 : BD c (rI0 fun i j => .int (i + j)) fAdd := bd_I0 fun _ _ _ => .int _
  have q := pd_op (pos := pos) (op_add.or (op_add_str.or op_cat)) (BD.or (c := c) (fun x _ => isI x) h1 (BD.or (c := c) (fun x _ => isS x) (f := fAddS) (f' := fCatL) (by
    intro He He' J H x y u v Q hp rx ry w
    unfold fAddS at w
    split at w
    · cases rx; cases ry
      split at w
      · rename_i h; exact ⟨_, _, rfl, rfl, h, w _ J H (Ext.refl hp.sub) (.str _)⟩
      · exact w.elim
    · exact w.elim) (by
    intro He He' J H x y u v Q hp rx ry w
    unfold fCatL at w
    split at w
    · rename_i hm
      rw [Bool.and_eq_true] at hm
      obtain ⟨p, vs, xs, e1, rfl, h1, s1⟩ := rx.made hm.1
      obtain ⟨p2, vs2, ys, e2, rfl, h2, s2⟩ := ry.made hm.2
      rw [e1, e2] at w
      simp only [bind_ok] at w
      split at w
      · rename_i hz
        rw [s1.length, s2.length] at hz
        exact ⟨p, p2, vs, vs2, rfl, rfl, h1, h2, hz, fun q hq => w _ J _ (Ext.new hp.sub hq _) (rr_new hp hq (s1.append s2))⟩
      · exact w.elim
    · exact w.elim))) ha hb
  exact q
def fTimes (x y : R) : M R := if isI x then fMul x y else fMulS x y
theorem pd_times (ha : PD X c a ga) (hb : PD X c b gb) : PD X c (.BinOp a .Mult b pos) (g2 fTimes ga gb) := by
  have h1 : BD c (rI CMul fun i j => .int (i * j)) fMul := bd_I (fun i j h => kMul_ok h) fun _ _ _ => .int _
  exact pd_op (pos := pos) (op_mul.or op_mulS) (BD.or (c := c) (fun x _ => isI x) h1 (f' := fMulS) (by
    intro He He' J H x y u v Q hp rx ry w
    unfold fMulS at w
    split at w
    · cases rx; cases ry
      split at w
      · rename_i h; exact ⟨_, _, rfl, rfl, h.1, h.2.1, h.2.2, w _ J H (Ext.refl hp.sub) (.str _)⟩
      · exact w.elim
    · exact w.elim)) ha hb
def fIx (x y : R) : M R := match x, y with
  | .d (.str z), .d (.int i) => if z.length ≤ sizeLine then (match atI z.cps.toList i with
    | some k => .ok (.d (.str ⟨#[k]⟩))
    | none => .bad) else .bad
  | x, .d (.int i) => asQ x >>= fun xs => (match atI xs i with
    | some d => .ok (.d d)
    | none => .bad)
  | _, _ => .bad
theorem pd_index (ha : PD X c a ga) (hb : PD X c b gb) (hK : X.K = c.K := by rfl) (hs : PlainIx b := by exact fun _ _ => rfl) : PD X c (.Subscript a b pos) (g2 fIx ga gb) := pd_ix ix_seq (by
  intro He He' J H x y u v Q hp rx ry w
  rw [hK]
  unfold fIx at w
  split at w
  · cases rx; cases ry
    split at w
    · rename_i h
      split at w
      · rename_i k hk; exact .inr (.inr ⟨_, _, k, rfl, rfl, h, hk, w _ J H (Ext.refl hp.sub) (.str _)⟩)
      · exact w.elim
    · exact w.elim
  · cases ry
    obtain ⟨xs, q, w⟩ := wpM_asQ w
    obtain ⟨p, vs, rfl, hl, hs⟩ := asQ_seq hp rx q
    split at w
    · rename_i d hd
      obtain ⟨z, h1, h2⟩ := reps_at hs hd
      have fin := w z J H (Ext.refl hp.sub) h2
      rcases hl with hl | hl
      · exact .inl ⟨p, vs, _, z, rfl, rfl, hl, h1, fin⟩
      · exact .inr (.inl ⟨p, vs, _, z, rfl, rfl, hl, h1, fin⟩)
    · exact w.elim
  · exact w.elim) ha hb hs
/-! ### a def that is called -/
def Cal (P : Program) (w : World) (K : PySem.W.Frag) (mg : Str → Option Value) (base : Heap) (k n : Nat) (x : Str) (Fm : List S → M R) : Prop :=
  ∃ f fd ps, FnOk P w K mg base CX0 k f fd ps (spD K n Fm) ∧ mg x = some (.ref f) ∧ PySem.W.keepIn K (.ref f) = true ∧ Binds K fd ps []
theorem pd_cal {k k' n : Nat} {F : List S → M R} {x : Str} {p : Pos} {gs : G (List R)} (G : Cal X.prog X.w X.K X.mg X.base k n x F) (hr : Room k' X.A) (ha : PAr X c (e :: es) gs) (hk : k ≤ k' := by decide) (hT : c.K = X.K := by rfl) (hg : Gl X x := by rfl) (hdb : (x == ("__debug__" : Str)) = false := by decide)
    (he : starEach (e :: es) X.env = (false, eval e X.env) :: starEach es X.env := by rfl) (hpl : (backTo pos (starEach es X.env)).any (·.1) = false := by rfl) : PD X c (.Call (.Name x p) (e :: es) [] pos) (gN (gCall n F) gs) := by
  obtain ⟨f, fd, ps, h1, h2, h3, h4⟩ := G
  exact pd_call h1 (hr.mono hk) h2 h3 h4 ha hT hg hdb he hpl
/-- a def of the text, from its body -/
theorem cal_of {P : Program} {w : World} {K : PySem.W.Frag} {mg : Str → Option Value} {base : Heap} {x qual : Str} {st : Stmt} {f : Addr} {fd : FuncData} {N ps : List Str} {k : Nat} {Fm : List S → M R} (F : Fun K x qual st f fd) (hm : mg x = some (.ref f)) (Sc : FnScope N ps (defScope st))
    (hbi : ∀ (kV doc pm : Value) (an : Option Addr) (cdv ct : Value) (us : List Value), us.length = ps.length → bindArgs (PySem.W.fnOf x qual (defArgs st) (defBody st) (defScope st) .none kV doc pm an cdv ct) ⟨us, []⟩ = pure (ps.zip us)) {gB : G O}
    (hb : ∀ (cdv : Value) (A : Around) (outer : List Env) (s : Shared) (H : Hp) (E : XK) (J : Hp) (T : Exc → Prop), Room k (A.deeper (envOfC qual (defScope st) s.heap.objs.size f cdv)) →
      PDs (cxD P w K mg base N qual (defScope st) f cdv A outer s H E) ⟨K, H, J, T⟩ (defBody st) gB)
    (hF : ∀ as r, as.length = ps.length → Fm as = .ok r → fin (gB (startE N as)) = .ok r) : Cal P w K mg base (k + 1) ps.length x Fm :=
  ⟨f, fd, ps, fn_okD F Sc hb hF, hm, F.kp, F.binds hbi⟩
def nodB : List Str → Bool
  | [] => true
  | x :: r => !(r.contains x) && nodB r
theorem nodS : ∀ {l : List Str}, nodB l = true → l.Nodup
  | [], _ => List.nodup_nil
  | x :: r, h => by
    unfold nodB at h
    rw [Bool.and_eq_true] at h
    refine List.nodup_cons.mpr ⟨fun z => ?_, nodS h.2⟩
    have := h.1
    simp [z] at this
/-- (a, b) = e -/
theorem pd1_tup {t : GT} (h : PD X c e g) (ht : PTg X c tg t) (hs : swapsWithSole [tg] e pos.line X.env = pure false := by rfl) (hw : swappedStores [tg] e X.env = pure none := by rfl)
    (h1 : (assignEach [tg] X.env).map (·.2) = [assign tg X.env] := by rfl) : PD1 X c (.Assign [tg] e pos) (gAsg t g) := pd1_asg h ht (ps_asg h ht hs hw h1)
end
end DL
set_option Elab.async false
set_option linter.all false
set_option maxRecDepth 100000
set_option maxHeartbeats 4000000
namespace DL
open PySem PySem.Spec PyProof.Rows L2
section
variable {X : Cx} {c : C} {e a b tg : Expr} {es : List Expr} {ga gb g : G R} {pos : Pos}
/-! ### isinstance(x, T), T a built-in class -/
theorem kit_int (K : PySem.W.Frag) (t : String) (h : t ∈ ["NoneType", "bool", "int", "str", "tuple", "list", "dict"]) : PySem.W.kitOne K (.type t) (.type "int") = some (subT t "int") := by
  simp only [List.mem_cons, List.not_mem_nil, or_false] at h
  rcases h with rfl | rfl | rfl | rfl | rfl | rfl | rfl <;> rfl
theorem kit_bool (K : PySem.W.Frag) (t : String) (h : t ∈ ["NoneType", "bool", "int", "str", "tuple", "list", "dict"]) : PySem.W.kitOne K (.type t) (.type "bool") = some (subT t "bool") := by
  simp only [List.mem_cons, List.not_mem_nil, or_false] at h
  rcases h with rfl | rfl | rfl | rfl | rfl | rfl | rfl <;> rfl
theorem kit_str (K : PySem.W.Frag) (t : String) (h : t ∈ ["NoneType", "bool", "int", "str", "tuple", "list", "dict"]) : PySem.W.kitOne K (.type t) (.type "str") = some (subT t "str") := by
  simp only [List.mem_cons, List.not_mem_nil, or_false] at h
  rcases h with rfl | rfl | rfl | rfl | rfl | rfl | rfl <;> rfl
theorem kit_tuple (K : PySem.W.Frag) (t : String) (h : t ∈ ["NoneType", "bool", "int", "str", "tuple", "list", "dict"]) : PySem.W.kitOne K (.type t) (.type "tuple") = some (subT t "tuple") := by
  simp only [List.mem_cons, List.not_mem_nil, or_false] at h
  rcases h with rfl | rfl | rfl | rfl | rfl | rfl | rfl <;> rfl
theorem tyD_in (d : D) : tyD d ∈ ["NoneType", "bool", "int", "str", "tuple", "list", "dict"] := by
  cases d <;> simp [tyD]
theorem call_isinst {T : String} (kit : ∀ (K : PySem.W.Frag) (t : String), t ∈ ["NoneType", "bool", "int", "str", "tuple", "list", "dict"] → PySem.W.kitOne K (.type t) (.type T) = some (subT t T)) :
    CallR X (.builtin "isinstance") (fun xs H Q => ∃ d x, xs = [x, .ty T] ∧ Rep X.K H d x ∧ Q (.bl (subT (tyD d) T)) H) := by
  intro pins s σ H xs us Q I r h
  obtain ⟨d, x, rfl, hd, q⟩ := h
  obtain ⟨u, w', rfl, rx, ry⟩ := vals2 r
  cases ry
  have e := kit X.K (tyD d) (tyD_in d)
  have fin : ∀ tk, EP X pins σ Q (.bool (subT (tyD d) T)) { s with toks := tk } := fun tk => ⟨.bl _, H, I.tok tk, rfl, q⟩
  have F := hf_self I
  cases hd with
  | non => cases rx; exact PySem.W.kia_one PySem.W.kitx_none I.kIn True.intro e (fun z => nomatch z) fin
  | bl y => cases rx; exact PySem.W.kia_one PySem.W.kitx_bool I.kIn True.intro e (fun z => nomatch z) fin
  | int i => obtain ⟨t, rfl⟩ := rx; exact PySem.W.kia_one PySem.W.kitx_int I.kIn True.intro e (fun z => nomatch z) fin
  | str y => obtain ⟨t, rfl⟩ := rx; exact PySem.W.kia_one PySem.W.kitx_str I.kIn True.intro e (fun z => nomatch z) fin
  | tup h hs =>
    cases rx
    obtain ⟨its, r, o, h1, h2, _⟩ := F.t _ _ h
    exact PySem.W.kia_one PySem.W.kitx_tuple I.kIn ⟨o, h1, h2⟩ e (fun z => nomatch z) fin
  | lst h hs =>
    cases rx
    obtain ⟨its, r, o, h1, h2, _⟩ := F.l _ _ h
    exact PySem.W.kia_one PySem.W.kitx_list I.kIn ⟨o, h1, h2⟩ e (fun z => nomatch z) fin
  | emp h =>
    cases rx
    obtain ⟨o, h1, h2⟩ := F.e _ h
    exact PySem.W.kia_one PySem.W.kitx_dict I.kIn ⟨o, h1, h2⟩ e (fun z => nomatch z) fin
def gIs (T : String) (g : G R) : G R := fun env => g env >>= fun r => .ok (.d (.bl (subT (tyD r.dat) T)))
theorem pd_isinst {T : String} {Ts : Str} {p p2 : Pos} (kit : ∀ (K : PySem.W.Frag) (t : String), t ∈ ["NoneType", "bool", "int", "str", "tuple", "list", "dict"] → PySem.W.kitOne K (.type t) (.type T) = some (subT t T)) (hT : bootBuiltins Ts = some (.type T)) (mT : X.mg Ts = none)
    (h : PD X c a g) (hm : X.mg "isinstance" = none) (hK : X.K = c.K := by rfl) (hg : Gl X "isinstance" := by rfl) (hgT : Gl X Ts := by rfl) (hn : Ts ≠ "__name__" := by decide) (hdT : (Ts == ("__debug__" : Str)) = false := by decide)
    (he : starEach [a, .Name Ts p2] X.env = (false, eval a X.env) :: starEach [.Name Ts p2] X.env := by rfl) (he2 : starEach [.Name Ts p2] X.env = (false, eval (.Name Ts p2) X.env) :: starEach [] X.env := by rfl)
    (hpl : (backTo pos (starEach [.Name Ts p2] X.env)).any (·.1) = false := by rfl) : PD X c (.Call (.Name "isinstance" p) [a, .Name Ts p2] [] pos) (gIs T g) :=
  peImp (pe_callB (call_isinst kit) hg hm (by decide +kernel) (pa_cons h (pa_cons (pe_bltn hgT mT hT (v := .ty T) rfl hn hdT) pa_nil he2) he) (by decide) (by decide) he hpl) fun σ H Q ⟨J, env, sr, w⟩ => by
    refine ⟨J, env, sr, wpM_mono (wpM_bind w) fun r wr v J1 H1 e1 r1 => ?_⟩
    exact ⟨r.dat, v, rfl, by rw [hK]; exact r1.dat (sr.hp.ext e1), wr _ J1 H1 e1 (.bl _)⟩
/-! ### all([..]) of truths -/
def blsOf : List D → Option (List Bool)
  | [] => some []
  | .bl k :: r => (blsOf r).map (k :: ·)
  | _ :: _ => none
theorem blsOf_rep {K : PySem.W.Frag} {J : Hp} : ∀ {ds : List D} {vs : List V} {ks : List Bool}, blsOf ds = some ks → Reps K J ds vs → vs = ks.map V.bl
  | [], _, _, h, .nil => by cases h; rfl
  | .bl x :: r, _, ks, h, .cons q rs => by
    unfold blsOf at h
    cases z : blsOf r with
    | none => rw [z] at h; cases h
    | some ks' =>
      rw [z] at h
      cases h
      cases q
      rw [blsOf_rep z rs]
      rfl
theorem vals_bls : ∀ {ks : List Bool} {us : List Value}, Vals (ks.map V.bl) us → us = ks.map Value.bool
  | [], _, .nil => rfl
  | k :: ks, _, .cons r rs => by
    cases r
    rw [vals_bls rs]
    rfl
theorem all_range (ks : List Bool) : (List.range ks.length).all (fun i => ks.getD i true) = ks.all id := by
  induction ks with
  | nil => rfl
  | cons k r ih =>
    rw [List.length_cons, List.range_succ_eq_map, List.all_cons, List.all_map, List.all_cons]
    simp only [List.getD_cons_zero]
    rw [← ih]
    rfl
theorem call_allB (hc : X.calm = true) : CallR X (.builtin "all") (fun xs H Q => ∃ (p : Addr) (ks : List Bool), xs = [.ref p] ∧ SqL X.K H p (ks.map V.bl) ∧ Q (.bl (ks.all id)) H) := by
  intro pins s σ H xs us Q I r h
  obtain ⟨p, ks, rfl, hq, q⟩ := h
  obtain ⟨u, rfl, rx⟩ := vals1 r
  cases rx
  obtain ⟨its, r', pl, hz⟩ := I.list hq
  have hi := vals_bls r'
  subst hi
  have hpn : p ≠ s.heap.objs.size := by
    obtain ⟨o, h1, _⟩ := pl.isList
    exact Nat.ne_of_lt (Heap.lt_size h1)
  refine call_all_walk (wpAny_pyIter_list pl.isList ⟨s.heap.objs.size, _, _, _, _, _, (fun i => ks.getD i true), rfl, Walks.list (A := X.A.in1) (show X.A.in1.handled = none from I.ok.hd hc) s.heap.objs.size p hpn (ks.map Value.bool).toArray, ⟨⟨_, Heap.get?_push_size _ rfl, rfl, rfl⟩, Heap.IsList.push pl.isList _⟩, ?_, fun h' tk k => ?_⟩)
  · intro i v s' Q' E' hP hQ
    have e : ∃ k, ks[i]? = some k ∧ v = .bool k := by
      have hP' : (ks.map Value.bool)[i]? = some v := by simpa using hP
      rw [List.getElem?_map] at hP'
      cases z : ks[i]? with
      | none => rw [z] at hP'; cases hP'
      | some k => rw [z] at hP'; cases hP'; exact ⟨k, rfl, rfl⟩
    obtain ⟨k, e1, rfl⟩ := e
    simp only at hQ
    rw [List.getD_eq_getElem?_getD, e1] at hQ
    exact wpAny_truthy_bool hQ
  · have sz : (ks.map Value.bool).toArray.size = ks.length := by simp
    rw [sz, all_range]
    refine ⟨.bl (ks.all id), H, ?_, rfl, q⟩
    refine I.kept fun b o e => k b o (fun z => ?_) (Heap.get?_push_of_some _ e)
    have : b = s.heap.objs.size := by simpa using z
    exact absurd (this ▸ Heap.lt_size e) (Nat.lt_irrefl _)
def fAll : List R → M R
  | [r] => asL r >>= fun xs => match blsOf xs with
    | some ks => .ok (.d (.bl (ks.all id)))
    | none => .bad
  | _ => .bad
theorem boot_all' : bootBuiltins "all" = some (.builtin "all") := by decide +kernel
theorem pd_all {p : Pos} {gs : G (List R)} (ha : PAr X c (e :: es) gs) (hm : X.mg "all" = none) (hK : X.K = c.K := by rfl) (hc : X.calm = true := by rfl) (hg : Gl X "all" := by rfl)
    (he : starEach (e :: es) X.env = (false, eval e X.env) :: starEach es X.env := by rfl) (hpl : (backTo pos (starEach es X.env)).any (·.1) = false := by rfl) : PD X c (.Call (.Name "all" p) (e :: es) [] pos) (gN fAll gs) :=
  pd_callB (call_allB hc) (by
    intro He J H xs vs Q hp rs w
    unfold fAll at w
    split at w
    · obtain ⟨v, rfl, r⟩ := rs.one
      obtain ⟨xs, q, w⟩ := wpM_asL w
      obtain ⟨p, vs, rfl, h1, h2⟩ := RR.list hp r q
      split at w
      · rename_i ks z
        have := blsOf_rep z h2
        subst this
        exact ⟨p, ks, rfl, by rw [hK]; exact h1, w _ J H (Ext.refl hp.sub) (.bl _)⟩
      · exact w.elim
    · exact w.elim) boot_all' hm ha hg (by decide) (by decide) he hpl
/-! ### x in a text -/
def fInS (neg : Bool) : R → R → M R
  | .d (.str i), .d (.str j) => .ok (.d (.bl (if neg then !(!(Builtin.Str.occurrences j i 0 j.length 1).isEmpty) else !(Builtin.Str.occurrences j i 0 j.length 1).isEmpty)))
  | _, _ => .bad
theorem pd_inS (ha : PD X c a ga) (hb : PD X c b gb) (hm : behindInMarks .In b = false := by rfl) : PD X c (.Compare a [.In] [b] pos) (g2 (fInS false) ga gb) := pd_cmp op_in_str (by
  intro He He' J H x y u v Q hp rx ry w
  unfold fInS at w
  split at w
  · cases rx; cases ry
    exact ⟨_, _, rfl, rfl, w _ J H (Ext.refl hp.sub) (.bl _)⟩
  · exact w.elim) ha hb hm
/-! ### a <= b < c of ints -/
def gCh (p q : Int → Int → Bool) (ga gb gc : G R) : G R := fun env => ga env >>= fun x => gb env >>= fun y => match x, y with
  | .d (.int i), .d (.int j) => if p i j then (gc env >>= fun z => match z with
    | .d (.int k) => .ok (.d (.bl (q j k)))
    | _ => .bad) else .ok (.d (.bl false))
  | _, _ => .bad
theorem pd_ch {op op' : CmpOp} {p q : Int → Int → Bool} {x : Expr} {gc : G R} (ho : OpR X (compareOp op) (rI0 fun i j => .bl (p i j))) (ho' : OpR X (compareOp op') (rI0 fun i j => .bl (q i j))) (ha : PD X c a ga) (hb : PD X c b gb) (hc : PD X c x gc)
    (hm : lastMarks [op, op'] [b, x] = false := by with_unfolding_all rfl) : PD X c (.Compare a [op, op'] [b, x] pos) (gCh p q ga gb gc) := peImp (pe_chain ho ho' ha hb hc hm) fun σ H Q ⟨J, env, sr, w⟩ => by
  refine ⟨J, env, sr, wpM_mono (wpM_bind w) fun r1 w1 v1 J1 H1 e1 q1 => ?_⟩
  refine ⟨J1, env, sr.ext e1, wpM_mono (wpM_bind w1) fun r2 w2 v2 J2 H2 e2 q2 => ?_⟩
  split at w2
  · rename_i i j
    cases q1
    cases q2
    refine ⟨i, j, rfl, rfl, p i j, rfl, ?_⟩
    cases hp : p i j with
    | true =>
      rw [hp] at w2
      refine iteT ⟨J2, env, (sr.ext e1).ext e2, wpM_mono (wpM_bind w2) fun r3 w3 v3 J3 H3 e3 q3 => ?_⟩
      split at w3
      · cases q3
        exact ⟨j, _, rfl, rfl, w3 _ J3 H3 ((e1.trans e2).trans e3) (.bl _)⟩
      · exact w3.elim
    | false =>
      rw [hp] at w2
      exact iteF (w2 _ J2 H2 (e1.trans e2) (.bl _))
  · exact w2.elim
/-! ### x is True -/
theorem op_isB : OpR X (compareOp .Is) (fun x y H Q => ∃ k k', x = .bl k ∧ y = .bl k' ∧ Q (.bl (k == k')) H) := by
  intro pins s σ H x y v u Q I rx ry h
  obtain ⟨k, k', rfl, rfl, q⟩ := h
  cases rx
  cases ry
  show wpAny _ _ (do return Value.bool (← isSame (.bool k) (.bool k'))) _ _ s
  refine wpAny_bind ?_
  cases k <;> cases k' <;> exact wpAny_pure (wpAny_pure ⟨.bl _, H, I, rfl, q⟩)
def fIsB : R → R → M R
  | .d (.bl k), .d (.bl k') => .ok (.d (.bl (k == k')))
  | _, _ => .bad
theorem pd_isB (ha : PD X c a ga) (hb : PD X c b gb) : PD X c (.Compare a [.Is] [b] pos) (g2 fIsB ga gb) := pd_cmp op_isB (by
  intro He He' J H x y u v Q hp rx ry w
  unfold fIsB at w
  split at w
  · cases rx; cases ry
    exact ⟨_, _, rfl, rfl, w _ J H (Ext.refl hp.sub) (.bl _)⟩
  · exact w.elim) ha hb
/-! ### max(a, b), min(a, b) -/
def fMax : List R → M R
  | [.d (.int i), .d (.int j)] => .ok (.d (.int (if j > i then j else i)))
  | _ => .bad
def fMin : List R → M R
  | [.d (.int i), .d (.int j)] => .ok (.d (.int (if j < i then j else i)))
  | _ => .bad
theorem pd_max {p : Pos} {gs : G (List R)} (ha : PAr X c (e :: es) gs) (hm : X.mg "max" = none) (hc : X.calm = true := by rfl) (hg : Gl X "max" := by rfl)
    (he : starEach (e :: es) X.env = (false, eval e X.env) :: starEach es X.env := by rfl) (hpl : (backTo pos (starEach es X.env)).any (·.1) = false := by rfl) : PD X c (.Call (.Name "max" p) (e :: es) [] pos) (gN fMax gs) :=
  pd_callB (call_max2 hc) (by
    intro He J H xs vs Q hp rs w
    unfold fMax at w
    split at w
    · obtain ⟨v, v', rfl, r, r'⟩ := rs.two
      cases r; cases r'
      exact ⟨_, _, rfl, w _ J H (Ext.refl hp.sub) (.int _)⟩
    · exact w.elim) (by decide +kernel) hm ha hg (by decide) (by decide) he hpl
theorem pd_min {p : Pos} {gs : G (List R)} (ha : PAr X c (e :: es) gs) (hm : X.mg "min" = none) (hc : X.calm = true := by rfl) (hg : Gl X "min" := by rfl)
    (he : starEach (e :: es) X.env = (false, eval e X.env) :: starEach es X.env := by rfl) (hpl : (backTo pos (starEach es X.env)).any (·.1) = false := by rfl) : PD X c (.Call (.Name "min" p) (e :: es) [] pos) (gN fMin gs) :=
  pd_callB (call_min2 hc) (by
    intro He J H xs vs Q hp rs w
    unfold fMin at w
    split at w
    · obtain ⟨v, v', rfl, r, r'⟩ := rs.two
      cases r; cases r'
      exact ⟨_, _, rfl, w _ J H (Ext.refl hp.sub) (.int _)⟩
    · exact w.elim) (by decide +kernel) hm ha hg (by decide) (by decide) he hpl
end
end DL
set_option Elab.async false
set_option linter.all false
set_option maxRecDepth 100000
set_option maxHeartbeats 4000000
namespace DL
open PySem PySem.Spec PyProof.Rows L2
section
variable {X : Cx} {c : C} {e a b tg : Expr} {es : List Expr} {ga gb g : G R} {pos : Pos}
/-! ### what stands at the text's top -/
theorem pd_glob {d : D} {v : V} {x : Str} {u : Value} (hm : X.mg x = some u) (r : RelV v u) (hr : ∀ J, Rep c.K J d v) (hg : Gl X x := by rfl) (hd : (x == ("__debug__" : Str)) = false := by decide) : PD X c (.Name x pos) (gC d) := pd_tC hr (pe_glob hg hm r hd)
/-! ### {} -/
theorem big_of {pins : List (Addr × Obj)} {σ : L2.St} {H : Hp} {s : Shared} (I : Inv X pins σ H s) : sysModules < s.heap.objs.size := by
  have h : mainGlobals < s.heap.objs.size := (I.mod.glob.keeps I.bk).lt
  exact Nat.lt_trans (by decide) h
theorem pd_dict0 : PD X c (.Dict [] [] pos) (gC .emp) := fun pins s σ H Q I ⟨J, env, sr, w⟩ => by
  have fr : H s.heap.objs.size = none := I.hok.fresh (Nat.le_refl _)
  refine wpAny_Dict_empty ⟨.ref s.heap.objs.size, _, I.laid (a := s.heap.objs.size) (o := .dK []) (t' := s.toks) (fun _ _ q => Heap.get?_push_of_some _ q) (Nat.le_refl _) ?_, rfl, w _ _ _ (Ext.newJ sr.hp.sub fr _) (.emp upd_same)⟩
  exact ⟨Nat.zero_le _, beq_eq_false_iff_ne.mpr (Ne.symm (Nat.ne_of_lt (big_of I))), [], .nil, Heap.DictOf.new _⟩
/-! ### t + u -/
theorem op_catAll : OpR X (binaryOp .Add) (fun x y H Q => ∃ a b xs ys, x = .ref a ∧ y = .ref b ∧ SqT X.K H a xs ∧ SqT X.K H b ys ∧ xs.length + ys.length ≤ sizeLine ∧
    (xs = [] → Q (.ref b) H) ∧ (ys = [] → Q (.ref a) H) ∧ ∀ p, H p = none → Q (.ref p) (upd H p (.tup (xs ++ ys)))) := by
  intro pins s σ H x y v u Q I rx ry h
  obtain ⟨a, b, xs, ys, rfl, rfl, ha, hb, hz, q0, q1, q2⟩ := h
  by_cases hx : xs = []
  · cases rx
    cases ry
    obtain ⟨its, r1, p1, _⟩ := I.tuple ha
    obtain ⟨its2, r2, p2, _⟩ := I.tuple hb
    have he : its = [] := r1.nil_iff.mpr hx
    subst he
    obtain ⟨⟨cls, dd, data, sl⟩, ho, hc, n, hd⟩ := id p1
    obtain ⟨⟨cls2, dd2, data2, sl2⟩, ho2, hc2, n2, hd2⟩ := id p2
    simp only at hc hd hc2 hd2
    subst hc hd hc2 hd2
    exact concat_meets ⟨_, ho, rfl⟩ ⟨_, ho2, rfl⟩ noFill_tuple_add seq_tuple_add PySem.F.slot_tuple_add PySem.F.entry_tuple_add (PySem.F.args_tuple_add_2 _ _) (tuple_addW0 a b _ _ n n2 dd dd2 sl sl2 rfl) ⟨ho, ho2, ⟨.ref b, H, I, rfl, q0 hx⟩⟩
  · exact op_catT pins s σ H (.ref a) (.ref b) v u Q I rx ry ⟨a, b, xs, ys, rfl, rfl, ha, hb, hx, hz, q1, fun _ => q2⟩
def fCatT : R → R → M R
  | .d (.tup xs), .d (.tup ys) => if xs.length + ys.length ≤ sizeLine then .ok (.d (.tup (xs ++ ys))) else .bad
  | _, _ => .bad
theorem bd_catT (hK : X.K = c.K) : BD c (fun x y H Q => ∃ a b xs ys, x = .ref a ∧ y = .ref b ∧ SqT X.K H a xs ∧ SqT X.K H b ys ∧ xs.length + ys.length ≤ sizeLine ∧
    (xs = [] → Q (.ref b) H) ∧ (ys = [] → Q (.ref a) H) ∧ ∀ p, H p = none → Q (.ref p) (upd H p (.tup (xs ++ ys)))) fCatT := by
  intro He He' J H x y u v Q hp rx ry w
  unfold fCatT at w
  split at w
  · rename_i ds es
    cases rx with
    | tup h1 s1 =>
      cases ry with
      | tup h2 s2 =>
        split at w
        · rename_i hz
          rw [s1.length, s2.length] at hz
          refine ⟨_, _, _, _, rfl, rfl, by rw [hK]; exact sameT hp.sub h1, by rw [hK]; exact sameT hp.sub h2, hz, fun e => ?_, fun e => ?_, fun p hp' => w _ _ _ (Ext.newJ hp.sub hp' _) (rr_tup hp hp' (s1.append s2))⟩
          · have e' : ds = [] := List.eq_nil_of_length_eq_zero (by rw [s1.length, e]; rfl)
            subst e'
            exact w _ J H (Ext.refl hp.sub) (.tup h2 s2)
          · have e' : es = [] := List.eq_nil_of_length_eq_zero (by rw [s2.length, e]; rfl)
            subst e'
            rw [List.append_nil] at w
            exact w _ J H (Ext.refl hp.sub) (.tup h1 s1)
        · exact w.elim
  · exact w.elim
/-- + of ints, texts, tuples, lists -/
def isT : R → Bool
  | .d (.tup _) => true
  | _ => false
def fAdd4 (x y : R) : M R := if isT x then fCatT x y else fPlus x y
theorem pd_add4 (ha : PD X c a ga) (hb : PD X c b gb) (hK : X.K = c.K := by rfl) : PD X c (.BinOp a .Add b pos) (g2 fAdd4 ga gb) := by
  have h1 : BD c (rI0 fun i j => .int (i + j)) fAdd := bd_I0 fun _ _ _ => .int _
  exact pd_op (pos := pos) (op_catAll.or (op_add.or (op_add_str.or op_cat))) (BD.or (c := c) (fun x _ => isT x) (bd_catT hK) (BD.or (c := c) (fun x _ => isI x) h1 (BD.or (c := c) (fun x _ => isS x) (f := fAddS) (f' := fCatL) (by
    intro He He' J H x y u v Q hp rx ry w
    unfold fAddS at w
    split at w
    · cases rx; cases ry
      split at w
      · rename_i h; exact ⟨_, _, rfl, rfl, h, w _ J H (Ext.refl hp.sub) (.str _)⟩
      · exact w.elim
    · exact w.elim) (by
    intro He He' J H x y u v Q hp rx ry w
    unfold fCatL at w
    split at w
    · rename_i hm
      rw [Bool.and_eq_true] at hm
      obtain ⟨p, vs, xs, e1, rfl, h1, s1⟩ := rx.made hm.1
      obtain ⟨p2, vs2, ys, e2, rfl, h2, s2⟩ := ry.made hm.2
      rw [e1, e2] at w
      simp only [bind_ok] at w
      split at w
      · rename_i hz
        rw [s1.length, s2.length] at hz
        exact ⟨p, p2, vs, vs2, rfl, rfl, h1, h2, hz, fun q hq => w _ J _ (Ext.new hp.sub hq _) (rr_new hp hq (s1.append s2))⟩
      · exact w.elim
    · exact w.elim)))) ha hb
/-! ### < of ints, texts, tuples of ints -/
def intsOf : List D → Option (List Int)
  | [] => some []
  | .int i :: r => (intsOf r).map (i :: ·)
  | _ :: _ => none
theorem intsOf_rep {K : PySem.W.Frag} {J : Hp} : ∀ {ds : List D} {vs : List V} {ns : List Int}, intsOf ds = some ns → Reps K J ds vs → vs = ns.map V.int
  | [], _, _, h, .nil => by cases h; rfl
  | .int x :: r, _, ks, h, .cons q rs => by
    unfold intsOf at h
    cases z : intsOf r with
    | none => rw [z] at h; cases h
    | some ks' =>
      rw [z] at h
      cases h
      cases q
      rw [intsOf_rep z rs]
      rfl
def fLt3 : R → R → M R
  | .d (.int i), .d (.int j) => .ok (.d (.bl (decide (i < j))))
  | .d (.str i), .d (.str j) => .ok (.d (.bl (decide (i.cps.toList < j.cps.toList))))
  | .d (.tup xs), .d (.tup ys) => match intsOf xs, intsOf ys with
    | some ns, some ms => .ok (.d (.bl (HT.lexLt ns ms)))
    | _, _ => .bad
  | _, _ => .bad
end
end DL
set_option Elab.async false
set_option linter.all false
set_option maxRecDepth 100000
set_option maxHeartbeats 4000000
namespace DL
open PySem PySem.Spec PyProof.Rows L2
/-! ### a text, sign by sign -/
def Its (x : Str) : It := ⟨fun i _ => i < x.cps.size, fun i H y H' => H' = H ∧ ∃ k, x.cps[i]? = some k ∧ y = .str ⟨#[k]⟩, fun i _ => x.cps.size ≤ i⟩
theorem turn_str {P : Program} {w : World} {K : PySem.W.Frag} {tg : Expr} {ty : String} {x : Str} {t : Tok} (it : Addr) (hty : ["enumerate", "zip", "dict_itemiterator", "dict_reverseitemiterator", "odict_iterator", "itertools.zip_longest", "itertools.pairwise"].contains ty = false)
    (W : ∀ A : Around, A.handled = none → Walks P w A it [it] [it] x.cps.size (SignAt x) (fun i h => h.IsStrIter it ty x t i))
    (Ws : ∀ (A : Around) (i : Nat) (s : Shared) (Q : Value → Shared → Prop) (E : Value → Shared → Prop), s.heap.IsStrIter it ty x t i → Q (.ref it) s → wpAny (model P w) A (pyIter (.ref it)) Q E s)
    (We : ∀ (A : Around) (i : Nat) (s : Shared) (Q : Option Value → Shared → Prop) (E : Value → Shared → Prop), A.handled = none → s.heap.IsStrIter it ty x t i → x.cps[i]? = none → (∀ h', (∀ b o, b ≠ it → s.heap.get? b = some o → h'.get? b = some o) → Q none { s with heap := h' }) → wpAny (model P w) A (pyNext (.ref it)) Q E s) : Turn P w K tg (Its x) [it] it (fun i h => h.IsStrIter it ty x t i) where
  mem := by simp
  obj := fun i h st b hb => by
    have e : b = it := by simpa using hb
    subst e
    obtain ⟨o, e, c, d⟩ := st
    exact ⟨o, e, fun v z => by rw [d] at z; cases z⟩
  keep := fun i h h' st k => by
    obtain ⟨o, e, r⟩ := st
    exact ⟨o, k it (by simp) o e, r⟩
  item := by
    intro X hP hw hK hc i pins s σ H E I hf st hg
    subst hP hw hK
    obtain ⟨f0, f1, f2, f3, f4, f5⟩ := hf it (by simp)
    refine (W X.A (I.ok.hd hc)).item i s _ _ hg st fun v h' tk hv st' kk => ?_
    obtain ⟨k, u, hk, rfl⟩ := hv
    have I1 : Inv X pins σ H { s with heap := h', toks := tk } := I.turned (fun b o hb e => kk b o (by simpa using hb) e) f0 f1 f3 f4 f5
    obtain ⟨o, e, c, d⟩ := id st'
    exact ⟨_, rfl, go_of (s := { s with heap := h', toks := tk }) e c d hty ⟨.str ⟨#[k]⟩, H, I1, ⟨u, rfl⟩, ⟨rfl, k, hk, rfl⟩, st', fun b hb => (hf b hb).1⟩⟩
  done := by
    intro X hP hw hK hc i pins s σ H E I hf st hg
    subst hP hw hK
    obtain ⟨f0, f1, f2, f3, f4, f5⟩ := hf it (by simp)
    have hx : x.cps[i]? = none := by
      have : x.cps.size ≤ i := hg
      simp; omega
    exact We X.A i s _ E (I.ok.hd hc) st hx fun h' eb => ⟨rfl, I.turned (t' := s.toks) (fun b o hb e => eb b o hb e) f0 f1 f3 f4 f5⟩
  self := Ws
section
variable {X : Cx} {c : C} {e a b tg : Expr} {es : List Expr} {ga gb g : G R} {pos : Pos}
/-- the signs of a text -/
def signs (x : Str) : List D := x.cps.toList.map fun k => .str ⟨#[k]⟩
def gItS (g : G R) : G (List D) := fun env => g env >>= fun r => match r with
  | .d (.str x) => .ok (signs x)
  | _ => .bad
def iStr (tl : TE) : TI := fun σ H R => tl σ H fun x H1 => ∃ z, x = .str z ∧ R (Its z) H1
theorem pi_str {l : Expr} {tl : TE} (hl : PE X l tl) : PI X tg l (iStr tl) := by
  intro pins s σ H R I h
  refine thn (hl pins s σ H _ I h) fun v s1 ⟨x, H1, I1, r1, q1⟩ => ?_
  obtain ⟨z, rfl, q⟩ := q1
  obtain ⟨t, rfl⟩ := r1
  have fin : ∀ (ty : String) (o : Obj) (T : Turn X.prog X.w X.K tg (Its z) [s1.heap.objs.size] s1.heap.objs.size (fun i h => h.IsStrIter s1.heap.objs.size ty z t i)), (s1.heap.push o).IsStrIter s1.heap.objs.size ty z t 0 →
      PIE X pins σ tg R (.ref s1.heap.objs.size) { s1 with heap := s1.heap.push o } := fun ty o T hst =>
    ⟨s1.heap.objs.size, [s1.heap.objs.size], _, _, H1, rfl, I1.kept (t' := s1.toks) fun b o e => Heap.get?_push_of_some _ e, T, hst, fun b hb => by
      have e : b = s1.heap.objs.size := by simpa using hb
      subst e
      exact I1.fpOk (Nat.le_refl _) (I1.hok.fresh (Nat.le_refl _)), q⟩
  cases ha : z.cps.all (· < 128)
  · exact wpAny_pyIter_wide ha (fin "str_iterator" _ (turn_str _ (by decide) (fun A hA => Walks.strWide hA _ z t) (fun A i s Q E st hQ => wpAny_pyIter_striter_wide st hQ) (fun A i s Q E hA st hx hQ => wpAny_pyNext_wide_end hA st hx hQ)) ⟨_, Heap.get?_push_size _ rfl, rfl, rfl⟩)
  · exact wpAny_pyIter_ascii ha (fin "str_ascii_iterator" _ (turn_str _ (by decide) (fun A hA => Walks.strAscii hA _ z t) (fun A i s Q E st hQ => wpAny_pyIter_striter_ascii st hQ) (fun A i s Q E hA st hx hQ => wpAny_pyNext_ascii_end hA st hx hQ)) ⟨_, Heap.get?_push_size _ rfl, rfl, rfl⟩)
theorem walk_str {J1 : Hp} {x : Str} {Ut : Hp → Hp → Prop} : Walk c (Its x) (signs x) J1 Ut := by
  intro i J H hp u
  have hl : (signs x).length = x.cps.size := by simp [signs]
  refine ⟨fun h => (show x.cps.size ≤ i by rw [← hl]; exact h), fun d hd => ?_⟩
  have hi : i < x.cps.size := by rw [← hl]; exact (List.getElem?_eq_some_iff.mp hd).1
  refine ⟨hi, fun y H2 ⟨e1, k, hk, e2⟩ => ?_⟩
  subst e1 e2
  refine ⟨J, Ext.refl hp.sub, ?_⟩
  unfold signs at hd
  rw [List.getElem?_map] at hd
  have hk' : x.cps.toList[i]? = some k := by simpa using hk
  rw [hk'] at hd
  cases hd
  exact .str _
theorem pit_str (h : PD X c e g) : PIt X c tg e (gItS g) := piImp (pi_str h) fun σ H Q ⟨J, env, sr, w⟩ => by
  refine ⟨J, env, sr, wpM_mono (wpM_bind w) fun r wr v J1 H1 e1 r1 => ?_⟩
  split at wr
  · cases r1
    exact ⟨_, rfl, wr _ J1 H1 e1 walk_str⟩
  · exact wr.elim
/-! ### t[lo:hi], t[::-1] of tuples -/
theorem tuple_whole {prog : Program} {w : World} {A : Around} {E : Value → Shared → Prop} {s : Shared} {t sl : Addr} {items : Array Value} {vl vu : Value} {lo hi : Option Int} {Q : Value → Shared → Prop} (ht : IsTup s.heap t items) (hs : s.heap.IsSliceOf sl vl vu .none) (pl : IsPart vl lo) (pu : IsPart vu hi)
    (hw : HT.sIx items.size 0 lo = 0 ∧ HT.sIx items.size items.size hi = items.size) (h : Q (.ref t) s) : wpAny (model prog w) A (getItem (.ref t) (.ref sl)) Q E s := by
  obtain ⟨os, hos, hcs, hds⟩ := id hs
  have hTs : s.TypeIs (.ref sl) "slice" := ⟨os, hos, hcs⟩
  unfold getItem
  try with_reducible refine wpAny_holding ?_
  first | refine wpAny_bind (wpAny_pure ?_) | skip
  refine wpAny_bind (wpAny_sequenceKey ht.typeIs (by decide) ?_)
  refine wpAny_bind (wpAny_callSpecial?_slot (name := Str.ofString "__getitem__") ht.typeIs PyProof.Rows.slot_tuple_getitem
    (wpAny_call_entry PyProof.Rows.slot_tuple_getitem ht.typeIs entry_tuple_getitem ?_ (args_tuple_getitem _ _)))
  show wpAny _ _ (Builtin.Tuple.tupleItemsOf (.ref t) >>= _) _ _ s
  refine wpAny_bind (tupleItemsOf_ ht ?_)
  refine wpAny_bind (wpAny_typeOf hTs ?_)
  rw [if_pos (by decide)]
  refine wpAny_bind (HT.sliceApplied_gen hs pl pu ?_)
  have hyes : (((HT.sIx items.size 0 lo : Nat) : Int) == 0 && (1 : Int) == 1 && (HT.sIx items.size items.size hi - HT.sIx items.size 0 lo) == items.size) = true := by
    rw [hw.1, hw.2]
    simp
  show wpAny _ _ (if (((HT.sIx items.size 0 lo : Nat) : Int) == 0 && (1 : Int) == 1 && (HT.sIx items.size items.size hi - HT.sIx items.size 0 lo) == items.size) = true then _ else _) _ _ s
  rw [if_pos hyes]
  unfold Builtin.Tuple.tupleIsExact
  refine wpAny_bind (wpAny_bind (wpAny_typeOf ht.typeIs (wpAny_pure ?_)))
  rw [if_pos (by decide)]
  exact wpAny_bind (wpAny_rule (wpAny_pure ⟨_, rfl, wpAny_pure h⟩))
theorem sl_tupAll : SlR X (fun x lo hi H Q => ∃ a xs, x = .ref a ∧ SqT X.K H a xs ∧ ((HT.sIx xs.length 0 lo = 0 ∧ HT.sIx xs.length xs.length hi = xs.length) → Q (.ref a) H) ∧ ∀ p, H p = none → Q (.ref p) (upd H p (.tup (cutV xs lo hi)))) := by
  intro pins s σ H x v vl vu lo hi sl Q I rx hs pl pu h
  obtain ⟨a, xs, rfl, hx, q0, q1⟩ := h
  by_cases hw : HT.sIx xs.length 0 lo = 0 ∧ HT.sIx xs.length xs.length hi = xs.length
  · cases rx
    obtain ⟨its, r, ht, hz⟩ := I.tuple hx
    have hlen : its.toArray.size = xs.length := by rw [List.size_toArray]; exact r.length.symm
    exact ⟨"tuple", _, PyProof.Rows.slot_tuple_getitem.lookup, ht.typeIs, tuple_whole ht hs pl pu (by rw [hlen]; exact hw) ⟨.ref a, H, I, rfl, q0 hw⟩⟩
  · exact sl_tup pins s σ H (.ref a) v vl vu lo hi sl Q I rx hs pl pu ⟨a, xs, rfl, hx, hw, q1⟩
theorem cutD_whole {xs : List D} {lo hi : Option Int} (h : HT.sIx xs.length 0 lo = 0 ∧ HT.sIx xs.length xs.length hi = xs.length) : cutD xs lo hi = xs := by
  unfold cutD
  rw [h.1, h.2]
  simp
def fSlT : R → Option Int → Option Int → M R
  | .d (.tup xs), l, u => .ok (.d (.tup (cutD xs l u)))
  | _, _, _ => .bad
theorem sl_D (hK : X.K = c.K) (He J H : Hp) (x : R) (v : V) (l u : Option Int) (Q : VK) (hp : HI c J H) (rx : RR c He J H x v) (w : wpM (fSlT x l u) (fun z => ∀ w J' H', Ext J H J' H' → RR c H J' H' z w → Q w H') c.T) :
    ∃ a xs, v = .ref a ∧ SqT X.K H a xs ∧ ((HT.sIx xs.length 0 l = 0 ∧ HT.sIx xs.length xs.length u = xs.length) → Q (.ref a) H) ∧ ∀ p, H p = none → Q (.ref p) (upd H p (.tup (cutV xs l u))) := by
  unfold fSlT at w
  split at w
  · rename_i ds
    cases rx with
    | tup h1 s1 =>
      refine ⟨_, _, rfl, by rw [hK]; exact sameT hp.sub h1, fun hw => ?_, fun p hp' => w _ _ _ (Ext.newJ hp.sub hp' _) (rr_tup hp hp' (s1.cut _ _))⟩
      rw [← s1.length] at hw
      rw [cutD_whole hw] at w
      exact w _ J H (Ext.refl hp.sub) (.tup h1 s1)
  · exact w.elim
/-- a slice of a list or a tuple -/
def fSl2 (x : R) (l u : Option Int) : M R := if isT x then fSlT x l u else fSlL x l u
theorem pd_sl2 {lo hi : Option Expr} {gl gh : GO} {p2 : Pos} (h : PD X c e g) (hl : POd X c lo gl) (hh : POd X c hi gh) (hK : X.K = c.K := by rfl) : PD X c (.Subscript e (.Slice lo hi none p2) pos) (gSl fSl2 g gl gh) := pd_sl (sl_tupAll.or sl_list) (by
  intro He J H x v l u Q hp rx w
  unfold fSl2 at w
  split at w
  · exact .inl (sl_D hK He J H x v l u Q hp rx w)
  · obtain ⟨xs, q, w⟩ := wpM_asL w
    obtain ⟨p, vs, rfl, h1, h2⟩ := rx.list hp q
    exact .inr ⟨p, vs, rfl, by rw [hK]; exact h1, fun p' hp' => w _ _ _ (Ext.new hp.sub hp' _) (rr_new hp hp' (h2.cut l u))⟩) h hl hh
end
end DL
set_option Elab.async false
set_option linter.all false
set_option maxRecDepth 100000
set_option maxHeartbeats 4000000
namespace DL
open PySem PySem.Spec PyProof.Rows L2
/-! ### zip(xs, ys), each a list or a tuple -/
section
variable {prog : Program} {w : World} {A : Around} {E : Value → Shared → Prop} {s : Shared}
end
def IsQ (k : String) (h : Heap) (l : Addr) (vals : Array Value) : Prop := (k = "list_iterator" ∧ h.IsList l vals) ∨ (k = "tuple_iterator" ∧ h.IsTuple l vals)
theorem IsQ.push {k : String} {h : Heap} {l : Addr} {vals : Array Value} (x : IsQ k h l vals) (o : Obj) : IsQ k (h.push o) l vals := x.elim (fun x => .inl ⟨x.1, Heap.IsList.push x.2 _⟩) fun x => .inr ⟨x.1, Heap.IsTuple.push x.2 _⟩
end DL
set_option Elab.async false
set_option linter.all false
set_option maxRecDepth 100000
set_option maxHeartbeats 4000000
namespace DL
open PySem PySem.Spec PyProof.Rows L2
def IQ (k : String) (it l : Addr) (m : Nat) (h : Heap) : Prop := (k = "list_iterator" ∧ h.IsListIter it l m) ∨ (k = "tuple_iterator" ∧ h.IsTupleIter it l m)
/-- a list or a tuple, by what walks it -/
def SqK (k : String) (K : PySem.W.Frag) (H : Hp) (l : Addr) (xs : List V) : Prop := (k = "list_iterator" ∧ SqL K H l xs) ∨ (k = "tuple_iterator" ∧ SqT K H l xs)
section
variable {X : Cx} {pins : List (Addr × Obj)} {σ : L2.St} {H : Hp} {s : Shared}
theorem SqK.get {k : String} {l : Addr} {xs : List V} (I : Inv X pins σ H s) (h : SqK k X.K H l xs) : ∃ its : List Value, Vals xs its ∧ IsQ k s.heap l its.toArray := by
  rcases h with ⟨e, h⟩ | ⟨e, h⟩
  · obtain ⟨its, r, p, _⟩ := I.list h
    exact ⟨its, r, .inl ⟨e, p.isList⟩⟩
  · obtain ⟨its, r, p, _⟩ := I.tuple h
    exact ⟨its, r, .inr ⟨e, p⟩⟩
theorem SqK.inj {k : String} {l : Addr} {xs ys : List V} (I : Inv X pins σ H s) (h : SqK k X.K H l xs) (h' : SqK k X.K H l ys) : xs = ys := by
  rcases h with ⟨e, h⟩ | ⟨e, h⟩ <;> rcases h' with ⟨e', h'⟩ | ⟨e', h'⟩
  · exact I.list_inj h h'
  · rw [e] at e'; exact absurd e' (by decide)
  · rw [e] at e'; exact absurd e' (by decide)
  · exact I.tuple_inj h h'
theorem SqK.ne {k : String} {l b : Addr} {xs : List V} (I : Inv X pins σ H s) (h : SqK k X.K H l xs) (f : FpOk X pins H b) : l ≠ b := by
  have t : (∃ o, H l = some o) ∨ ∃ o, X.K.lookup l = some o := by
    rcases h with ⟨_, h⟩ | ⟨_, h⟩ <;> rcases h with (h | ⟨o, h⟩) | ⟨o, _, _, h, _⟩
    · exact .inl ⟨_, h⟩
    · exact .inl ⟨_, h⟩
    · exact .inr ⟨o, h⟩
    · exact .inl ⟨_, h⟩
    · exact .inl ⟨_, h⟩
    · exact .inr ⟨o, h⟩
  rintro rfl
  rcases t with ⟨o, t⟩ | ⟨o, t⟩
  · rw [f.1] at t; cases t
  · have hb : X.base.get? l = some o := I.ok.mod.kin l o t
    rcases f.2.2.2.1 with z | z
    · exact I.ok.noex l o hb z
    · exact absurd (Nat.lt_of_lt_of_le (Heap.lt_size (I.ok.bs l o hb).1) z) (Nat.lt_irrefl _)
end
theorem IQ.keep {k : String} {it l : Addr} {m : Nat} {h h' : Heap} (x : IQ k it l m h) (kp : ∀ o, h.get? it = some o → h'.get? it = some o) : IQ k it l m h' := by
  rcases x with ⟨e, o, h1, r⟩ | ⟨e, o, h1, r⟩
  · exact .inl ⟨e, o, kp o h1, r⟩
  · exact .inr ⟨e, o, kp o h1, r⟩
theorem IQ.obj {k : String} {it l : Addr} {m : Nat} {h : Heap} (x : IQ k it l m h) : ∃ o, h.get? it = some o ∧ ∀ v, o.data ≠ .cell v := by
  rcases x with ⟨e, o, h1, _, d⟩ | ⟨e, o, h1, _, d⟩ <;> exact ⟨o, h1, fun v z => by rw [d] at z; cases z⟩
end DL
set_option Elab.async false
set_option linter.all false
set_option maxRecDepth 100000
set_option maxHeartbeats 4000000
namespace DL
open PySem PySem.Spec PyProof.Rows L2
section
variable {X : Cx} {c : C} {e a b : Expr} {es : List Expr} {ga gb g : G R} {pos : Pos} {elts : List Expr} {kk : Nat} {tp : Pos}
theorem SqK.same {k : String} {K : PySem.W.Frag} {H H' : Hp} {l : Addr} {xs : List V} (e : Same H H') (h : SqK k K H l xs) : SqK k K H' l xs := h.elim (fun h => .inl ⟨h.1, e.seq h.2⟩) fun h => .inr ⟨h.1, sameT e h.2⟩
end
end DL
set_option Elab.async false
set_option linter.all false
set_option maxRecDepth 100000
set_option maxHeartbeats 4000000
namespace DL
open PySem PySem.Spec PyProof.Rows L2
section
variable {X : Cx} {c : C} {e a b tg : Expr} {es : List Expr} {ga gb g : G R} {pos : Pos}
def GlobD (K : PySem.W.Frag) (mg : Str → Option Value) (x : Str) (d : D) : Prop := ∃ u v, mg x = some u ∧ RelV v u ∧ ∀ J, Rep K J d v
theorem pd_globD {d : D} {x : Str} (h : GlobD X.K X.mg x d) (hK : X.K = c.K := by rfl) (hg : Gl X x := by rfl) (hd : (x == ("__debug__" : Str)) = false := by decide) : PD X c (.Name x pos) (gC d) := by
  obtain ⟨u, v, h1, h2, h3⟩ := h
  exact pd_glob h1 h2 (fun J => hK ▸ h3 J) hg hd
theorem boot_int_ : bootBuiltins "int" = some (.type "int") := by decide +kernel
theorem boot_bool_ : bootBuiltins "bool" = some (.type "bool") := by decide +kernel
theorem boot_str_ : bootBuiltins "str" = some (.type "str") := by decide +kernel
theorem boot_tuple_ : bootBuiltins "tuple" = some (.type "tuple") := by decide +kernel
end
end DL
set_option Elab.async false
set_option linter.all false
set_option maxRecDepth 100000
set_option maxHeartbeats 4000000
namespace DL
open PySem PySem.Spec PyProof.Rows L2
section
variable {X : Cx} {c : C} {e a b tg : Expr} {es : List Expr} {ga gb g : G R} {pos : Pos} {st : Stmt} {t u : G O} {tb : G Bool}
/-! ### a statement that is never reached -/
/-! ### -e -/
def gNeg (g : G R) : G R := fun env => g env >>= fun r => match r with
  | .d (.int i) => .ok (.d (.int (-i)))
  | _ => .bad
theorem pd_neg (h : PD X c a g) : PD X c (.UnaryOp .USub a pos) (gNeg g) := peImp (pe_un un_neg h) fun σ H Q ⟨J, env, sr, w⟩ => by
  refine ⟨J, env, sr, wpM_mono (wpM_bind w) fun r wr v J1 H1 e1 r1 => ?_⟩
  split at wr
  · cases r1
    exact ⟨_, rfl, wr _ J1 H1 e1 (.int _)⟩
  · exact wr.elim
/-! ### a value's truth -/
def truD : R → M Bool
  | .d .non => .ok false
  | .d (.bl b) => .ok b
  | .d (.int i) => .ok (i != 0)
  | .d (.str y) => if y.length ≤ sizeLine then .ok ((y.length : Int) != 0) else .bad
  | .d (.tup xs) => .ok (!xs.isEmpty)
  | .d (.lst xs) => .ok (!xs.isEmpty)
  | .d .emp => .ok false
  | .l _ xs => .ok (!xs.isEmpty)
theorem isE {K : PySem.W.Frag} {J : Hp} {ds : List D} {vs : List V} (h : Reps K J ds vs) : ds.isEmpty = vs.isEmpty := by
  cases h <;> rfl
theorem truD_ok {He J H : Hp} (hp : HI c J H) {Q : Bool → Prop} {T : Exc → Prop} : ∀ {r : R} {v : V}, RR c He J H r v → wpM (truD r) Q T → ∃ k, TruV c.K v H k ∧ Q k
  | .d .non, _, h, w => by cases h; exact ⟨_, rfl, w⟩
  | .d (.bl b), _, h, w => by cases h; exact ⟨_, rfl, w⟩
  | .d (.int i), _, h, w => by cases h; exact ⟨_, rfl, w⟩
  | .d (.str y), _, h, w => by
    cases h
    unfold truD at w
    simp only at w
    split at w
    · rename_i hz; exact ⟨_, ⟨hz, rfl⟩, w⟩
    · exact w.elim
  | .d (.tup xs), _, h, w => by
    cases h with
    | tup h1 h2 => exact ⟨_, .inr (.inl ⟨_, sameT hp.sub h1, rfl⟩), by rw [← isE h2]; exact w⟩
  | .d (.lst xs), _, h, w => by
    cases h with
    | lst h1 h2 => exact ⟨_, .inl ⟨_, hp.sub.seq h1, rfl⟩, by rw [← isE h2]; exact w⟩
  | .d .emp, _, h, w => by
    cases h with
    | emp h1 => exact ⟨_, .inr (.inr ⟨_, hp.sub _ _ h1, rfl⟩), w⟩
  | .l m xs, _, h, w => by
    obtain ⟨a, vs, rfl, h1, h2⟩ := RR.list hp h rfl
    exact ⟨_, .inl ⟨_, h1, rfl⟩, by rw [← isE h2]; exact w⟩
def gTru (g : G R) : G Bool := fun env => g env >>= truD
theorem pb_tru (h : PD X c e g) (hK : X.K = c.K := by rfl) (he : ∀ whole, isTrue e X.env whole = (do let v ← whole; standAt e.pos; holding [v] (truthy v)) := by intro _; rfl) : PB X c e (gTru g) := ptImp (pt_truth h he) fun σ H Q ⟨J, env, sr, w⟩ => by
  refine ⟨J, env, sr, wpM_mono (wpM_bind w) fun r wr v J1 H1 e1 r1 => ?_⟩
  rw [hK]
  obtain ⟨k, k1, k2⟩ := truD_ok (sr.hp.ext e1) r1 wr
  exact ⟨k, k1, k2 J1 H1 e1⟩
/-! ### while -/
def whileG (tb : G Bool) (u : G O) : Nat → Ev → M O
  | 0, _ => .bad
  | n + 1, env => tb env >>= fun k => if k = true then u env >>= fun o => (match o with
    | .nx e => whileG tb u n e
    | .ct e => whileG tb u n e
    | .bk e => .ok (.nx e)
    | .rt r => .ok (.rt r)) else .ok (.nx env)
def gWhile (n : Nat) (tb : G Bool) (u : G O) : G O := fun env => whileG tb u n env
theorem pd1_while (n : Nat) {body : List Stmt} (ht : PB X c e tb) (hb : PDs X c body u) (hp : PassesOwn (model X.prog X.w) X.A X.env X.xe := by exact PassesOwn.never) : PD1 X c (.While e body [] pos) (gWhile n tb u) := psImp (ps_while hp ht hb) fun E σ H ⟨J, env, sr, w⟩ => by
  refine ⟨fun m σ H => ∃ J' env, Same J J' ∧ SR c J' H σ env ∧ wpM (whileG tb u m env) (oP c J' E) c.T, ⟨n, J, env, Same.refl J, sr, w⟩, ?_⟩
  rintro m σ H ⟨J', env, s', sr', w'⟩
  cases m with
  | zero => exact w'.elim
  | succ m =>
    refine ⟨J', env, sr', wpM_mono (wpM_bind w') fun k wk J1 H1 e1 => ?_⟩
    cases k with
    | false =>
      rw [if_neg (by decide)] at wk ⊢
      exact wk σ J1 H1 e1.j (sr'.ext e1)
    | true =>
      rw [if_pos rfl] at wk ⊢
      refine ⟨fun σ2 H2 => ∃ J2 env2, Same J1 J2 ∧ SR c J2 H2 σ2 env2 ∧ wpM (whileG tb u m env2) (oP c J2 E) c.T, ?_, ?_⟩
      · rintro σ2 H2 ⟨J2, env2, s2, sr2, w2⟩
        exact ⟨m, Nat.lt_succ_self m, J2, env2, (s'.trans e1.j).trans s2, sr2, w2⟩
      · refine ⟨J1, env, sr'.ext e1, wpM_mono (wpM_bind wk) fun o wo => ?_⟩
        cases o with
        | nx env4 => exact fun σ4 J4 H4 s4 sr4 => ⟨J4, env4, s4, sr4, wpM_mono wo fun o q => q.mono (e1.j.trans s4)⟩
        | ct env4 => exact fun σ4 J4 H4 s4 sr4 => ⟨J4, env4, s4, sr4, wpM_mono wo fun o q => q.mono (e1.j.trans s4)⟩
        | bk env4 => exact fun σ4 J4 H4 s4 sr4 => wo σ4 J4 H4 (e1.j.trans s4) sr4
        | rt r => exact fun v J4 H4 s4 h4 r4 => wo v J4 H4 (e1.j.trans s4) h4 r4
/-! ### x = y.pop() -/
theorem Reps.dropLast {K : PySem.W.Frag} {J : Hp} {ds : List D} {vs : List V} (h : Reps K J ds vs) : Reps K J ds.dropLast vs.dropLast := by
  rw [List.dropLast_eq_take, List.dropLast_eq_take, h.length]
  exact h.take _
theorem Reps.eraseIdx {K : PySem.W.Frag} {J : Hp} : ∀ {ds : List D} {vs : List V} (k : Nat), Reps K J ds vs → Reps K J (ds.eraseIdx k) (vs.eraseIdx k)
  | _, _, _, .nil => by rw [List.eraseIdx_nil, List.eraseIdx_nil]; exact .nil
  | _, _, 0, .cons _ t => t
  | _, _, k + 1, .cons r t => .cons r (Reps.eraseIdx k t)
def gPop (i j : Nat) : G O := fun env => match env[j]? with
  | some (some (.own xs)) => (match xs[xs.length - 1]? with
    | some d => .ok (.nx ((env.set j (some (.own xs.dropLast))).set i (some (.d d))))
    | none => .bad)
  | _ => .bad
theorem pd1_pop (i j : Nat) {x y : Str} {p1 p2 pos' pos'' : Pos} (nd : X.N.Nodup) (hi : X.N[i]? = some x := by rfl) (hx : Loc X.env.scope x := by first | exact Or.inl rfl | exact Or.inr rfl) (hj : X.N[j]? = some y := by rfl)
    (hv : Vis X.env.scope y := by first | exact Or.inl rfl | exact Or.inr (Or.inl rfl) | exact Or.inr (Or.inr rfl)) (hd : (y == ("__debug__" : Str)) = false := by decide) (hcd : (y == ("__classdict__" : Str)) = false := by decide)
    (hbase : attributeBase (.Name y p1) "pop" X.env (eval (.Name y p1) X.env) = eval (.Name y p1) X.env := by rfl) (hline : (p2.endLine == pos'.line) = true := by rfl)
    (hs : swapsWith (.Call (.Attribute (.Name y p1) "pop" p2) [] [] pos') (some (.Name x pos'')) pos.line X.env = pure false := by rfl)
    (hf : X.fn x = true ∨ X.env.scope.names.lookup x = some .local := by first | exact .inl rfl | exact .inr rfl) : PD1 X c (.Assign [.Name x pos''] (.Call (.Attribute (.Name y p1) "pop" p2) [] [] pos') pos) (gPop i j) :=
  psImp (ps_set nd hi hx (pe_bm0 PySem.F.plainAttrs_list PySem.F.slot_list_pop PySem.F.type_list_pop mt_pop (pe_var hj hv hd hcd) hbase hline) hs hf) fun E σ H ⟨J, env, sr, w⟩ => by
    unfold gPop at w
    split at w
    · rename_i xs hjj
      split at w
      · rename_i d hdd
        obtain ⟨v, h1, p, vs, rfl, h2, h3, h4, h5⟩ := sr.at_ j _ hjj
        refine ⟨.ref p, h1, .inl ⟨rfl, vs, SqL.of h2⟩, ?_⟩
        obtain ⟨z, hz, rz⟩ := h5.get hdd
        refine ⟨p, vs, z, rfl, rfl, h2, by rw [← h5.length]; exact hz, ?_⟩
        have sr2 := sr.upd (xs' := xs.dropLast) (vs' := vs.dropLast) hjj h1 h2 h3 h4 h5.dropLast
        exact w (σ.set i (some z)) J _ (Same.refl J) (sr2.setD (x := .d d) rz fun _ q => nomatch q)
      · exact w.elim
    · exact w.elim
/-! ### z.append(y.pop(e)) -/
end
end DL
set_option Elab.async false
set_option linter.all false
set_option maxRecDepth 100000
set_option maxHeartbeats 4000000
namespace DL
open PySem PySem.Spec PyProof.Rows L2
section
variable {X : Cx} {c : C} {e a b tg : Expr} {es : List Expr} {ga gb g : G R} {pos : Pos} {st : Stmt} {t u : G O} {tb : G Bool}
end
end DL
set_option Elab.async false
set_option linter.all false
set_option maxRecDepth 100000
set_option maxHeartbeats 4000000
namespace DL
open PySem PySem.Spec PyProof.Rows L2
/-! ### y.extend(e), e any tuple or list -/
open PySem.AutoSeq1 in
theorem ext_meets (T : String) (hT : T = "tuple" ∨ T = "list") (l b : Addr) (xs ys : Array Value) (n m : Nat) (dd : Option Addr) (sl : Array (Option Value)) (z0 : ¬(!xs.isEmpty && Builtin.List.listTooLong (xs.size + ys.size)) = true) (z1 : xs.size ≤ sizeLine) (z2 : xs.size + ys.size ≤ sizeLine + 1) :
    Meets (Builtin.«list.extend» ⟨[.ref l, .ref b], []⟩) fun _ R s => s.heap.get? l = some { cls := .type "list", dict := none, data := .seq xs n, slots := #[] } ∧
      s.heap.get? b = some { cls := .type T, dict := dd, data := .seq ys m, slots := sl } ∧ R (.ok (.ret Value.none)) { s with heap := s.heap.update l (Obj.mapSeq fun x => x ++ ys), toks := s.toks } :=
  .of_wp fun prog w A R s h => by
    obtain ⟨hp, gs, dr, tk, os⟩ := s
    obtain ⟨h1, h2, h3⟩ := h
    have t1 := AutoSeq1.idx_int
    have t2 := AutoSeq1.sub_tuple_tuple
    have t3 := AutoSeq1.sub_list_list
    have t4 := AutoSeq1.sub_tuple_list
    have t5 := AutoSeq1.sub_list_tuple
    have z3 : (xs ++ ys).size ≤ sizeLine + 1 := by
      rw [Array.size_append]
      exact z2
    rcases hT with rfl | rfl
    · wp_walk using (wpAny_updateSeq h1 rfl (hz := z1) (_hz' := z3)), wpAny_loadPart' h1, wpAny_loadPart' h2
      exact ⟨_, rfl, h3⟩
    · wp_walk using (wpAny_updateSeq h1 rfl (hz := z1) (_hz' := z3)), wpAny_loadPart' h1, wpAny_loadPart' h2
      exact ⟨_, rfl, h3⟩
section
variable {X : Cx} {c : C} {e a b tg : Expr} {es : List Expr} {ga gb g : G R} {pos : Pos}
def rExt (K : PySem.W.Frag) : V → List V → Hp → VK → Prop := fun x vs H Q => ∃ l b xs zs, x = .ref l ∧ vs = [.ref b] ∧ H l = some (.lst xs) ∧ (SqL K H b zs ∨ SqT K H b zs) ∧ xs.length + zs.length ≤ sizeLine ∧ Q .non (upd H l (.lst (xs ++ zs)))
theorem mt_ext : MtM X "list.extend" (rExt X.K) := by
  intro pins s σ H x vs v us Q I rx rv h
  obtain ⟨l, b, xs, zs, rfl, rfl, hH, hB, hz, q⟩ := h
  cases rx
  obtain ⟨u, rfl, ru⟩ := rv.one
  cases ru
  obtain ⟨z, its, n, r, hl, e⟩ := I.lstM hH
  have obj : ∃ T its2, (T = "tuple" ∨ T = "list") ∧ Vals zs its2 ∧ ∃ dd m sl, s.heap.get? b = some { cls := .type T, dict := dd, data := .seq its2.toArray m, slots := sl } := by
    rcases hB with hB | hB
    · obtain ⟨its2, r2, pl, _⟩ := I.list hB
      obtain ⟨⟨cls, dd, data, sl⟩, ho, hc, m, hd⟩ := pl.isList
      simp only at hc hd
      subst hc hd
      exact ⟨"list", its2, .inr rfl, r2, dd, m, sl, ho⟩
    · obtain ⟨its2, r2, pl, _⟩ := I.tuple hB
      obtain ⟨⟨cls, dd, data, sl⟩, ho, hc, m, hd⟩ := pl
      simp only at hc hd
      subst hc hd
      exact ⟨"tuple", its2, .inl rfl, r2, dd, m, sl, ho⟩
  obtain ⟨T, its2, hT, r2, dd, m, sl, e2⟩ := obj
  have hl2 := r2.length
  have hsz : its.toArray.size + its2.toArray.size ≤ sizeLine := by rw [List.size_toArray, List.size_toArray]; omega
  have hlong : ¬ (!its.toArray.isEmpty && Builtin.List.listTooLong (its.toArray.size + its2.toArray.size)) = true := by
    rw [notLongL hsz, Bool.and_false]
    exact Bool.false_ne_true
  refine call_meets F.slot_list_extend ⟨_, e, rfl⟩ F.entry_list_extend (F.args_list_extend_2 _ _) (ext_meets T hT l b its.toArray its2.toArray n m dd sl hlong (by rw [List.size_toArray]; omega) (by omega)) ⟨e, e2, ?_⟩
  refine ⟨.non, _, I.lset (its' := its ++ its2) hH e (by simp) (r.append r2) ?_, rfl, q⟩
  rw [List.length_append]
  omega
def gExt (i : Nat) (g : G R) : G O := fun env => match env[i]? with
  | some (some (.own xs)) => g env >>= fun r => asQ r >>= fun ys => if xs.length + ys.length ≤ sizeLine then .ok (.nx (env.set i (some (.own (xs ++ ys))))) else .bad
  | _ => .bad
theorem pd1_extend (i : Nat) {x : Str} {p1 p2 pos' : Pos} (h : PD X c e g) (hN : X.N[i]? = some x := by rfl) (hv : Vis X.env.scope x := by first | exact Or.inl rfl | exact Or.inr (Or.inl rfl) | exact Or.inr (Or.inr rfl)) (hd : (x == ("__debug__" : Str)) = false := by decide)
    (hcd : (x == ("__classdict__" : Str)) = false := by decide)
    (hbase : attributeBase (.Name x p1) "extend" X.env (eval (.Name x p1) X.env) = eval (.Name x p1) X.env := by rfl)
    (hfew : ((backTo pos' (starEach [e] X.env)).all (fun x => !x.1) && (backToKw pos' (keywordEach [] X.env)).all (fun x => x.1.isSome)
      && decide (([e] : List Expr).length + ([] : List Keyword).length + (if ([] : List Keyword).isEmpty then 0 else 1) < 30)) = true := by rfl)
    (hline : (p2.endLine == pos'.line) = true := by rfl) (hst : starEach [e] X.env = (false, eval e X.env) :: starEach [] X.env := by rfl) (hplain : (backTo pos' (starEach [] X.env)).any (·.1) = false := by rfl)
    (hs : swapsWith (.Call (.Attribute (.Name x p1) "extend" p2) [e] [] pos') none pos.line X.env = pure false := by rfl) (hK : X.K = c.K := by rfl) :
    PD1 X c (.Expr (.Call (.Attribute (.Name x p1) "extend" p2) [e] [] pos') pos) (gExt i g) :=
  psImp (ps_expr (pe_bm PySem.F.plainAttrs_list PySem.F.slot_list_extend PySem.F.type_list_extend mt_ext (pe_var hN hv hd hcd) (pa_cons h pa_nil hst) hbase hfew hline hst hplain) hs) fun E σ H ⟨J, env, sr, w⟩ => by
    unfold gExt at w
    split at w
    · rename_i xs hi
      obtain ⟨v, h1, a, vs, rfl, h2, h3, h4, h5⟩ := sr.at_ i _ hi
      refine ⟨.ref a, h1, .inl ⟨rfl, vs, SqL.of h2⟩, ?_⟩
      refine ⟨J, env, sr, wpM_mono (wpM_bind w) fun r wr y J1 H1 e1 r1 => ?_⟩
      obtain ⟨ys, q, wr⟩ := wpM_asQ wr
      split at wr
      · rename_i hz
        obtain ⟨p, ws, rfl, hq, hs⟩ := asQ_seq (sr.hp.ext e1) r1 q
        refine ⟨a, p, vs, ws, rfl, rfl, e1.h _ _ h2, by rw [hK]; exact hq, by rw [← h5.length, ← hs.length]; exact hz, ?_⟩
        refine wr σ J1 _ e1.j ?_
        exact (sr.ext e1).upd hi h1 (e1.h _ _ h2) (e1.frz a (by rw [h2]; intro z; cases z) h3) h4 ((h5.mono e1.j).append hs)
      · exact wr.elim
    · exact w.elim
/-! ### is, is not: beside None, True, False -/
end
end DL
set_option Elab.async false
set_option linter.all false
set_option maxRecDepth 100000
set_option maxHeartbeats 4000000
namespace DL
open PySem PySem.Spec PyProof.Rows L2
section
variable {X : Cx} {c : C} {e a b tg : Expr} {es : List Expr} {ga gb g : G R} {pos : Pos}
/-! ### is, is not: beside None, True, False -/
def oneV : V → Option (Option Bool)
  | .non => some none
  | .bl k => some (some k)
  | _ => none
theorem same_one {x y : V} {v u : Value} {o : Option Bool} (rx : RelV x v) (ry : RelV y u) (h : oneV y = some o) : isSame v u = pure (oneV x == some o) := by
  cases y with
  | non =>
    cases h
    cases ry
    cases x with
    | non => cases rx; rfl
    | bl k => cases rx; rfl
    | int i => obtain ⟨t, rfl⟩ := rx; rfl
    | str z => obtain ⟨t, rfl⟩ := rx; rfl
    | byt z => obtain ⟨t, rfl⟩ := rx; rfl
    | flt z => obtain ⟨t, rfl⟩ := rx; rfl
    | ref p => cases rx; rfl
    | ty n => cases rx; rfl
  | bl k' =>
    cases h
    cases ry
    cases x with
    | non => cases rx; rfl
    | bl k => cases rx; cases k <;> cases k' <;> rfl
    | int i => obtain ⟨t, rfl⟩ := rx; rfl
    | str z => obtain ⟨t, rfl⟩ := rx; rfl
    | byt z => obtain ⟨t, rfl⟩ := rx; rfl
    | flt z => obtain ⟨t, rfl⟩ := rx; rfl
    | ref p => cases rx; rfl
    | ty n => cases rx; rfl
  | _ => cases h
theorem op_isNotC : OpR X (compareOp .IsNot) (fun x y H Q => ∃ o, oneV y = some o ∧ Q (.bl (!(oneV x == some o))) H) := by
  intro pins s σ H x y v u Q I rx ry h
  obtain ⟨o, ho, q⟩ := h
  show wpAny _ _ (do return Value.bool (!(← isSame v u))) _ _ s
  rw [same_one rx ry ho]
  exact wpAny_bind (wpAny_pure (wpAny_pure ⟨.bl _, H, I, rfl, q⟩))
def oneR : R → Option (Option Bool)
  | .d .non => some none
  | .d (.bl k) => some (some k)
  | _ => none
def fIs (neg : Bool) (x y : R) : M R := match oneR y with
  | some o => .ok (.d (.bl (if neg then !(oneR x == some o) else oneR x == some o)))
  | none => .bad
theorem one_rep {He J H : Hp} : ∀ {r : R} {v : V}, RR c He J H r v → oneV v = oneR r
  | .d .non, _, h => by cases h; rfl
  | .d (.bl _), _, h => by cases h; rfl
  | .d (.int _), _, h => by cases h; rfl
  | .d (.str _), _, h => by cases h; rfl
  | .d (.tup _), _, h => by cases h; rfl
  | .d (.lst _), _, h => by cases h; rfl
  | .d .emp, _, h => by cases h; rfl
  | .l .fresh _, _, h => by obtain ⟨_, _, rfl, _⟩ := h; rfl
  | .l .own _, _, h => by obtain ⟨_, _, rfl, _⟩ := h; rfl
  | .l .bor _, _, h => by obtain ⟨_, _, rfl, _⟩ := h; rfl
theorem pb_isnot (ha : PD X c a ga) (hb : PD X c b gb) : PB X c (.Compare a [.IsNot] [b] pos) (gTr (g2 (fIs true) ga gb)) := pb_cmp op_isNotC (by
  intro He He' J H x y u v Q hp rx ry w
  unfold fIs at w
  split at w
  · rename_i o ho
    refine ⟨o, by rw [one_rep ry]; exact ho, ?_⟩
    rw [one_rep rx]
    exact w _ J H (Ext.refl hp.sub) (.bl _)
  · exact w.elim) ha hb
end
end DL
set_option Elab.async false
set_option linter.all false
set_option maxRecDepth 100000
set_option maxHeartbeats 4000000
namespace DL
open PySem PySem.Spec PyProof.Rows L2
/-! ### dicts of the text's top that never change: keys are texts -/
inductive CPairs (K : PySem.W.Frag) : List (Str × D) → List (Str × Value) → Prop
  | nil : CPairs K [] []
  | cons {k : Str} {d : D} {v : V} {u : Value} {r : List (Str × D)} {rs : List (Str × Value)} : RelV v u → (∀ J, Rep K J d v) → CPairs K r rs → CPairs K ((k, d) :: r) ((k, u) :: rs)
def lookD (kvs : List (Str × D)) (k : Str) : Option D := (kvs.find? fun p => p.1 = k).map (·.2)
theorem CPairs.get {K : PySem.W.Frag} {kvs : List (Str × D)} {us : List (Str × Value)} (h : CPairs K kvs us) (k : Str) : (∀ d, lookD kvs k = some d → ∃ u v, valueAt us k = some u ∧ RelV v u ∧ ∀ J, Rep K J d v) ∧ (valueAt us k).isSome = (lookD kvs k).isSome := by
  induction h with
  | nil => exact ⟨(fun d z => nomatch z), rfl⟩
  | @cons k' d' v u r rs h1 h2 h3 ih =>
    by_cases e : k' = k
    · have e1 : lookD ((k', d') :: r) k = some d' := by simp [lookD, List.find?_cons, e]
      have e2 : valueAt ((k', u) :: rs) k = some u := by simp [valueAt, List.find?_cons, e]
      rw [e1, e2]
      exact ⟨fun d z => by cases z; exact ⟨u, v, rfl, h1, h2⟩, rfl⟩
    · have e1 : lookD ((k', d') :: r) k = lookD r k := by simp [lookD, List.find?_cons, e]
      have e2 : valueAt ((k', u) :: rs) k = valueAt rs k := by simp [valueAt, List.find?_cons, e]
      rw [e1, e2]
      exact ih
def CDict (K : PySem.W.Frag) (w : World) (mg : Str → Option Value) (x : Str) (kvs : List (Str × D)) : Prop :=
  ∃ (a : Addr) (us : List (Str × Value)), mg x = some (.ref a) ∧ (a == sysModules) = false ∧ (∀ (P : Program) (h : Heap), K.In h → h.DictOf (strKind P w) a us) ∧ CPairs K kvs us
section
variable {X : Cx} {c : C} {e a b tg i : Expr} {es : List Expr} {ga gb g : G R} {pos : Pos}
theorem ix_cdict : IxR X (fun x y H Q => ∃ a us k u v, x = .ref a ∧ y = .str k ∧ (∀ (P : Program) (h : Heap), X.K.In h → h.DictOf (strKind P X.w) a us) ∧ valueAt us k = some u ∧ RelV v u ∧ Q v H) := by
  intro value slice pins s σ H x y v u Q I rx ry h hs
  obtain ⟨a, us, k, u', v', rfl, rfl, hd, hv, r, q⟩ := h
  cases rx
  obtain ⟨t, rfl⟩ := ry
  have dd := hd X.prog s.heap I.kIn
  exact tail_any dd.typeIs PySem.F.slot_dict_getitem.lookup (wpAny_getItem_of (by show Value.isStrOf k (.str k t) = true; simp [Value.isStrOf]) dd.mapOf hv ⟨v', H, I.tok _, r, q⟩) hs
theorem op_cin : OpR X (compareOp .In) (fun x y H Q => ∃ a us k, x = .str k ∧ y = .ref a ∧ (a == sysModules) = false ∧ (∀ (P : Program) (h : Heap), X.K.In h → h.DictOf (strKind P X.w) a us) ∧ Q (.bl (valueAt us k).isSome) H) := by
  intro pins s σ H x y v u Q I rx ry h
  obtain ⟨a, us, k, rfl, rfl, hn, hd, q⟩ := h
  obtain ⟨t, rfl⟩ := rx
  cases ry
  have dd := hd X.prog s.heap I.kIn
  exact wpAny_in_of (by show Value.isStrOf k (.str k t) = true; simp [Value.isStrOf]) hn dd.mapOf ⟨.bl _, H, I.tok _, rfl, q⟩
theorem op_cnotin : OpR X (compareOp .NotIn) (fun x y H Q => ∃ a us k, x = .str k ∧ y = .ref a ∧ (a == sysModules) = false ∧ (∀ (P : Program) (h : Heap), X.K.In h → h.DictOf (strKind P X.w) a us) ∧ Q (.bl (!(valueAt us k).isSome)) H) := by
  intro pins s σ H x y v u Q I rx ry h
  obtain ⟨a, us, k, rfl, rfl, hn, hd, q⟩ := h
  obtain ⟨t, rfl⟩ := rx
  cases ry
  have dd := hd X.prog s.heap I.kIn
  exact wpAny_notIn_of (by show Value.isStrOf k (.str k t) = true; simp [Value.isStrOf]) hn dd.mapOf ⟨.bl _, H, I.tok _, rfl, q⟩
def gCGet (kvs : List (Str × D)) (g : G R) : G R := fun env => g env >>= fun r => match r with
  | .d (.str k) => (match lookD kvs k with
    | some d => .ok (.d d)
    | none => .bad)
  | _ => .bad
theorem pd_cget {x : Str} {kvs : List (Str × D)} {p : Pos} (h : CDict X.K X.w X.mg x kvs) (hi : PD X c i g) (hK : X.K = c.K := by rfl) (hg : Gl X x := by rfl) (hd : (x == ("__debug__" : Str)) = false := by decide) (hs : PlainIx i := by exact fun _ _ => rfl) :
    PD X c (.Subscript (.Name x p) i pos) (gCGet kvs g) := by
  obtain ⟨a, us, h1, h2, h3, h4⟩ := h
  refine peImp (pe_ix ix_cdict (pe_glob (v := .ref a) hg h1 rfl hd) hi hs) fun σ H Q ⟨J, env, sr, w⟩ => ?_
  refine ⟨J, env, sr, wpM_mono (wpM_bind w) fun r wr v J1 H1 e1 r1 => ?_⟩
  split at wr
  · rename_i k
    cases r1
    split at wr
    · rename_i d hd'
      obtain ⟨u, v, k1, k2, k3⟩ := (h4.get k).1 d hd'
      exact ⟨a, us, k, u, v, rfl, rfl, h3, k1, k2, wr v J1 H1 e1 (show Rep c.K J1 d v from hK ▸ k3 J1)⟩
    · exact wr.elim
  · exact wr.elim
def gCIn (neg : Bool) (kvs : List (Str × D)) (g : G R) : G R := fun env => g env >>= fun r => match r with
  | .d (.str k) => .ok (.d (.bl (if neg then !(lookD kvs k).isSome else (lookD kvs k).isSome)))
  | _ => .bad
theorem pb_cin {x : Str} {kvs : List (Str × D)} {p : Pos} (h : CDict X.K X.w X.mg x kvs) (ha : PD X c a g) (hg : Gl X x := by rfl) (hd : (x == ("__debug__" : Str)) = false := by decide) (hm : behindInMarks .In (.Name x p) = false := by rfl) :
    PB X c (.Compare a [.In] [.Name x p] pos) (gTr (gCIn false kvs g)) := by
  obtain ⟨q, us, h1, h2, h3, h4⟩ := h
  refine ptImp (pt_cmpR op_cin ha (pe_glob (v := .ref q) hg h1 rfl hd) hm) fun σ H Q ⟨J, env, sr, w⟩ => ?_
  refine ⟨J, env, sr, wpM_mono (wpM_bind (wpM_bind w)) fun r wr v J1 H1 e1 r1 => ?_⟩
  split at wr
  · rename_i k
    cases r1
    refine ⟨q, us, k, rfl, rfl, h2, h3, ?_⟩
    rw [(h4.get k).2]
    exact ⟨_, rfl, wr J1 H1 e1⟩
  · exact wr.elim
theorem pb_cnotin {x : Str} {kvs : List (Str × D)} {p : Pos} (h : CDict X.K X.w X.mg x kvs) (ha : PD X c a g) (hg : Gl X x := by rfl) (hd : (x == ("__debug__" : Str)) = false := by decide) (hm : behindInMarks .NotIn (.Name x p) = false := by rfl) :
    PB X c (.Compare a [.NotIn] [.Name x p] pos) (gTr (gCIn true kvs g)) := by
  obtain ⟨q, us, h1, h2, h3, h4⟩ := h
  refine ptImp (pt_cmpR op_cnotin ha (pe_glob (v := .ref q) hg h1 rfl hd) hm) fun σ H Q ⟨J, env, sr, w⟩ => ?_
  refine ⟨J, env, sr, wpM_mono (wpM_bind (wpM_bind w)) fun r wr v J1 H1 e1 r1 => ?_⟩
  split at wr
  · rename_i k
    cases r1
    refine ⟨q, us, k, rfl, rfl, h2, h3, ?_⟩
    rw [(h4.get k).2]
    exact ⟨_, rfl, wr J1 H1 e1⟩
  · exact wr.elim
end
end DL
set_option Elab.async false
set_option linter.all false
set_option maxRecDepth 100000
set_option maxHeartbeats 4000000
namespace DL
open PySem PySem.Spec PyProof.Rows L2
/-! ### a dict of the text's top as the row has it -/
def entS (w : World) (p : Str × Tok × Value) : DictEntry := ⟨PyData.keyHash w.params p.1, .str p.1 p.2.1, p.2.2⟩
theorem pairs_of {P : Program} {w : World} : ∀ (es : List (Str × Tok × Value)), PySem.Pairs (strKind P w) (es.map (entS w)) (es.map fun p => (p.1, p.2.2))
  | [] => .nil
  | p :: r => .cons (by show Value.isStrOf p.1 (.str p.1 p.2.1) = true; simp [Value.isStrOf]) rfl (pairs_of r)
theorem cdict_of {K : PySem.W.Frag} {w : World} {mg : Str → Option Value} {h0 : Heap} {x : Str} {f : Addr} {ep : Nat} {kvs : List (Str × D)} (es : List (Str × Tok × Value)) (X : K.In h0) (G : h0.Ns mainGlobals mg)
    (g : PySem.W.nsIn K mainGlobals x = some (some (.ref f))) (l : K.lookup f = some { cls := .type "dict", data := .dict (es.map (entS w)).toArray ep }) (nd : (es.map (·.1)).Nodup) (hs : (f == sysModules) = false) (hp : CPairs K kvs (es.map fun p => (p.1, p.2.2))) : CDict K w mg x kvs := by
  refine ⟨f, es.map fun p => (p.1, p.2.2), PySem.W.mg_of X G g, hs, fun P h hK => ?_, hp⟩
  refine ⟨_, _, _, hK f _ l, ⟨rfl, rfl, rfl⟩, rfl, fun e he => ?_, pairs_of es, ?_⟩
  · have he' : e ∈ es.map (entS w) := by simpa using he
    obtain ⟨p, _, rfl⟩ := List.mem_map.mp he'
    exact ⟨p.1, by show Value.isStrOf p.1 (.str p.1 p.2.1) = true; simp [Value.isStrOf], rfl⟩
  · rw [List.map_map]
    exact nd
end DL
set_option Elab.async false
set_option linter.all false
set_option maxRecDepth 100000
set_option maxHeartbeats 4000000
namespace DL
open PySem PySem.Spec PyProof.Rows L2
/-! ### max(xs, default=d) of a list of ints -/
def maxL (m : Int) (ns : List Int) : Int := ns.foldl (fun m b => if b > m then b else m) m
section
variable {prog : Program} {w : World} {A : Around} {R : Result → Shared → Prop} {I : Addr} {fp wr : List Addr} {St : Nat → Heap → Prop} {us : Array Value} {ns : List Int} {S : Addr} {dv : Value}
theorem nmLoop : (toString "max" ++ toString ".loop" : String) = "max.loop" := by decide
theorem gtInts {a b : Int} {t u : Tok} {s : Shared} {Q : Value → Shared → Prop} {E : Value → Shared → Prop} (h : Q (.bool (decide (a > b))) s) : wpAny (model prog w) A (richCompare .Gt (.int a t) (.int b u)) Q E s :=
  richCompare_gives (op := .Gt) (typeIs_int s a t) (typeIs_int s b u) F.slot_int_gt F.entry_int_gt (F.args_int_gt_2 _ _) (gives_int_gt _ _ t u) (fun z => nomatch z) h
theorem maxD_go (W : Walks prog w A.in1 I fp wr us.size (fun i v => us[i]? = some v) St) (hSf : S ∉ fp) (hu : ∀ (i : Nat) (v : Value), us[i]? = some v → ∃ t, v = .int (ns.getD i 0) t) (hl : us.size = ns.length) :
    ∀ (k j : Nat) (s : Shared) (m : Int) (t : Tok) (c : Nat), ns.length - (j + 1) = k → j + 1 ≤ ns.length → St (j + 1) s.heap → s.heap.get? S = some { cls := .type "list", dict := none, data := .seq #[.int m t, .int m t] c, slots := #[] } →
    (∀ (t' : Tok) (h' : Heap) (tk : Nat), (∀ b o, b ∉ wr → b ≠ S → s.heap.get? b = some o → h'.get? b = some o) → R (.ok (.ret (.int (maxL m (ns.drop (j + 1))) t'))) { s with heap := h', toks := tk }) →
    codeAny (model prog w) A (.builtin "max.loop" ⟨[.ref I, .none, .ref S], [("default", dv)]⟩) R s := by
  have hSw : S ∉ wr := fun z => hSf (W.sub _ z)
  intro k
  induction k with
  | zero =>
    intro j s m t c hk hj hst hS hR
    have hin : j + 1 = us.size := by omega
    (refine codeAny_builtin F.entry_max_loop ?_); rw [Around.under_plainId F.plain_max_loop _]
    (show wpAny _ A.in1 (seqItems? (.ref S) >>= _) _ _ s); refine wpAny_bind (wpAny_seqItems hS rfl ?_)
    (show wpAny _ A.in1 (tryCatch (pyNext (.ref I)) _ >>= _) _ _ s); refine wpAny_bind (wpAny_tryCatch (W.done s _ _ (hin ▸ hst) fun h1 tk k1 => ?_))
    have hS1 := k1 S _ hSw hS
    (show wpAny _ A.in1 (updateSeq S (fun _ => #[]) >>= _) _ _ _); refine wpAny_bind (wpAny_updateSeq hS1 rfl (wpAny_bind (wpAny_letGo (wpAny_pure ?_))))
    have z := hR t (h1.update S (Obj.mapSeq fun _ => #[])) tk fun b o hb hbS e => (Heap.get?_update_other _ _ (Ne.symm hbS)).trans (k1 b o hb e)
    rw [List.drop_eq_nil_of_le (by omega)] at z
    exact z
  | succ k ih =>
    intro j s m t c hk hj hst hS hR
    have hlt : j + 1 < us.size := by omega
    (refine codeAny_builtin F.entry_max_loop ?_); rw [Around.under_plainId F.plain_max_loop _]
    (show wpAny _ A.in1 (seqItems? (.ref S) >>= _) _ _ s); refine wpAny_bind (wpAny_seqItems hS rfl ?_)
    (show wpAny _ A.in1 (tryCatch (pyNext (.ref I)) _ >>= _) _ _ s); refine wpAny_bind (wpAny_tryCatch (W.item (j + 1) s _ _ hlt hst fun v h1 tk hP hst1 k1 => ?_))
    have hS1 := k1 S _ hSw hS
    obtain ⟨t1, rfl⟩ := hu _ _ hP
    have hd : ns.drop (j + 1) = ns.getD (j + 1) 0 :: ns.drop (j + 1 + 1) := by
      rw [List.drop_eq_getElem_cons (by omega : j + 1 < ns.length), List.getD_eq_getElem?_getD, List.getElem?_eq_getElem (by omega : j + 1 < ns.length)]
      rfl
    rw [hd] at hR
    generalize ns.getD (j + 1) 0 = y at hR hP ⊢
    (show wpAny _ A.in1 (tryCatch (holding [Value.int y t1, Value.int y t1] (richCompare .Gt (Value.int y t1) (Value.int m t) >>= _)) _ >>= _) _ _ _); refine wpAny_bind (wpAny_tryCatch (wpAny_holding (wpAny_bind (gtInts ?_))))
    (refine wpAny_bind (wpAny_holding (wpAny_truthy_bool ?_))); refine wpAny_bind (wpAny_letGo (wpAny_pure ?_))
    by_cases hb : y > m
    · rw [decide_eq_true hb]
      simp only [if_true]
      (refine wpAny_bind (wpAny_updateSeq hS1 rfl (wpAny_bind (wpAny_letGo ?_)))); rw [nmLoop]
      refine wpAny_pure ⟨plainId_quiet F.plain_max_loop _, ih (j + 1) _ y t1 _ (by omega) (by omega) (W.frame _ _ _ hst1 fun b hbf o e => ?_) (Heap.get?_update_self _ hS1 rfl) fun t2 h2 tk2 k2 => ?_⟩
      · exact (Heap.get?_update_other _ _ (fun z : S = b => hSf (z ▸ hbf))).trans e
      · have q := hR t2 h2 tk2 fun b o hbw hbS e => k2 b o hbw hbS ((Heap.get?_update_other _ _ (Ne.symm hbS)).trans (k1 b o hbw e))
        have e : maxL m (y :: ns.drop (j + 1 + 1)) = maxL y (ns.drop (j + 1 + 1)) := by
          show List.foldl _ (if y > m then y else m) _ = _
          rw [if_pos hb]
          rfl
        rw [e] at q
        exact q
    · rw [decide_eq_false hb]
      (simp only [Bool.false_eq_true, if_false]); (refine wpAny_bind (wpAny_letGo ?_)); rw [nmLoop]
      refine wpAny_pure ⟨plainId_quiet F.plain_max_loop _, ih (j + 1) _ m t c (by omega) (by omega) hst1 hS1 fun t2 h2 tk2 k2 => ?_⟩
      have q := hR t2 h2 tk2 fun b o hbw hbS e => k2 b o hbw hbS (k1 b o hbw e)
      have e : maxL m (y :: ns.drop (j + 1 + 1)) = maxL m (ns.drop (j + 1 + 1)) := by
        show List.foldl _ (if y > m then y else m) _ = _
        rw [if_neg hb]
        rfl
      rw [e] at q
      exact q
def maxO (d : Int) : List Int → Int
  | [] => d
  | n :: r => maxL n r
theorem maxD_first (W : Walks prog w A.in1 I fp wr us.size (fun i v => us[i]? = some v) St) (hSf : S ∉ fp) (hu : ∀ (i : Nat) (v : Value), us[i]? = some v → ∃ t, v = .int (ns.getD i 0) t) (hl : us.size = ns.length) {d : Int} {td : Tok} {s : Shared} {c : Nat} (hst : St 0 s.heap)
    (hS : s.heap.get? S = some { cls := .type "list", dict := none, data := .seq #[] c, slots := #[] })
    (hR : ∀ (t' : Tok) (h' : Heap) (tk : Nat), (∀ b o, b ∉ wr → b ≠ S → s.heap.get? b = some o → h'.get? b = some o) → R (.ok (.ret (.int (maxO d ns) t'))) { s with heap := h', toks := tk }) :
    codeAny (model prog w) A (.builtin "max.loop" ⟨[.ref I, .none, .ref S], [("default", .int d td)]⟩) R s := by
  have hSw : S ∉ wr := fun z => hSf (W.sub _ z)
  (refine codeAny_builtin F.entry_max_loop ?_); rw [Around.under_plainId F.plain_max_loop _]
  (show wpAny _ A.in1 (seqItems? (.ref S) >>= _) _ _ s); refine wpAny_bind (wpAny_seqItems hS rfl ?_)
  (show wpAny _ A.in1 (tryCatch (pyNext (.ref I)) _ >>= _) _ _ s)
  cases ns with
  | nil =>
    have h0 : (0 : Nat) = us.size := hl.symm
    refine wpAny_bind (wpAny_tryCatch (W.done s _ _ (h0 ▸ hst) fun h1 tk k1 => ?_))
    refine wpAny_bind (wpAny_rule (wpAny_pure ?_))
    exact hR td h1 tk fun b o hb _ e => k1 b o hb e
  | cons y r =>
    have hn : 0 < us.size := by rw [hl]; exact Nat.succ_pos _
    refine wpAny_bind (wpAny_tryCatch (W.item 0 s _ _ hn hst fun v h1 tk hP hst1 k1 => ?_))
    have hS1 := k1 S _ hSw hS
    obtain ⟨t1, rfl⟩ := hu _ _ hP
    (show wpAny _ A.in1 (updateSeq S (fun _ => #[Value.int ((y :: r).getD 0 0) t1, Value.int ((y :: r).getD 0 0) t1]) >>= _) _ _ _); refine wpAny_bind (wpAny_updateSeq hS1 rfl ?_)
    rw [nmLoop]
    refine wpAny_pure ⟨plainId_quiet F.plain_max_loop _, maxD_go W hSf hu hl _ 0 _ y t1 _ rfl (Nat.succ_pos _) (W.frame _ _ _ hst1 fun b hbf o e => ?_) (Heap.get?_update_self _ hS1 rfl) fun t2 h2 tk2 k2 => ?_⟩
    · exact (Heap.get?_update_other _ _ (fun z : S = b => hSf (z ▸ hbf))).trans e
    · exact hR t2 h2 tk2 fun b o hbw hbS e => k2 b o hbw hbS ((Heap.get?_update_other _ _ (Ne.symm hbS)).trans (k1 b o hbw e))
end
end DL
set_option Elab.async false
set_option linter.all false
set_option maxRecDepth 100000
set_option maxHeartbeats 4000000
namespace DL
open PySem PySem.Spec PyProof.Rows L2
section
variable {prog : Program} {w : World} {A : Around} {E : Value → Shared → Prop} {s : Shared} {l : Addr} {us : Array Value} {ns : List Int}
theorem args_maxD (a d : Value) : argsOk "max" ⟨[a], [("default", d)]⟩ := by
  unfold argsOk
  kernel_rfl
theorem call_maxD {d : Int} {td : Tok} {Q : Value → Shared → Prop} (hh : A.handled = none) (hl : s.heap.IsList l us) (hu : ∀ (i : Nat) (v : Value), us[i]? = some v → ∃ t, v = .int (ns.getD i 0) t) (hn : us.size = ns.length)
    (h : ∀ (t' : Tok) (h' : Heap) (tk : Nat), (∀ b o, s.heap.get? b = some o → h'.get? b = some o) → Q (.int (maxO d ns) t') { s with heap := h', toks := tk }) : wpAny (model prog w) A (call (.builtin "max") [.ref l] [("default", .int d td)]) Q E s := by
  have ha := args_maxD (.ref l) (.int d td)
  refine wpAny_call (codeAny_call_builtin F.plain_max F.entry_max ?_)
  have core : wpAny (model prog w) A.in1 (Builtin.«max» ⟨[.ref l], [("default", .int d td)]⟩) (fun fin s' => match fin with
      | .done f => (match (Except.ok f : Result) with | .ok (.ret v) => Q v s' | .ok _ => False | .error e => E e s')
      | .again c' => c'.quiet = true ∧ codeAny (model prog w) A c' (fun r s' => match r with | .ok (.ret v) => Q v s' | .ok _ => False | .error e => E e s') s') E s := by
    show wpAny _ A.in1 (Builtin.Builtins.bindParams "max" ["key", "default"] 0 ⟨[], [("default", .int d td)]⟩ >>= _) _ _ s
    refine wpAny_bind (wpAny_of_eq (show Builtin.Builtins.bindParams "max" ["key", "default"] 0 ⟨[], [("default", .int d td)]⟩ = pure [none, some (.int d td)] by rfl) ?_)
    refine wpAny_bind (wpAny_pure ?_)
    have hlt : l < s.heap.objs.size := by
      obtain ⟨_, e, _⟩ := hl
      exact Heap.lt_size e
    refine wpAny_bind (wpAny_pyIter_list hl ?_)
    refine wpAny_bind (wpAny_newObj_type ?_)
    rw [nmLoop]
    generalize hs2 : s.heap.push { cls := .type "list_iterator", data := .fields #[.ref l, .int 0 0] } = H2
    have hI : H2.IsListIter s.heap.objs.size l 0 := by
      rw [← hs2]
      exact ⟨_, Heap.get?_push_size _ rfl, rfl, rfl⟩
    have hL : H2.IsList l us := by
      rw [← hs2]
      exact hl.push _
    have sz : H2.objs.size = s.heap.objs.size + 1 := by rw [← hs2, Heap.size_push]
    have W := Walks.list (prog := prog) (w := w) (A := A.in1) (show A.in1.handled = none from hh) s.heap.objs.size l (Nat.ne_of_lt hlt) us
    have hSf : H2.objs.size ∉ [s.heap.objs.size, l] := fun z => by
      rcases List.mem_cons.mp z with z | z
      · exact absurd (sz.symm.trans z) (Nat.succ_ne_self _)
      · rw [List.mem_singleton] at z
        exact absurd z.symm (Nat.ne_of_lt (by rw [sz]; exact Nat.lt_succ_of_lt hlt))
    refine wpAny_pure ⟨plainId_quiet F.plain_max_loop _, maxD_first W hSf hu hn (W.frame _ _ _ ⟨hI, hL⟩ fun b _ o e => Heap.get?_push_of_some _ e) (Heap.get?_push_size _ rfl) fun t' h' tk k => ?_⟩
    refine h t' h' tk fun b o e => ?_
    have e2 : H2.get? b = some o := by
      rw [← hs2]
      exact Heap.get?_push_of_some _ e
    have lt := Heap.lt_size e
    exact k b o (fun z => absurd (List.mem_singleton.mp z) (Nat.ne_of_lt lt)) (Nat.ne_of_lt (by rw [sz]; exact Nat.lt_succ_of_lt lt)) (Heap.get?_push_of_some _ e2)
  simp only [checkBuiltinCall, F.kind_max]
  cases hsig : Manifest.signature? "max" with
  | none => exact wpAny_pure core
  | some sig =>
    simp only [argsOk, hsig] at ha
    have h2 : Bind.checkArgs "max" sig ⟨[.ref l], [("default", .int d td)]⟩ = pure () := ha
    show wpAny _ A.in1 (Bind.checkArgs "max" sig ⟨[.ref l], [("default", .int d td)]⟩) _ _ s
    rw [h2]
    exact wpAny_pure core
end
section
variable {X : Cx} {c : C} {e a b tg i : Expr} {es : List Expr} {ga gb g : G R} {pos : Pos}
def gMaxD (d : Int) (g : G R) : G R := fun env => g env >>= fun r => asL r >>= fun xs => match intsOf xs with
  | some ns => .ok (.d (.int (maxO d ns)))
  | none => .bad
theorem vals_at {ns : List Int} {its : List Value} (r : Vals (ns.map V.int) its) (i : Nat) (v : Value) (h : its.toArray[i]? = some v) : ∃ t, v = .int (ns.getD i 0) t := by
  have h' : its[i]? = some v := by simpa using h
  have hl := r.length
  rw [List.length_map] at hl
  have hi : i < ns.length := by
    rw [hl]
    exact (List.getElem?_eq_some_iff.mp h').1
  obtain ⟨u, hu, ru⟩ := r.get (show (ns.map V.int)[i]? = some (.int ns[i]) by rw [List.getElem?_map, List.getElem?_eq_getElem hi]; rfl)
  rw [h'] at hu
  cases hu
  obtain ⟨t, rfl⟩ := ru
  exact ⟨t, by rw [List.getD_eq_getElem?_getD, List.getElem?_eq_getElem hi]; rfl⟩
theorem pd_maxD {d : Int} {j : Nat} {p kp vp : Pos} (ha : PD X c e g) (hm : X.mg "max" = none) (hK : X.K = c.K := by rfl) (hc : X.calm = true := by rfl) (hg : Gl X "max" := by rfl)
    (he : backTo pos (starEach [e] X.env) = (false, eval e X.env) :: backTo pos (starEach [] X.env) := by rfl) (hst : starEach [e] X.env = (false, eval e X.env) :: starEach [] X.env := by rfl)
    (hplain : (backTo pos (starEach [e] X.env)).any (·.1) = false := by rfl) :
    PD X c (.Call (.Name "max" p) [e] [⟨some "default", .Constant (.int d) j vp, kp⟩] pos) (gMaxD d g) := by
  intro pins s σ H Q I ⟨J, env, sr, w⟩
  refine wpAny_Call_Name_kw (ld_blt I hg hm PyProof.Rows.boot_max ?_ (by decide) (by decide))
  refine PyProof.Rows.callWith_kw (thn ((pa_cons ha pa_nil hst) pos pins s σ H (fun vs H1 => ∃ p ns J1, vs = [.ref p] ∧ SqL X.K H1 p (ns.map V.int) ∧ Ext J H J1 H1 ∧ ∀ v J' H', Ext J H J' H' → RR c H J' H' (.d (.int (maxO d ns))) v → Q v H') I ⟨J, env, sr, wpM_mono (wpM_bind w) fun r wr v J1 H1 e1 r1 => ?_⟩) fun us s1 ⟨vs, H1, I1, rv, p, ns, J1, hvs, hq, e1, q⟩ => ?_) he hplain rfl rfl
  · obtain ⟨xs, hx, wr⟩ := wpM_asL wr
    obtain ⟨p, ws, rfl, hl, hs⟩ := RR.list (sr.hp.ext e1) r1 hx
    split at wr
    · rename_i ns hns
      have := intsOf_rep hns hs
      subst this
      exact ⟨p, ns, J1, rfl, by rw [hK]; exact hl, e1, wr⟩
    · exact wr.elim
  · subst hvs
    obtain ⟨u, rfl, ru⟩ := rv.one
    cases ru
    refine PyProof.Rows.kws_cons (thn (pe_int pins s1 σ H1 (fun v H2 => v = .int d ∧ H2 = H1) I1 ⟨rfl, rfl⟩) fun dv s2 ⟨v2, H2, I2, r2, hv2, hH2⟩ => PyProof.Rows.kws_nil ?_)
    subst hv2 hH2
    obtain ⟨td, rfl⟩ := r2
    obtain ⟨its, r', pl, hz⟩ := I2.list hq
    have hlen := r'.length
    rw [List.length_map] at hlen
    show wpAny _ _ (call (.builtin "max") [.ref p] [("default", .int d td)]) _ _ s2
    refine call_maxD (I2.ok.hd hc) pl.isList (vals_at r') (by simp [hlen]) fun t' h' tk k => ?_
    exact ⟨.int _, H2, I2.kept k, ⟨t', rfl⟩, q _ J1 H2 e1 (.int _)⟩
end
end DL
set_option Elab.async false
set_option linter.all false
set_option maxRecDepth 100000
set_option maxHeartbeats 4000000
namespace DL
open PySem PySem.Spec PyProof.Rows L2
/-! ### range(a, b, step), the step above 0 -/
def Itst (lo st : Int) (n : Nat) : It := ⟨fun i _ => i < n, fun i H x H' => H' = H ∧ x = .int (lo + i * st), fun i _ => n ≤ i⟩
theorem turn_steps {P : Program} {w : World} {K : PySem.W.Frag} {tg : Expr} (it : Addr) (lo st : Int) (n : Nat) : Turn P w K tg (Itst lo st n) [it] it (fun i h => IsRangeIter h it (lo + (i : Nat) * st) ((n : Int) - (i : Nat)) st) where
  mem := List.mem_singleton.mpr rfl
  obj := fun i h z b hb => by
    rw [List.mem_singleton] at hb
    subst hb
    exact ⟨_, z, fun v y => nomatch (show Data.fields _ = Data.cell v from y)⟩
  keep := fun i h h' z k => k it (List.mem_singleton.mpr rfl) _ z
  item := by
    intro X hP hw hK hc i pins s σ H E I hf z hg
    subst hP hw hK
    obtain ⟨f0, f1, f2, f3, f4, f5⟩ := hf it (List.mem_singleton.mpr rfl)
    refine (Walks.range (prog := X.prog) (w := X.w) (I.ok.hd hc) it lo st n).item i s _ _ hg z fun v h' tk hv z' kk => ?_
    obtain ⟨t, rfl⟩ := hv
    have I1 : Inv X pins σ H { s with heap := h', toks := tk } := I.turned (fun b o hb e => kk b o (fun y => hb (List.mem_singleton.mp y)) e) f0 f1 f3 f4 f5
    exact ⟨_, rfl, go_of (s := { s with heap := h', toks := tk }) (n := "range_iterator") z' rfl rfl (by decide) ⟨.int (lo + i * st), H, I1, ⟨t, rfl⟩, ⟨rfl, rfl⟩, z', fun b hb => (hf b hb).1⟩⟩
  done := by
    intro X hP hw hK hc i pins s σ H E I hf z hg
    subst hP hw hK
    obtain ⟨f0, f1, f2, f3, f4, f5⟩ := hf it (List.mem_singleton.mpr rfl)
    exact wpAny_pyNext_range_end (I.ok.hd hc) z (by have : n ≤ i := hg; omega) fun h' eb => ⟨rfl, I.turned (t' := s.toks) (fun b o hb e => eb b o hb e) f0 f1 f3 f4 f5⟩
  self := fun _ _ _ _ _ z h => wpAny_pyIter_rangeiter z h
/-- how many -/
def stepN (lo hi st : Int) : Nat := (Builtin.Range.rangeSize lo hi st).toNat
def rngS (lo st : Int) (n : Nat) : List D := (List.range n).map fun (k : Nat) => .int (lo + (k : Int) * st)
theorem steps_small {a b c : Int} (ha : below 1073741824 a = true) (hb : below 1073741824 b = true) (hc : below 1073741824 c = true) (h0 : 0 < c) : Builtin.Range.small a b c = true := by
  have h1 := below_iff.mp ha
  have h2 := below_iff.mp hb
  have h3 := below_iff.mp hc
  unfold Builtin.Range.small
  have hs : 0 ≤ Builtin.Range.rangeSize a b c ∧ Builtin.Range.rangeSize a b c ≤ 4294967296 := by
    unfold Builtin.Range.rangeSize
    rw [if_pos h0]
    split
    · have k1 : 0 ≤ (b - a - 1) / c := Int.ediv_nonneg (by omega) (by omega)
      have k2 : (b - a - 1) / c ≤ b - a - 1 := Int.ediv_le_self _ (by omega)
      omega
    · omega
  generalize Builtin.Range.rangeSize a b c = r at hs
  simp only [Builtin.Range.rangeFitsLong, Bool.and_eq_true, Bool.or_eq_true, decide_eq_true_eq, beq_iff_eq]
  rw [if_pos h0]
  simp only [Bool.and_eq_true, decide_eq_true_eq]
  omega
section
variable {X : Cx} {c : C} {e a b d tg : Expr} {es : List Expr} {ga gb g : G R} {pos : Pos}
theorem step_it {pins : List (Addr × Obj)} {σ : L2.St} {H : Hp} {s : Shared} {R : It → Hp → Prop} {E : Value → Shared → Prop} {lo hi st : Int} {t u v : Tok} {tk : Nat} (I : Inv X pins σ H s) (hsm : Builtin.Range.small lo hi st = true) (h0 : 0 < st)
    (q : R (Itst lo st (stepN lo hi st)) H) : wpAny (model X.prog X.w) X.A (pyIter (.ref s.heap.objs.size)) (PIE X pins σ tg R) E { s with heap := s.heap.push { cls := .type "range", data := .fields #[.int lo t, .int hi u, .int st v] }, toks := tk } := by
  refine wpAny_pyIter_range (IsRange.new ..) hsm ?_
  generalize hh : s.heap.push { cls := .type "range", data := .fields #[.int lo t, .int hi u, .int st v] } = h1
  have I1 : Inv X pins σ H { s with heap := h1, toks := tk } := I.kept fun b o e => by rw [← hh]; exact Heap.get?_push_of_some _ e
  refine ⟨h1.objs.size, [h1.objs.size], _, _, H, rfl, I1.kept (t' := tk) fun b o e => Heap.get?_push_of_some _ e, turn_steps _ lo st (stepN lo hi st), ?_, fun b hb => ?_, q⟩
  · have e1 : lo + ((0 : Nat) : Int) * st = lo := by simp
    have e2 : ((stepN lo hi st : Nat) : Int) - ((0 : Nat) : Int) = Builtin.Range.rangeSize lo hi st := by
      unfold stepN
      have : 0 ≤ Builtin.Range.rangeSize lo hi st := by
        unfold Builtin.Range.rangeSize
        rw [if_pos h0]
        split
        · have k1 : 0 ≤ (hi - lo - 1) / st := Int.ediv_nonneg (by omega) (by omega)
          omega
        · omega
      omega
    show IsRangeIter _ _ (lo + ((0 : Nat) : Int) * st) (((stepN lo hi st : Nat) : Int) - ((0 : Nat) : Int)) st
    rw [e1, e2]
    exact Heap.get?_push_size _ rfl
  · rw [List.mem_singleton] at hb
    subst hb
    exact I1.fpOk (Nat.le_refl _) (I1.hok.fresh (Nat.le_refl _))
def gRng3 (gs : G (List R)) : G (List D) := fun env => gs env >>= fun rs => match rs with
  | [.d (.int i), .d (.int j), .d (.int k)] => if below 1073741824 i && (below 1073741824 j && (below 1073741824 k && decide (0 < k))) then .ok (rngS i k (stepN i j k)) else .bad
  | _ => .bad
theorem walk_steps {J1 : Hp} {lo st : Int} {n : Nat} {Ut : Hp → Hp → Prop} : Walk c (Itst lo st n) (rngS lo st n) J1 Ut := by
  intro i J H hp u
  refine ⟨fun hl => (show n ≤ i by simpa [rngS] using hl), fun d hd => ?_⟩
  have hi : i < n := by
    have := (List.getElem?_eq_some_iff.mp hd).1
    simpa [rngS] using this
  have hd' : d = .int (lo + i * st) := by
    unfold rngS at hd
    rw [List.getElem?_map, List.getElem?_range hi] at hd
    exact (Option.some.inj hd).symm
  subst hd'
  exact ⟨hi, fun x H2 ⟨e, hx⟩ => by subst e hx; exact ⟨J, Ext.refl hp.sub, .int _⟩⟩
theorem pit_range3 {p : Pos} {gs : G (List R)} (ha : PAr X c [a, b, d] gs) (hm : X.mg "range" = none) (hg : Gl X "range" := by rfl) (hs : starEach [a, b, d] X.env = [(false, eval a X.env), (false, eval b X.env), (false, eval d X.env)] := by rfl) (hs2 : starEach [b, d] X.env = [(false, eval b X.env), (false, eval d X.env)] := by rfl) :
    PIt X c tg (.Call (.Name "range" p) [a, b, d] [] pos) (gRng3 gs) := by
  intro pins s σ H R I ⟨J, env, sr, w⟩
  refine Call_ (ld_blt I hg hm boot_range (PyProof.Rows.callWith_type1 (thn (ha pos pins s σ H (fun vs H1 => ∃ i j k J1, vs = [.int i, .int j, .int k] ∧ Ext J H J1 H1 ∧ below 1073741824 i = true ∧ below 1073741824 j = true ∧ below 1073741824 k = true ∧ 0 < k ∧ R (Itst i k (stepN i j k)) H1) I ⟨J, env, sr, wpM_mono (wpM_bind w) fun rs wr vs J1 H1 e1 r1 => ?_⟩) fun us s1 ⟨vs, H1, I1, r1, i, j, k, J1, e, e1, b1, b2, b3, b4, q⟩ => ?_) (by rw [hs, hs2]) (by rw [hs2]; rfl)))
  · split at wr
    · split at wr
      · rename_i i j k hb
        rw [Bool.and_eq_true, Bool.and_eq_true, Bool.and_eq_true] at hb
        obtain ⟨v1, us1, rfl, q1, v2, us2, rfl, q2, v3, us3, rfl, q3, q4⟩ := r1
        cases q1; cases q2; cases q3; cases q4
        exact ⟨i, j, k, J1, rfl, e1, hb.1, hb.2.1, hb.2.2.1, of_decide_eq_true hb.2.2.2, wr _ J1 H1 e1 walk_steps⟩
      · exact wr.elim
    · exact wr.elim
  · subst e
    cases r1 with
    | cons p1 r1 =>
      cases r1 with
      | cons p2 r1 =>
        cases r1 with
        | cons p3 r1 =>
          cases r1
          obtain ⟨t1, rfl⟩ := p1
          obtain ⟨t2, rfl⟩ := p2
          obtain ⟨t3, rfl⟩ := p3
          exact call_range_3 (by omega) (step_it I1 (steps_small b1 b2 b3 b4) b4 q) (Or.inl (PyProof.noPylong_small (by have := below_iff.mp b3; omega)))
end
end DL
set_option Elab.async false
set_option linter.all false
set_option maxRecDepth 100000
set_option maxHeartbeats 4000000
namespace DL
open PySem PySem.Spec PyProof.Rows L2
/-- a def that calls itself, without any turn left -/
theorem cal_bad {P : Program} {w : World} {K : PySem.W.Frag} {mg : Str → Option Value} {base : Heap} {x qual : Str} {st : Stmt} {f : Addr} {fd : FuncData} {ps : List Str} {k : Nat} {Fm : List S → M R} (F : Fun K x qual st f fd) (hm : mg x = some (.ref f))
    (hbi : ∀ (kV doc pm : Value) (an : Option Addr) (cdv ct : Value) (us : List Value), us.length = ps.length → bindArgs (PySem.W.fnOf x qual (defArgs st) (defBody st) (defScope st) .none kV doc pm an cdv ct) ⟨us, []⟩ = pure (ps.zip us))
    (hF : ∀ as, Fm as = .bad) : Cal P w K mg base k ps.length x Fm :=
  ⟨f, fd, ps, ⟨fun vs H Q E ⟨J, as, _, _, _, h⟩ => (by rw [hF as] at h; exact h.elim), fun A outer s H args us vs Q E _ _ _ _ ⟨J, as, _, _, _, h⟩ => (by rw [hF as] at h; exact h.elim)⟩, hm, F.kp, F.binds hbi⟩
end DL
set_option Elab.async false
set_option linter.all false
set_option maxRecDepth 100000
set_option maxHeartbeats 4000000
namespace DL
open PySem PySem.Spec PyProof.Rows L2
section
variable {X : Cx} {c : C} {e a b d tg : Expr} {es : List Expr} {ga gb g : G R} {pos : Pos}
/-! ### what is walked: any tuple or list -/
def iAny (K : PySem.W.Frag) (tl : TE) : TI := fun σ H R => tl σ H fun x H1 => ∃ a, x = .ref a ∧ (((∃ xs, SqL K H1 a xs) ∧ R (Itl K a) H1) ∨ ((∃ xs, SqT K H1 a xs) ∧ R (Itt K a) H1))
theorem pi_any {tl : TE} (hl : PE X e tl) : PI X tg e (iAny X.K tl) := fun pins s σ H R I h => thn (hl pins s σ H _ I h) fun v s1 ⟨x, H1, I1, r1, a, ex, q1⟩ => by
  subst ex
  cases r1
  have fp : ∀ b ∈ [s1.heap.objs.size], FpOk X pins H1 b := fun b hb => by
    rw [List.mem_singleton] at hb
    subst hb
    exact I1.fpOk (Nat.le_refl _) (I1.hok.fresh (Nat.le_refl _))
  rcases q1 with ⟨⟨xs, hq⟩, q⟩ | ⟨⟨xs, hq⟩, q⟩
  · obtain ⟨its, rv, p, hz⟩ := I1.list hq
    exact wpAny_pyIter_list p.isList ⟨s1.heap.objs.size, [s1.heap.objs.size], _, _, H1, rfl, I1.kept (t' := s1.toks) (fun b o e => Heap.get?_push_of_some _ e), turn_list a _, ⟨_, Heap.get?_push_size _ rfl, rfl, rfl⟩, fp, q⟩
  · obtain ⟨its, rv, p, hz⟩ := I1.tuple hq
    exact wpAny_pyIter_tuple (show s1.heap.IsTuple a its.toArray from p) ⟨s1.heap.objs.size, [s1.heap.objs.size], _, _, H1, rfl, I1.kept (t' := s1.toks) (fun b o e => Heap.get?_push_of_some _ e), turn_tuple a _, ⟨_, Heap.get?_push_size _ rfl, rfl, rfl⟩, fp, q⟩
theorem walk_tupQ {J1 : Hp} {a : Addr} {vs : List V} {ds : List D} {U : Hp → Hp → Prop} (hU : ∀ J H, U J H → Same J1 J) (h : SqT c.K J1 a vs) (hs : Reps c.K J1 ds vs) : Walk c (Itt c.K a) ds J1 U := by
  intro i J H hp u
  have h' := sameT hp.sub (sameT (hU J H u) h)
  refine ⟨fun hl => ⟨vs, h', by rw [← hs.length]; exact hl⟩, fun d hd => ?_⟩
  obtain ⟨v, k1, k2⟩ := hs.get hd
  refine ⟨⟨vs, v, h', k1⟩, fun x H2 ⟨e, hy⟩ => ?_⟩
  subst e
  have := hy vs h'
  rw [k1] at this
  cases this
  exact ⟨J, Ext.refl hp.sub, k2.mono (hU J _ u)⟩
/-- in a comprehension -/
def gItQ (g : G R) : G (List D) := fun env => g env >>= asQ
theorem pic_any (h : PD X c e g) (hK : X.K = c.K := by rfl) : PIc X c tg e (gItQ g) := piImp (pi_any h) fun σ H Q ⟨J, env, sr, w⟩ => by
  refine ⟨J, env, sr, wpM_mono (wpM_bind w) fun r wr v J1 H1 e1 r1 => ?_⟩
  rw [hK]
  have lst : ∀ {xs : List D}, asL r = .ok xs → (∀ It J1' H1', Ext J H J1' H1' → Walk c It xs J1' (fun J' H' => Same J1' J' ∧ Same H1' H') → Q It H1') → ∃ a, v = .ref a ∧ (((∃ xs, SqL c.K H1 a xs) ∧ Q (Itl c.K a) H1) ∨ ((∃ xs, SqT c.K H1 a xs) ∧ Q (Itt c.K a) H1)) := fun {xs} q wr => by
    obtain ⟨a, vs, rfl, h1, h2⟩ := RR.list (sr.hp.ext e1) r1 q
    refine ⟨a, rfl, .inl ⟨⟨_, h1⟩, wr _ J1 H1 e1 fun i J' H' hp u => ?_⟩⟩
    have h' := u.2.seq h1
    refine ⟨fun hl => ⟨vs, h', by rw [← h2.length]; exact hl⟩, fun d hd => ?_⟩
    obtain ⟨v, k1, k2⟩ := h2.get hd
    refine ⟨⟨vs, v, h', k1⟩, fun x H2 ⟨e, hy⟩ => ?_⟩
    subst e
    have := hy vs h'
    rw [k1] at this
    cases this
    exact ⟨J', Ext.refl hp.sub, k2.mono u.1⟩
  cases r with
  | d y =>
    cases y with
    | tup xs =>
      cases r1 with
      | tup h1 h2 => exact ⟨_, rfl, .inr ⟨⟨_, sameT e1.sub h1⟩, wr _ J1 H1 e1 (walk_tupQ (fun J H u => u.1) h1 h2)⟩⟩
    | lst xs => exact lst rfl wr
    | _ => exact wr.elim
  | l m xs => exact lst rfl wr
end
end DL
set_option Elab.async false
set_option linter.all false
set_option maxRecDepth 100000
set_option maxHeartbeats 4000000
/-! Sealed copies of the rules. -/
namespace DL
open PySem PySem.Spec PyProof.Rows L2
structure QD (X : Cx) (c : C) (x0 : Expr) (x1 : G R) : Prop where
  h : PD X c x0 x1
structure QB (X : Cx) (c : C) (x0 : Expr) (x1 : G Bool) : Prop where
  h : PB X c x0 x1
structure QAr (X : Cx) (c : C) (x0 : List Expr) (x1 : G (List R)) : Prop where
  h : PAr X c x0 x1
structure QAd (X : Cx) (c : C) (x0 : List Expr) (x1 : G (List D)) : Prop where
  h : PAd X c x0 x1
structure QD1 (X : Cx) (c : C) (x0 : Stmt) (x1 : G O) : Prop where
  h : PD1 X c x0 x1
structure QDs (X : Cx) (c : C) (x0 : List Stmt) (x1 : G O) : Prop where
  h : PDs X c x0 x1
structure QBw (X : Cx) (c : C) (x0 : Expr) (x1 : G Bool) : Prop where
  h : PBw X c x0 x1
structure QTg (X : Cx) (c : C) (x0 : Expr) (x1 : GT) : Prop where
  h : PTg X c x0 x1
structure QTgs (X : Cx) (c : C) (x0 : List Expr) (x1 : GTs) : Prop where
  h : PTgs X c x0 x1
structure QIt (X : Cx) (c : C) (x0 : Expr) (x1 : Expr) (x2 : G (List D)) : Prop where
  h : PIt X c x0 x1 x2
structure QIc (X : Cx) (c : C) (x0 : Expr) (x1 : Expr) (x2 : G (List D)) : Prop where
  h : PIc X c x0 x1 x2
structure QIfs (X : Cx) (c : C) (x0 : List Expr) (x1 : G Bool) : Prop where
  h : PIfs X c x0 x1
structure QOd (X : Cx) (c : C) (x0 : Option Expr) (x1 : GO) : Prop where
  h : POd X c x0 x1
section
variable {K : PySem.W.Frag} {J : Hp}
end
section
variable {X : Cx} {c : C} {e a b : Expr} {ga gb : G R} {pos : Pos}
theorem qpd_var (i : Nat) {x : Str} (hN : X.N[i]? = some x := by rfl) (hv : Vis X.env.scope x := by first | exact Or.inl rfl | exact Or.inr (Or.inl rfl) | exact Or.inr (Or.inr rfl)) (hd : (x == ("__debug__" : Str)) = false := by decide)
    (hcd : (x == ("__classdict__" : Str)) = false := by decide) : QD X c (.Name x pos) (gVar i) := ⟨pd_var i hN hv hd hcd⟩
theorem qpd_int {i : Int} {j : Nat} : QD X c (.Constant (.int i) j pos) (gC (.int i)) := ⟨pd_int ⟩
theorem qpd_bl {i : Bool} {j : Nat} : QD X c (.Constant (.bool i) j pos) (gC (.bl i)) := ⟨pd_bl ⟩
theorem qpd_non {j : Nat} : QD X c (.Constant .none j pos) (gC .non) := ⟨pd_non ⟩
theorem qpd_str {x : Str} {j : Nat} : QD X c (.Constant (.str x) j pos) (gC (.str x)) := ⟨pd_str ⟩
theorem qpd_sub (ha : QD X c a ga) (hb : QD X c b gb) : QD X c (.BinOp a .Sub b pos) (g2 fSub ga gb) := ⟨pd_sub ha.h hb.h⟩
theorem qpd_div (ha : QD X c a ga) (hb : QD X c b gb) : QD X c (.BinOp a .FloorDiv b pos) (g2 fDiv ga gb) := ⟨pd_div ha.h hb.h⟩
theorem qpd_mod (ha : QD X c a ga) (hb : QD X c b gb) : QD X c (.BinOp a .Mod b pos) (g2 fMod ga gb) := ⟨pd_mod ha.h hb.h⟩
theorem qpd_pow (ha : QD X c a ga) (hb : QD X c b gb) : QD X c (.BinOp a .Pow b pos) (g2 fPow ga gb) := ⟨pd_pow ha.h hb.h⟩
theorem qpd_le (ha : QD X c a ga) (hb : QD X c b gb) : QD X c (.Compare a [.LtE] [b] pos) (g2 (fI0 fun i j => .bl (decide (i ≤ j))) ga gb) := ⟨pd_le ha.h hb.h⟩
theorem qpa_nil'  : QAr X c [] gNil := ⟨pa_nil' ⟩
theorem qpa_cons' {es : List Expr} {g : G R} {gs : G (List R)} (h : QD X c e g) (hs : QAr X c es gs) (hst : starEach (e :: es) X.env = (false, eval e X.env) :: starEach es X.env := by rfl) : QAr X c (e :: es) (gCons g gs) := ⟨pa_cons' h.h hs.h hst⟩
end
section
variable {X : Cx} {c : C} {e a b : Expr} {es : List Expr} {ga gb g : G R} {pos : Pos}
theorem qpad_nil  : QAd X c [] gDNil := ⟨pad_nil ⟩
theorem qpad_cons {gs : G (List D)} (h : QD X c e g) (hs : QAd X c es gs) (hst : starEach (e :: es) X.env = (false, eval e X.env) :: starEach es X.env := by rfl) : QAd X c (e :: es) (gDCons g gs) := ⟨pad_cons h.h hs.h hst⟩
theorem qpd_tup {k} {gs : G (List D)} (h : QAd X c es gs) : QD X c (.Tuple es k pos) (gTup gs) := ⟨pd_tup h.h⟩
theorem qpd_lst {gs : G (List D)} (h : QAd X c es gs) : QD X c (.List es pos) (gLst gs) := ⟨pd_lst h.h⟩
theorem qpd_len {p : Pos} {gs : G (List R)} (ha : QAr X c (e :: es) gs) (hm : X.mg "len" = none) (hK : X.K = c.K := by rfl) (hg : Gl X "len" := by rfl)
    (he : starEach (e :: es) X.env = (false, eval e X.env) :: starEach es X.env := by rfl) (hpl : (backTo pos (starEach es X.env)).any (·.1) = false := by rfl) : QD X c (.Call (.Name "len" p) (e :: es) [] pos) (gN fLen gs) := ⟨pd_len ha.h hm hK hg he hpl⟩
theorem qpd_tuple {p : Pos} {gs : G (List R)} (ha : QAr X c (e :: es) gs) (hm : X.mg "tuple" = none) (hK : X.K = c.K := by rfl) (hg : Gl X "tuple" := by rfl)
    (he : starEach (e :: es) X.env = (false, eval e X.env) :: starEach es X.env := by rfl) (hpl : (backTo pos (starEach es X.env)).any (·.1) = false := by rfl) : QD X c (.Call (.Name "tuple" p) (e :: es) [] pos) (gN fTuple gs) := ⟨pd_tuple ha.h hm hK hg he hpl⟩
theorem qpd_list {p : Pos} {gs : G (List R)} (ha : QAr X c (e :: es) gs) (hm : X.mg "list" = none) (hK : X.K = c.K := by rfl) (hg : Gl X "list" := by rfl)
    (he : starEach (e :: es) X.env = (false, eval e X.env) :: starEach es X.env := by rfl) (hpl : (backTo pos (starEach es X.env)).any (·.1) = false := by rfl) : QD X c (.Call (.Name "list" p) (e :: es) [] pos) (gN fList gs) := ⟨pd_list ha.h hm hK hg he hpl⟩
theorem qpb_val (h : QD X c e g) (he : ∀ whole, isTrue e X.env whole = (do let v ← whole; standAt e.pos; holding [v] (truthy v)) := by intro _; rfl) : QB X c e (gTr g) := ⟨pb_val h.h he⟩
theorem qpb_cmp {op : CmpOp} {r : R2} {f : R → R → M R} (ho : OpR X (compareOp op) r) (hf : BD c r f) (ha : QD X c a ga) (hb : QD X c b gb) (hm : behindInMarks op b = false := by first | exact nomark _ | rfl) : QB X c (.Compare a [op] [b] pos) (gTr (g2 f ga gb)) := ⟨pb_cmp ho hf ha.h hb.h hm⟩
variable {t u : G Bool} {rest : List Expr}
theorem qPBw_pb (h : QBw X c e t) : QB X c e t := ⟨PBw.pb h.h⟩
theorem qpb_and1 (h : QB X c a t) : QBw X c (.BoolOp .And [a] pos) t := ⟨pb_and1 h.h⟩
theorem qpb_or1 (h : QB X c a t) : QBw X c (.BoolOp .Or [a] pos) t := ⟨pb_or1 h.h⟩
theorem qpb_and (h : QB X c a t) (h' : QBw X c (.BoolOp .And (b :: rest) pos) u) : QBw X c (.BoolOp .And (a :: b :: rest) pos) (gAnd t u) := ⟨pb_and h.h h'.h⟩
theorem qpb_or (h : QB X c a t) (h' : QBw X c (.BoolOp .Or (b :: rest) pos) u) : QBw X c (.BoolOp .Or (a :: b :: rest) pos) (gOr t u) := ⟨pb_or h.h h'.h⟩
theorem qpb_not (h : QB X c a t) : QB X c (.UnaryOp .Not a pos) (gNot t) := ⟨pb_not h.h⟩
theorem qpd_and1 {op} (h : QD X c a ga) : QD X c (.BoolOp op [a] pos) ga := ⟨pd_and1 h.h⟩
theorem qpd_and (h : QD X c a ga) (h' : QD X c (.BoolOp .And (b :: rest) pos) gb) : QD X c (.BoolOp .And (a :: b :: rest) pos) (gAndV ga gb) := ⟨pd_and h.h h'.h⟩
theorem qpd_not (h : QD X c a ga) : QD X c (.UnaryOp .Not a pos) (gNotV ga) := ⟨pd_not h.h⟩
end
section
variable {X : Cx} {c : C} {e a b tg : Expr} {es : List Expr} {ga gb g : G R} {pos : Pos} {st : Stmt} {rest : List Stmt} {t u : G O} {tb : G Bool}
theorem qpds_nil  : QDs X c [] gNx := ⟨pds_nil ⟩
theorem qpds_cons (h : QD1 X c st t) (h' : QDs X c rest u) : QDs X c (st :: rest) (gSeq t u) := ⟨pds_cons h.h h'.h⟩
theorem qpds_one (h : QD1 X c st t) : QDs X c [st] t := ⟨pds_one h.h⟩
theorem qpd1_ret (h : QD X c e g) : QD1 X c (.Return (some e) pos) (gRet g) := ⟨pd1_ret h.h⟩
theorem qpd1_if {x : Expr} {as bs : List Stmt} (hx : QB X c x tb) (h : QDs X c as t) (h' : QDs X c bs u) : QD1 X c (.If x as bs pos) (gIfS tb t u) := ⟨pd1_if hx.h h.h h'.h⟩
theorem qpd1_set (i : Nat) {x : Str} {pos' : Pos} (hN : X.N.Nodup) (h : QD X c e g) (hi : X.N[i]? = some x := by rfl) (hx : Loc X.env.scope x := by first | exact Or.inl rfl | exact Or.inr rfl) (hs : swapsWith e (some (.Name x pos')) pos.line X.env = pure false := by rfl)
    (hf : X.fn x = true ∨ X.env.scope.names.lookup x = some .local := by first | exact .inl rfl | exact .inr rfl) : QD1 X c (.Assign [.Name x pos'] e pos) (gSet i g) := ⟨pd1_set i hN h.h hi hx hs hf⟩
theorem qptg_name (i : Nat) {x : Str} (hN : X.N.Nodup) (hi : X.N[i]? = some x := by rfl) (hx : Loc X.env.scope x := by first | exact Or.inl rfl | exact Or.inr rfl) (hf : X.fn x = true ∨ X.env.scope.names.lookup x = some .local := by first | exact .inl rfl | exact .inr rfl) : QTg X c (.Name x pos) (tgName i) := ⟨ptg_name i hN hi hx hf⟩
theorem qptgs_nil  : QTgs X c [] tgNil := ⟨ptgs_nil ⟩
theorem qptgs_cons {t : GT} {u : GTs} (h : QTg X c e t) (h' : QTgs X c es u) (hs : (assignEach (e :: es) X.env).map (·.2) = assign e X.env :: (assignEach es X.env).map (·.2) := by rfl) : QTgs X c (e :: es) (tgCons t u) := ⟨ptgs_cons h.h h'.h hs⟩
theorem qptg_tup {k : Nat} {u : GTs} {n : Nat} (h : QTgs X c es u) (hc : X.calm = true := by rfl) (hK : X.K = c.K := by rfl) (hn : (assignEach es X.env).length = n := by rfl) (hst : (assignEach es X.env).findIdx? (·.1) = none := by rfl) : QTg X c (.Tuple es k pos) (tgTup n u) := ⟨ptg_tup h.h hc hK hn hst⟩
theorem qpd1_for {iter : Expr} {body : List Stmt} {gi : G (List D)} {t : GT} (hi : QIt X c tg iter gi) (ht : QTg X c tg t) (hb : QDs X c body u) (hp : PassesOwn (model X.prog X.w) X.A X.env X.xe := by exact PassesOwn.never) (hc : X.calm = true := by rfl)
    (hs : ∀ x, foldedSetIterable iter X.env x = pure x := by intro _; rfl) : QD1 X c (.For tg iter body [] pos) (gFor gi t u) := ⟨pd1_for hi.h ht.h hb.h hp hc hs⟩
theorem qpit_range1 {p : Pos} {gs : G (List R)} (ha : QAr X c [a] gs) (hm : X.mg "range" = none) (hg : Gl X "range" := by rfl) (hs : starEach [a] X.env = [(false, eval a X.env)] := by rfl) : QIt X c tg (.Call (.Name "range" p) [a] [] pos) (gRng1 gs) := ⟨pit_range1 ha.h hm hg hs⟩
theorem qPIt_pic {gi : G (List D)} (h : QIt X c tg e gi) : QIc X c tg e gi := ⟨PIt.pic h.h⟩
end
section
variable {X : Cx} {c : C} {e a b tg : Expr} {es : List Expr} {ga gb g : G R} {pos : Pos}
theorem qpd1_append (i : Nat) {x : Str} {p1 p2 pos' : Pos} (h : QD X c e g) (hN : X.N[i]? = some x := by rfl) (hv : Vis X.env.scope x := by first | exact Or.inl rfl | exact Or.inr (Or.inl rfl) | exact Or.inr (Or.inr rfl)) (hd : (x == ("__debug__" : Str)) = false := by decide)
    (hcd : (x == ("__classdict__" : Str)) = false := by decide)
    (hbase : attributeBase (.Name x p1) "append" X.env (eval (.Name x p1) X.env) = eval (.Name x p1) X.env := by rfl)
    (hfew : ((backTo pos' (starEach [e] X.env)).all (fun x => !x.1) && (backToKw pos' (keywordEach [] X.env)).all (fun x => x.1.isSome)
      && decide (([e] : List Expr).length + ([] : List Keyword).length + (if ([] : List Keyword).isEmpty then 0 else 1) < 30)) = true := by rfl)
    (hline : (p2.endLine == pos'.line) = true := by rfl) (hst : starEach [e] X.env = (false, eval e X.env) :: starEach [] X.env := by rfl) (hplain : (backTo pos' (starEach [] X.env)).any (·.1) = false := by rfl)
    (hs : swapsWith (.Call (.Attribute (.Name x p1) "append" p2) [e] [] pos') none pos.line X.env = pure false := by rfl) : QD1 X c (.Expr (.Call (.Attribute (.Name x p1) "append" p2) [e] [] pos') pos) (gApp i g) := ⟨pd1_append i h.h hN hv hd hcd hbase hfew hline hst hplain hs⟩
end
section
variable {X : Cx}
variable {prog : Program} {w : World} {A : Around} {R : Result → Shared → Prop} {s : Shared}
end
section
variable {X : Cx} {c : C}
theorem qpifs_nil  : QIfs X c [] gTt := ⟨pifs_nil ⟩
end
section
variable {K : PySem.W.Frag} {J : Hp} {s : Shared}
end
section
variable {K : PySem.W.Frag} {J : Hp} {s : Shared}
variable {X : Cx} {c : C} {e a b tg : Expr} {es : List Expr} {ga gb g : G R} {pos : Pos}
theorem qpd_eq (hu : X.A.units + 64 < cLine) (ha : QD X c a ga) (hb : QD X c b gb) (hK : X.K = c.K := by rfl) : QD X c (.Compare a [.Eq] [b] pos) (g2 (fEq false) ga gb) := ⟨pd_eq hu ha.h hb.h hK⟩
theorem qpd_ne (hu : X.A.units + 64 < cLine) (ha : QD X c a ga) (hb : QD X c b gb) (hK : X.K = c.K := by rfl) : QD X c (.Compare a [.NotEq] [b] pos) (g2 (fEq true) ga gb) := ⟨pd_ne hu ha.h hb.h hK⟩
theorem qpb_eq (hu : X.A.units + 64 < cLine) (ha : QD X c a ga) (hb : QD X c b gb) (hK : X.K = c.K := by rfl) : QB X c (.Compare a [.Eq] [b] pos) (gTr (g2 (fEq false) ga gb)) := ⟨pb_eq hu ha.h hb.h hK⟩
theorem qpb_ne (hu : X.A.units + 64 < cLine) (ha : QD X c a ga) (hb : QD X c b gb) (hK : X.K = c.K := by rfl) : QB X c (.Compare a [.NotEq] [b] pos) (gTr (g2 (fEq true) ga gb)) := ⟨pb_ne hu ha.h hb.h hK⟩
theorem qpd_notin (hu : X.A.units + 64 < cLine) (ha : QD X c a ga) (hb : QD X c b gb) (hK : X.K = c.K := by rfl) (hm : behindInMarks .NotIn b = false := by rfl) : QD X c (.Compare a [.NotIn] [b] pos) (g2 (fIn true) ga gb) := ⟨pd_notin hu ha.h hb.h hK hm⟩
theorem qpb_in (hu : X.A.units + 64 < cLine) (ha : QD X c a ga) (hb : QD X c b gb) (hK : X.K = c.K := by rfl) (hm : behindInMarks .In b = false := by rfl) : QB X c (.Compare a [.In] [b] pos) (gTr (g2 (fIn false) ga gb)) := ⟨pb_in hu ha.h hb.h hK hm⟩
end
section
variable {X : Cx} {c : C} {e a b tg : Expr} {es : List Expr} {ga gb g : G R} {pos : Pos}
theorem qpod_none  : QOd X c none gNo := ⟨pod_none ⟩
theorem qpod_some (h : QD X c e g) : QOd X c (some e) (gPt g) := ⟨pod_some h.h⟩
theorem qpd_sorted {p : Pos} {gs : G (List R)} (ha : QAr X c (e :: es) gs) (hm : X.mg "sorted" = none) (hK : X.K = c.K := by rfl) (hg : Gl X "sorted" := by rfl)
    (he : starEach (e :: es) X.env = (false, eval e X.env) :: starEach es X.env := by rfl) (hpl : (backTo pos (starEach es X.env)).any (·.1) = false := by rfl) : QD X c (.Call (.Name "sorted" p) (e :: es) [] pos) (gN fSorted gs) := ⟨pd_sorted ha.h hm hK hg he hpl⟩
end
section
variable {X : Cx} {c : C} {e a b tg : Expr} {es : List Expr} {ga gb g : G R} {pos : Pos}
theorem qpd_plus (ha : QD X c a ga) (hb : QD X c b gb) : QD X c (.BinOp a .Add b pos) (g2 fPlus ga gb) := ⟨pd_plus ha.h hb.h⟩
theorem qpd_times (ha : QD X c a ga) (hb : QD X c b gb) : QD X c (.BinOp a .Mult b pos) (g2 fTimes ga gb) := ⟨pd_times ha.h hb.h⟩
theorem qpd_index (ha : QD X c a ga) (hb : QD X c b gb) (hK : X.K = c.K := by rfl) (hs : PlainIx b := by exact fun _ _ => rfl) : QD X c (.Subscript a b pos) (g2 fIx ga gb) := ⟨pd_index ha.h hb.h hK hs⟩
theorem qpd_cal {k k' n : Nat} {F : List S → M R} {x : Str} {p : Pos} {gs : G (List R)} (G : Cal X.prog X.w X.K X.mg X.base k n x F) (hr : Room k' X.A) (ha : QAr X c (e :: es) gs) (hk : k ≤ k' := by decide) (hT : c.K = X.K := by rfl) (hg : Gl X x := by rfl) (hdb : (x == ("__debug__" : Str)) = false := by decide)
    (he : starEach (e :: es) X.env = (false, eval e X.env) :: starEach es X.env := by rfl) (hpl : (backTo pos (starEach es X.env)).any (·.1) = false := by rfl) : QD X c (.Call (.Name x p) (e :: es) [] pos) (gN (gCall n F) gs) := ⟨pd_cal G hr ha.h hk hT hg hdb he hpl⟩
theorem qpd1_tup {t : GT} (h : QD X c e g) (ht : QTg X c tg t) (hs : swapsWithSole [tg] e pos.line X.env = pure false := by rfl) (hw : swappedStores [tg] e X.env = pure none := by rfl)
    (h1 : (assignEach [tg] X.env).map (·.2) = [assign tg X.env] := by rfl) : QD1 X c (.Assign [tg] e pos) (gAsg t g) := ⟨pd1_tup h.h ht.h hs hw h1⟩
end
section
variable {X : Cx} {c : C} {e a b tg : Expr} {es : List Expr} {ga gb g : G R} {pos : Pos}
theorem qpd_isinst {T : String} {Ts : Str} {p p2 : Pos} (kit : ∀ (K : PySem.W.Frag) (t : String), t ∈ ["NoneType", "bool", "int", "str", "tuple", "list", "dict"] → PySem.W.kitOne K (.type t) (.type T) = some (subT t T)) (hT : bootBuiltins Ts = some (.type T)) (mT : X.mg Ts = none)
    (h : QD X c a g) (hm : X.mg "isinstance" = none) (hK : X.K = c.K := by rfl) (hg : Gl X "isinstance" := by rfl) (hgT : Gl X Ts := by rfl) (hn : Ts ≠ "__name__" := by decide) (hdT : (Ts == ("__debug__" : Str)) = false := by decide)
    (he : starEach [a, .Name Ts p2] X.env = (false, eval a X.env) :: starEach [.Name Ts p2] X.env := by rfl) (he2 : starEach [.Name Ts p2] X.env = (false, eval (.Name Ts p2) X.env) :: starEach [] X.env := by rfl)
    (hpl : (backTo pos (starEach [.Name Ts p2] X.env)).any (·.1) = false := by rfl) : QD X c (.Call (.Name "isinstance" p) [a, .Name Ts p2] [] pos) (gIs T g) := ⟨pd_isinst kit hT mT h.h hm hK hg hgT hn hdT he he2 hpl⟩
theorem qpd_all {p : Pos} {gs : G (List R)} (ha : QAr X c (e :: es) gs) (hm : X.mg "all" = none) (hK : X.K = c.K := by rfl) (hc : X.calm = true := by rfl) (hg : Gl X "all" := by rfl)
    (he : starEach (e :: es) X.env = (false, eval e X.env) :: starEach es X.env := by rfl) (hpl : (backTo pos (starEach es X.env)).any (·.1) = false := by rfl) : QD X c (.Call (.Name "all" p) (e :: es) [] pos) (gN fAll gs) := ⟨pd_all ha.h hm hK hc hg he hpl⟩
theorem qpd_inS (ha : QD X c a ga) (hb : QD X c b gb) (hm : behindInMarks .In b = false := by rfl) : QD X c (.Compare a [.In] [b] pos) (g2 (fInS false) ga gb) := ⟨pd_inS ha.h hb.h hm⟩
theorem qpd_ch {op op' : CmpOp} {p q : Int → Int → Bool} {x : Expr} {gc : G R} (ho : OpR X (compareOp op) (rI0 fun i j => .bl (p i j))) (ho' : OpR X (compareOp op') (rI0 fun i j => .bl (q i j))) (ha : QD X c a ga) (hb : QD X c b gb) (hc : QD X c x gc)
    (hm : lastMarks [op, op'] [b, x] = false := by with_unfolding_all rfl) : QD X c (.Compare a [op, op'] [b, x] pos) (gCh p q ga gb gc) := ⟨pd_ch ho ho' ha.h hb.h hc.h hm⟩
theorem qpd_isB (ha : QD X c a ga) (hb : QD X c b gb) : QD X c (.Compare a [.Is] [b] pos) (g2 fIsB ga gb) := ⟨pd_isB ha.h hb.h⟩
theorem qpd_max {p : Pos} {gs : G (List R)} (ha : QAr X c (e :: es) gs) (hm : X.mg "max" = none) (hc : X.calm = true := by rfl) (hg : Gl X "max" := by rfl)
    (he : starEach (e :: es) X.env = (false, eval e X.env) :: starEach es X.env := by rfl) (hpl : (backTo pos (starEach es X.env)).any (·.1) = false := by rfl) : QD X c (.Call (.Name "max" p) (e :: es) [] pos) (gN fMax gs) := ⟨pd_max ha.h hm hc hg he hpl⟩
theorem qpd_min {p : Pos} {gs : G (List R)} (ha : QAr X c (e :: es) gs) (hm : X.mg "min" = none) (hc : X.calm = true := by rfl) (hg : Gl X "min" := by rfl)
    (he : starEach (e :: es) X.env = (false, eval e X.env) :: starEach es X.env := by rfl) (hpl : (backTo pos (starEach es X.env)).any (·.1) = false := by rfl) : QD X c (.Call (.Name "min" p) (e :: es) [] pos) (gN fMin gs) := ⟨pd_min ha.h hm hc hg he hpl⟩
end
section
variable {X : Cx} {c : C} {e a b tg : Expr} {es : List Expr} {ga gb g : G R} {pos : Pos}
theorem qpd_dict0  : QD X c (.Dict [] [] pos) (gC .emp) := ⟨pd_dict0 ⟩
theorem qpd_add4 (ha : QD X c a ga) (hb : QD X c b gb) (hK : X.K = c.K := by rfl) : QD X c (.BinOp a .Add b pos) (g2 fAdd4 ga gb) := ⟨pd_add4 ha.h hb.h hK⟩
end
section
variable {X : Cx} {c : C} {e a b tg : Expr} {es : List Expr} {ga gb g : G R} {pos : Pos}
theorem qpit_str (h : QD X c e g) : QIt X c tg e (gItS g) := ⟨pit_str h.h⟩
theorem qpd_sl2 {lo hi : Option Expr} {gl gh : GO} {p2 : Pos} (h : QD X c e g) (hl : QOd X c lo gl) (hh : QOd X c hi gh) (hK : X.K = c.K := by rfl) : QD X c (.Subscript e (.Slice lo hi none p2) pos) (gSl fSl2 g gl gh) := ⟨pd_sl2 h.h hl.h hh.h hK⟩
end
section
variable {prog : Program} {w : World} {A : Around} {E : Value → Shared → Prop} {s : Shared}
end
section
variable {X : Cx} {pins : List (Addr × Obj)} {σ : L2.St} {H : Hp} {s : Shared}
end
section
variable {X : Cx} {c : C} {e a b : Expr} {es : List Expr} {ga gb g : G R} {pos : Pos} {elts : List Expr} {kk : Nat} {tp : Pos}
end
section
variable {X : Cx} {c : C} {e a b tg : Expr} {es : List Expr} {ga gb g : G R} {pos : Pos}
theorem qpd_globD {d : D} {x : Str} (h : GlobD X.K X.mg x d) (hK : X.K = c.K := by rfl) (hg : Gl X x := by rfl) (hd : (x == ("__debug__" : Str)) = false := by decide) : QD X c (.Name x pos) (gC d) := ⟨pd_globD h hK hg hd⟩
end
section
variable {X : Cx} {c : C} {e a b tg : Expr} {es : List Expr} {ga gb g : G R} {pos : Pos} {st : Stmt} {t u : G O} {tb : G Bool}
theorem qpd_neg (h : QD X c a g) : QD X c (.UnaryOp .USub a pos) (gNeg g) := ⟨pd_neg h.h⟩
theorem qpb_tru (h : QD X c e g) (hK : X.K = c.K := by rfl) (he : ∀ whole, isTrue e X.env whole = (do let v ← whole; standAt e.pos; holding [v] (truthy v)) := by intro _; rfl) : QB X c e (gTru g) := ⟨pb_tru h.h hK he⟩
theorem qpd1_while (n : Nat) {body : List Stmt} (ht : QB X c e tb) (hb : QDs X c body u) (hp : PassesOwn (model X.prog X.w) X.A X.env X.xe := by exact PassesOwn.never) : QD1 X c (.While e body [] pos) (gWhile n tb u) := ⟨pd1_while n ht.h hb.h hp⟩
theorem qpd1_pop (i j : Nat) {x y : Str} {p1 p2 pos' pos'' : Pos} (nd : X.N.Nodup) (hi : X.N[i]? = some x := by rfl) (hx : Loc X.env.scope x := by first | exact Or.inl rfl | exact Or.inr rfl) (hj : X.N[j]? = some y := by rfl)
    (hv : Vis X.env.scope y := by first | exact Or.inl rfl | exact Or.inr (Or.inl rfl) | exact Or.inr (Or.inr rfl)) (hd : (y == ("__debug__" : Str)) = false := by decide) (hcd : (y == ("__classdict__" : Str)) = false := by decide)
    (hbase : attributeBase (.Name y p1) "pop" X.env (eval (.Name y p1) X.env) = eval (.Name y p1) X.env := by rfl) (hline : (p2.endLine == pos'.line) = true := by rfl)
    (hs : swapsWith (.Call (.Attribute (.Name y p1) "pop" p2) [] [] pos') (some (.Name x pos'')) pos.line X.env = pure false := by rfl)
    (hf : X.fn x = true ∨ X.env.scope.names.lookup x = some .local := by first | exact .inl rfl | exact .inr rfl) : QD1 X c (.Assign [.Name x pos''] (.Call (.Attribute (.Name y p1) "pop" p2) [] [] pos') pos) (gPop i j) := ⟨pd1_pop i j nd hi hx hj hv hd hcd hbase hline hs hf⟩
end
section
variable {X : Cx} {c : C} {e a b tg : Expr} {es : List Expr} {ga gb g : G R} {pos : Pos} {st : Stmt} {t u : G O} {tb : G Bool}
end
section
variable {X : Cx} {c : C} {e a b tg : Expr} {es : List Expr} {ga gb g : G R} {pos : Pos}
theorem qpd1_extend (i : Nat) {x : Str} {p1 p2 pos' : Pos} (h : QD X c e g) (hN : X.N[i]? = some x := by rfl) (hv : Vis X.env.scope x := by first | exact Or.inl rfl | exact Or.inr (Or.inl rfl) | exact Or.inr (Or.inr rfl)) (hd : (x == ("__debug__" : Str)) = false := by decide)
    (hcd : (x == ("__classdict__" : Str)) = false := by decide)
    (hbase : attributeBase (.Name x p1) "extend" X.env (eval (.Name x p1) X.env) = eval (.Name x p1) X.env := by rfl)
    (hfew : ((backTo pos' (starEach [e] X.env)).all (fun x => !x.1) && (backToKw pos' (keywordEach [] X.env)).all (fun x => x.1.isSome)
      && decide (([e] : List Expr).length + ([] : List Keyword).length + (if ([] : List Keyword).isEmpty then 0 else 1) < 30)) = true := by rfl)
    (hline : (p2.endLine == pos'.line) = true := by rfl) (hst : starEach [e] X.env = (false, eval e X.env) :: starEach [] X.env := by rfl) (hplain : (backTo pos' (starEach [] X.env)).any (·.1) = false := by rfl)
    (hs : swapsWith (.Call (.Attribute (.Name x p1) "extend" p2) [e] [] pos') none pos.line X.env = pure false := by rfl) (hK : X.K = c.K := by rfl) : QD1 X c (.Expr (.Call (.Attribute (.Name x p1) "extend" p2) [e] [] pos') pos) (gExt i g) := ⟨pd1_extend i h.h hN hv hd hcd hbase hfew hline hst hplain hs hK⟩
end
section
variable {X : Cx} {c : C} {e a b tg : Expr} {es : List Expr} {ga gb g : G R} {pos : Pos}
theorem qpb_isnot (ha : QD X c a ga) (hb : QD X c b gb) : QB X c (.Compare a [.IsNot] [b] pos) (gTr (g2 (fIs true) ga gb)) := ⟨pb_isnot ha.h hb.h⟩
end
section
variable {X : Cx} {c : C} {e a b tg i : Expr} {es : List Expr} {ga gb g : G R} {pos : Pos}
theorem qpd_cget {x : Str} {kvs : List (Str × D)} {p : Pos} (h : CDict X.K X.w X.mg x kvs) (hi : QD X c i g) (hK : X.K = c.K := by rfl) (hg : Gl X x := by rfl) (hd : (x == ("__debug__" : Str)) = false := by decide) (hs : PlainIx i := by exact fun _ _ => rfl) : QD X c (.Subscript (.Name x p) i pos) (gCGet kvs g) := ⟨pd_cget h hi.h hK hg hd hs⟩
theorem qpb_cin {x : Str} {kvs : List (Str × D)} {p : Pos} (h : CDict X.K X.w X.mg x kvs) (ha : QD X c a g) (hg : Gl X x := by rfl) (hd : (x == ("__debug__" : Str)) = false := by decide) (hm : behindInMarks .In (.Name x p) = false := by rfl) : QB X c (.Compare a [.In] [.Name x p] pos) (gTr (gCIn false kvs g)) := ⟨pb_cin h ha.h hg hd hm⟩
theorem qpb_cnotin {x : Str} {kvs : List (Str × D)} {p : Pos} (h : CDict X.K X.w X.mg x kvs) (ha : QD X c a g) (hg : Gl X x := by rfl) (hd : (x == ("__debug__" : Str)) = false := by decide) (hm : behindInMarks .NotIn (.Name x p) = false := by rfl) : QB X c (.Compare a [.NotIn] [.Name x p] pos) (gTr (gCIn true kvs g)) := ⟨pb_cnotin h ha.h hg hd hm⟩
end
section
end
section
variable {prog : Program} {w : World} {A : Around} {R : Result → Shared → Prop} {I : Addr} {fp wr : List Addr} {St : Nat → Heap → Prop} {us : Array Value} {ns : List Int} {S : Addr} {dv : Value}
end
section
variable {prog : Program} {w : World} {A : Around} {E : Value → Shared → Prop} {s : Shared} {l : Addr} {us : Array Value} {ns : List Int}
variable {X : Cx} {c : C} {e a b tg i : Expr} {es : List Expr} {ga gb g : G R} {pos : Pos}
theorem qpd_maxD {d : Int} {j : Nat} {p kp vp : Pos} (ha : QD X c e g) (hm : X.mg "max" = none) (hK : X.K = c.K := by rfl) (hc : X.calm = true := by rfl) (hg : Gl X "max" := by rfl)
    (he : backTo pos (starEach [e] X.env) = (false, eval e X.env) :: backTo pos (starEach [] X.env) := by rfl) (hst : starEach [e] X.env = (false, eval e X.env) :: starEach [] X.env := by rfl)
    (hplain : (backTo pos (starEach [e] X.env)).any (·.1) = false := by rfl) : QD X c (.Call (.Name "max" p) [e] [⟨some "default", .Constant (.int d) j vp, kp⟩] pos) (gMaxD d g) := ⟨pd_maxD ha.h hm hK hc hg he hst hplain⟩
end
section
variable {X : Cx} {c : C} {e a b d tg : Expr} {es : List Expr} {ga gb g : G R} {pos : Pos}
theorem qpit_range3 {p : Pos} {gs : G (List R)} (ha : QAr X c [a, b, d] gs) (hm : X.mg "range" = none) (hg : Gl X "range" := by rfl) (hs : starEach [a, b, d] X.env = [(false, eval a X.env), (false, eval b X.env), (false, eval d X.env)] := by rfl) (hs2 : starEach [b, d] X.env = [(false, eval b X.env), (false, eval d X.env)] := by rfl) : QIt X c tg (.Call (.Name "range" p) [a, b, d] [] pos) (gRng3 gs) := ⟨pit_range3 ha.h hm hg hs hs2⟩
end
section
end
section
variable {X : Cx} {c : C} {e a b d tg : Expr} {es : List Expr} {ga gb g : G R} {pos : Pos}
theorem qpic_any (h : QD X c e g) (hK : X.K = c.K := by rfl) : QIc X c tg e (gItQ g) := ⟨pic_any h.h hK⟩
end
section
variable {X : Cx} {c : C}
theorem qpd_comp (own : List Str) (cap : List Nat) {elt target iter : Expr} {ifs : List Expr} {scope : Scope} {pos : Pos} {gi : G (List D)} {gt : GT} {gts : G Bool} {ge : G R} (hi : QIc X c target iter gi)
    (hbody : ∀ (cl : List (Str × Addr)) (C : Addr) (s : Shared) (H : Hp) (fp : List Addr), QTg (cxC X own cap scope cl C s H fp) c target gt ∧ QIfs (cxC X own cap scope cl C s H fp) c ifs gts ∧ QD (cxC X own cap scope cl C s H fp) c elt ge)
    (hk : scope.kind = .function := by rfl) (hcell : (scope.names.all fun y => !(y.2 == .cell)) = true := by rfl) (hnames : (scope.names.all fun x => !(x.2 == .local) || (scope.names.lookup x.1 == some .local)) = true := by rfl)
    (hcl : (clsOf X.env.cells scope.names []).isSome = true := by rfl) (hcap : capOk X cap = true := by rfl) (hloc : capLoc X cap scope = true := by rfl) (hnd : nodN cap = true := by rfl) (hcalm : X.calm = true := by rfl)
    (hs : ∀ x, foldedSetIterable iter X.env x = pure x := by intro _; rfl) : QD X c (.ListComp elt [⟨target, iter, ifs, 0⟩] scope pos) (gComp own.length cap gi gt gts ge) :=
  ⟨pd_comp own cap hi.h (fun cl C s H fp => let ⟨a, b, d⟩ := hbody cl C s H fp; ⟨a.h, b.h, d.h⟩) hk hcell hnames hcl hcap hloc hnd hcalm hs⟩
theorem qcal_of {P : Program} {w : World} {K : PySem.W.Frag} {mg : Str → Option Value} {base : Heap} {x qual : Str} {st : Stmt} {f : Addr} {fd : FuncData} {N ps : List Str} {k : Nat} {Fm : List S → M R} (F : Fun K x qual st f fd) (hm : mg x = some (.ref f)) (Sc : FnScope N ps (defScope st))
    (hbi : ∀ (kV doc pm : Value) (an : Option Addr) (cdv ct : Value) (us : List Value), us.length = ps.length → bindArgs (PySem.W.fnOf x qual (defArgs st) (defBody st) (defScope st) .none kV doc pm an cdv ct) ⟨us, []⟩ = pure (ps.zip us)) {gB : G O}
    (hb : ∀ (cdv : Value) (A : Around) (outer : List Env) (s : Shared) (H : Hp) (E : XK) (J : Hp) (T : Exc → Prop), Room k (A.deeper (envOfC qual (defScope st) s.heap.objs.size f cdv)) →
      QDs (cxD P w K mg base N qual (defScope st) f cdv A outer s H E) ⟨K, H, J, T⟩ (defBody st) gB)
    (hF : ∀ as r, as.length = ps.length → Fm as = .ok r → fin (gB (startE N as)) = .ok r) : Cal P w K mg base (k + 1) ps.length x Fm :=
  cal_of F hm Sc hbi (fun cdv A outer s H E J T hr => (hb cdv A outer s H E J T hr).h) hF
theorem qfn_okD {P : Program} {w : World} {K : PySem.W.Frag} {mg : Str → Option Value} {base : Heap} {x qual : Str} {st : Stmt} {f : Addr} {fd : FuncData} {N ps : List Str} {k : Nat} {Fm : List S → M R} (F : Fun K x qual st f fd) (Sc : FnScope N ps (defScope st)) {gB : G O}
    (hb : ∀ (cdv : Value) (A : Around) (outer : List Env) (s : Shared) (H : Hp) (E : XK) (J : Hp) (T : Exc → Prop), Room k (A.deeper (envOfC qual (defScope st) s.heap.objs.size f cdv)) →
      QDs (cxD P w K mg base N qual (defScope st) f cdv A outer s H E) ⟨K, H, J, T⟩ (defBody st) gB)
    (hF : ∀ as r, as.length = ps.length → Fm as = .ok r → fin (gB (startE N as)) = .ok r) : FnOk P w K mg base CX0 (k + 1) f fd ps (spD K ps.length Fm) :=
  fn_okD F Sc (fun cdv A outer s H E J T hr => (hb cdv A outer s H E J T hr).h) hF
end
end DL
set_option Elab.async false
set_option linter.all false
set_option maxRecDepth 100000
set_option maxHeartbeats 4000000
namespace K01
open PySem DL
def Nis_whole : List Str := ["thing"]
def gis_whole : G O := (gRet (gAndV (gIs "int" (gVar 0)) (gNotV (gIs "bool" (gVar 0)))))
def Fis_whole (as : List S) : M R := fin (gis_whole (startE Nis_whole as))
def Nis_name : List Str := ["thing"]
def gis_name : G O := (gSeq (gIfS (gOr (gNot (gTr (gIs "str" (gVar 0)))) (gOr (gTr (g2 (fI0 fun i j => .bl (decide (i < j))) (gN fLen (gCons (gVar 0) gNil)) (gC (.int 2)))) (gTr (g2 (fI0 fun i j => .bl (decide (j < i))) (gN fLen (gCons (gVar 0) gNil)) (gC (.int 8)))))) (gRet (gC (.bl false))) gNx)
 (gRet (gAndV (g2 (fIn true) (gVar 0) (gC (.tup [(.str "and"), (.str "or"), (.str "not"), (.str "some"), (.str "every"), (.str "least"), (.str "true"), (.str "false")]))) (gN fAll (gCons (gComp 1 [] (gItS (gVar 0)) (tgName 0) gTt (g2 (fInS false) (gVar 0) (gC (.str "abcdefghijklmnopqrstuvwxyz")))) gNil)))))
def Fis_name (as : List S) : M R := fin (gis_name (startE Nis_name as))
def N_law_cell : List Str := ["_law_script", "_law_k"]
def g_law_cell : G O := (gSeq (gIfS (gTr (g2 (fI0 fun i j => .bl (decide (i < j))) (gVar 1) (gN fLen (gCons (gVar 0) gNil)))) (gRet (g2 fMod (g2 fIx (gVar 0) (gVar 1)) (g2 fPow (gC (.int 2)) (gC (.int 64))))) gNx)
 (gRet (gC (.int 0))))
def F_law_cell (as : List S) : M R := fin (g_law_cell (startE N_law_cell as))
def N_law_names : List Str := ["_law_cell_here", "_law_many", "_law_number", "_law_base", "_law_size", "_law_words", "_law_first", "_law_signs", "_law_at", "_law_found", "_law_k", "_law_sign"]
def g_law_names : G O := (gSeq (gSet 2 (g2 fMod (g2 fTimes (gVar 0) (gC (.int 7129))) (gC (.int 1000033))))
 (gSeq (gSet 3 (g2 fIx (gC (.str "bcdfg")) (g2 fMod (gVar 2) (gC (.int 5)))))
 (gSeq (gSet 4 (g2 fPlus (gC (.int 2)) (g2 fMod (g2 fDiv (gVar 2) (gC (.int 5))) (gC (.int 7)))))
 (gSeq (gIfS (gTr (g2 (fEq false) (g2 fMod (g2 fDiv (gVar 2) (gC (.int 35))) (gC (.int 4))) (gC (.int 1)))) (gRet (gComp 1 [3] (gRng1 (gCons (gVar 1) gNil)) (tgName 0) gTt (g2 fTimes (gVar 1) (g2 fPlus (gC (.int 2)) (gVar 0))))) gNx)
 (gSeq (gIfS (gTr (g2 (fEq false) (g2 fMod (g2 fDiv (gVar 2) (gC (.int 35))) (gC (.int 4))) (gC (.int 2)))) (gSeq (gSet 5 (gLst (gDCons (gC (.str "and")) (gDCons (gC (.str "or")) (gDCons (gC (.str "not")) (gDCons (gC (.str "some")) (gDCons (gC (.str "every")) (gDCons (gC (.str "least")) (gDCons (gC (.str "true")) (gDCons (gC (.str "false")) gDNil))))))))))
 (gSeq (gSet 6 (g2 fMod (g2 fDiv (gVar 2) (gC (.int 140))) (gC (.int 8))))
 (gSeq (gSet 7 (gC (.str "abcdefghijklmnopqrstuvwxyz")))
 (gRet (gN fSorted (gCons (gComp 1 [5, 6, 7, 2] (gRng1 (gCons (gVar 1) gNil)) (tgName 0) gTt (g2 fPlus (g2 fIx (g2 fPlus (gVar 1) (gVar 1)) (g2 fPlus (gVar 2) (gVar 0))) (g2 fIx (gVar 3) (g2 fMod (g2 fDiv (gVar 4) (gC (.int 1120))) (gC (.int 26)))))) gNil)))))) gNx)
 (gSeq (gSet 8 (g2 fMod (g2 fDiv (gVar 2) (gC (.int 105))) (gVar 4)))
 (gSeq (gSet 9 (gLst gDNil))
 (gSeq (gFor (gRng1 (gCons (gVar 1) gNil)) (tgName 10) (gSeq (gSet 11 (g2 fIx (gC (.str "abcdefghijklmnopqrstuvwxyz")) (g2 fMod (g2 fPlus (g2 fDiv (gVar 2) (gC (.int 840))) (g2 fTimes (gC (.int 5)) (gVar 10))) (gC (.int 26)))))
 (gApp 9 (g2 fPlus (g2 fPlus (g2 fTimes (gVar 3) (gVar 8)) (gVar 11)) (g2 fTimes (gVar 3) (g2 fSub (g2 fSub (gVar 4) (gC (.int 1))) (gVar 8)))))))
 (gRet (gN fSorted (gCons (gVar 9) gNil)))))))))))
def F_law_names (as : List S) : M R := fin (g_law_names (startE N_law_names as))
def N_law_tongue : List Str := ["_law_cell_here", "_law_names_here", "_law_number", "_law_first"]
def g_law_tongue : G O := (gSeq (gSet 1 (gN (gCall 2 F_law_names) (gCons (gVar 0) (gCons (gC (.int 6)) gNil))))
 (gSeq (gSet 2 (g2 fMod (g2 fTimes (gVar 0) (gC (.int 523))) (gC (.int 10007))))
 (gSeq (gSet 3 (g2 fMod (g2 fDiv (gVar 2) (gC (.int 16))) (gC (.int 3))))
 (gRet (gTup (gDCons (gN fTuple (gCons (gSl fSl2 (gVar 1) gNo (gPt (g2 fMod (gVar 2) (gC (.int 4))))) gNil)) (gDCons (gN fTuple (gCons (gSl fSl2 (gVar 1) (gPt (gVar 3)) (gPt (g2 fPlus (gVar 3) (g2 fMod (g2 fDiv (gVar 2) (gC (.int 4))) (gC (.int 4)))))) gNil)) gDNil)))))))
def F_law_tongue (as : List S) : M R := fin (g_law_tongue (startE N_law_tongue as))
def N_law_point : List Str := ["_law_thing", "_law_many"]
def g_law_point : G O := (gRet (gAndV (gIs "int" (gVar 0)) (gAndV (gNotV (gIs "bool" (gVar 0))) (gAndV (g2 (fI0 fun i j => .bl (decide (i ≤ j))) (gC (.int 0)) (gVar 0)) (g2 (fI0 fun i j => .bl (decide (i < j))) (gVar 0) (gVar 1))))))
def F_law_point (as : List S) : M R := fin (g_law_point (startE N_law_point as))
def N_law_pair : List Str := ["_law_thing", "_law_many"]
def g_law_pair : G O := (gSeq (gIfS (gOr (gNot (gTr (gIs "tuple" (gVar 0)))) (gTr (g2 (fEq true) (gN fLen (gCons (gVar 0) gNil)) (gC (.int 2))))) (gRet (gC (.bl false))) gNx)
 (gRet (gAndV (gN (gCall 2 F_law_point) (gCons (g2 fIx (gVar 0) (gC (.int 0))) (gCons (gVar 1) gNil))) (gN (gCall 2 F_law_point) (gCons (g2 fIx (gVar 0) (gC (.int 1))) (gCons (gVar 1) gNil))))))
def F_law_pair (as : List S) : M R := fin (g_law_pair (startE N_law_pair as))
def N_law_is_name : List Str := ["_law_thing"]
def g_law_is_name : G O := (gSeq (gIfS (gOr (gNot (gTr (gIs "str" (gVar 0)))) (gOr (gTr (g2 (fI0 fun i j => .bl (decide (i < j))) (gN fLen (gCons (gVar 0) gNil)) (gC (.int 2)))) (gTr (g2 (fI0 fun i j => .bl (decide (j < i))) (gN fLen (gCons (gVar 0) gNil)) (gC (.int 8)))))) (gRet (gC (.bl false))) gNx)
 (gSeq (gIfS (gTr (g2 (fIn false) (gVar 0) (gTup (gDCons (gC (.str "and")) (gDCons (gC (.str "or")) (gDCons (gC (.str "not")) (gDCons (gC (.str "some")) (gDCons (gC (.str "every")) (gDCons (gC (.str "least")) (gDCons (gC (.str "true")) (gDCons (gC (.str "false")) gDNil))))))))))) (gRet (gC (.bl false))) gNx)
 (gRet (gN fAll (gCons (gComp 1 [] (gItS (gVar 0)) (tgName 0) gTt (g2 (fInS false) (gVar 0) (gC (.str "abcdefghijklmnopqrstuvwxyz")))) gNil)))))
def F_law_is_name (as : List S) : M R := fin (g_law_is_name (startE N_law_is_name as))
def N_law_part : List Str := ["_law_thing", "_law_many", "_law_way", "_law_k"]
def g_law_part : G O := (gSeq (gIfS (gOr (gNot (gTr (gIs "tuple" (gVar 0)))) (gTr (g2 (fEq true) (gN fLen (gCons (gVar 0) gNil)) (gC (.int 2))))) (gRet (gC (.bl false))) gNx)
 (gSeq (gIfS (gOr (gNot (gTr (gN (gCall 1 F_law_is_name) (gCons (g2 fIx (gVar 0) (gC (.int 0))) gNil)))) (gNot (gTr (gIs "tuple" (g2 fIx (gVar 0) (gC (.int 1))))))) (gRet (gC (.bl false))) gNx)
 (gSeq (gFor (gRng1 (gCons (gN fLen (gCons (g2 fIx (gVar 0) (gC (.int 1))) gNil)) gNil)) (tgName 3) (gSeq (gIfS (gOr (gAnd (gTr (g2 (fEq false) (gVar 2) (gC (.int 0)))) (gNot (gTr (gN (gCall 2 F_law_point) (gCons (g2 fIx (g2 fIx (gVar 0) (gC (.int 1))) (gVar 3)) (gCons (gVar 1) gNil)))))) (gAnd (gTr (g2 (fEq false) (gVar 2) (gC (.int 1)))) (gNot (gTr (gN (gCall 2 F_law_pair) (gCons (g2 fIx (g2 fIx (gVar 0) (gC (.int 1))) (gVar 3)) (gCons (gVar 1) gNil))))))) (gRet (gC (.bl false))) gNx)
 (gIfS (gAnd (gTr (g2 (fI0 fun i j => .bl (decide (j < i))) (gVar 3) (gC (.int 0)))) (gNot (gTr (g2 fLt3 (g2 fIx (g2 fIx (gVar 0) (gC (.int 1))) (g2 fSub (gVar 3) (gC (.int 1)))) (g2 fIx (g2 fIx (gVar 0) (gC (.int 1))) (gVar 3)))))) (gRet (gC (.bl false))) gNx)))
 (gRet (gC (.bl true))))))
def F_law_part (as : List S) : M R := fin (g_law_part (startE N_law_part as))
end K01
set_option Elab.async false
set_option linter.all false
set_option maxRecDepth 100000
set_option maxHeartbeats 4000000
namespace K01
open PySem DL
/-! ### data that is small enough for every step -/
inductive Sm : D → Prop
  | non : Sm .non
  | bl (b : Bool) : Sm (.bl b)
  | int (i : Int) : Sm (.int i)
  | emp : Sm .emp
  | str {x : Str} : x.length ≤ 1000 → Sm (.str x)
  | tup {xs : List D} : xs.length ≤ 1000 → (∀ x ∈ xs, Sm x) → Sm (.tup xs)
  | lst {xs : List D} : xs.length ≤ 1000 → (∀ x ∈ xs, Sm x) → Sm (.lst xs)
theorem line1000 {n : Nat} (h : n ≤ 1000) : n ≤ sizeLine := Nat.le_trans h (by decide)
/-! ### what the text asks, upon data -/
def whB : D → Bool
  | .int _ => true
  | _ => false
def letB (k : Nat) : Bool := !(Builtin.Str.occurrences "abcdefghijklmnopqrstuvwxyz" ⟨#[k]⟩ 0 (Str.length "abcdefghijklmnopqrstuvwxyz") 1).isEmpty
def words : List D := [.str "and", .str "or", .str "not", .str "some", .str "every", .str "least", .str "true", .str "false"]
def nmS (x : Str) : Bool := decide (2 ≤ x.length) && (decide (x.length ≤ 8) && (!inD (.str x) words && x.cps.toList.all letB))
def nmB : D → Bool
  | .str x => nmS x
  | _ => false
/-! ### comprehensions -/
theorem compG1 {ge : G R} {f : D → D} (tl : Ev) : ∀ (ds : List D) (x : Option S), (∀ d ∈ ds, ge (some (.d d) :: tl) = .ok (.d (f d))) → compG (tgName 0) gTt ge ds (x :: tl) = .ok (ds.map f)
  | [], _, _ => rfl
  | d :: r, x, h => by
    have ih := compG1 tl r (some (.d d)) fun e he => h e (List.mem_cons_of_mem _ he)
    unfold compG
    simp only [tgName, List.set_cons_zero, bind_ok, gTt, if_true, h d List.mem_cons_self, toD]
    rw [ih]
    rfl
theorem bls_map (f : D → Bool) : ∀ (ds : List D), blsOf (ds.map fun d => .bl (f d)) = some (ds.map f)
  | [] => rfl
  | d :: r => by
    simp only [List.map_cons, blsOf, bls_map f r]
    rfl
theorem all_map (f : D → Bool) (ds : List D) : fAll [.l .fresh (ds.map fun d => .bl (f d))] = .ok (.d (.bl (ds.all f))) := by
  unfold fAll
  simp only [asL, bind_ok, bls_map]
  congr 3
  simp [List.all_map]
/-! ### the simple tests -/
theorem E_whole (d : D) : Fis_whole [.d d] = .ok (.d (.bl (whB d))) := by cases d <;> rfl
end K01
set_option Elab.async false
set_option linter.all false
set_option maxRecDepth 100000
set_option maxHeartbeats 4000000
namespace K01
open PySem DL
/-- item of a list by a place that is there -/
theorem atI_nat {α : Type} {xs : List α} {k : Nat} {x : α} (h : xs[k]? = some x) : L2.atI xs (k : Int) = some x := by
  have hk : k < xs.length := (List.getElem?_eq_some_iff.mp h).1
  unfold L2.atI L2.ixN
  rw [if_pos (by omega), if_pos (by omega)]
  simpa using h
theorem fIx_tup {xs : List D} {k : Nat} {x : D} (h : xs[k]? = some x) : fIx (.d (.tup xs)) (.d (.int k)) = .ok (.d x) := by
  unfold fIx
  simp only [asQ, bind_ok, atI_nat h]
theorem fIx_l {m : Md} {xs : List D} {k : Nat} {x : D} (h : xs[k]? = some x) : fIx (.l m xs) (.d (.int k)) = .ok (.d x) := by
  unfold fIx
  simp only [asQ, bind_ok, atI_nat h]
theorem fIx_str {z : Str} {k : Nat} {c : Nat} (hz : z.length ≤ 1000) (h : z.cps.toList[k]? = some c) : fIx (.d (.str z)) (.d (.int k)) = .ok (.d (.str ⟨#[c]⟩)) := by
  unfold fIx
  simp only [line1000 hz, if_true, atI_nat h]
theorem len_tup (xs : List D) : fLen [.d (.tup xs)] = .ok (.d (.int xs.length)) := rfl
theorem len_str {x : Str} (h : x.length ≤ 1000) : fLen [.d (.str x)] = .ok (.d (.int x.length)) := by
  show (if x.length ≤ sizeLine then M.ok (R.d (D.int x.length)) else M.bad) = _
  rw [if_pos (line1000 h)]
theorem eq_int (neg : Bool) (i j : Int) : fEq neg (.d (.int i)) (.d (.int j)) = .ok (.d (.bl (if neg then !(i == j) else i == j))) := rfl
theorem ix0 (a : D) (r : List D) : fIx (.d (.tup (a :: r))) (.d (.int 0)) = .ok (.d a) := fIx_tup (k := 0) rfl
theorem ix1 (a b : D) (r : List D) : fIx (.d (.tup (a :: b :: r))) (.d (.int 1)) = .ok (.d b) := fIx_tup (k := 1) rfl
theorem ix2 (a b c : D) (r : List D) : fIx (.d (.tup (a :: b :: c :: r))) (.d (.int 2)) = .ok (.d c) := fIx_tup (k := 2) rfl
/-! ### pairs -/
/-! ### names -/
def okSign : D → Bool
  | .str y => !(Builtin.Str.occurrences "abcdefghijklmnopqrstuvwxyz" y 0 (Str.length "abcdefghijklmnopqrstuvwxyz") 1).isEmpty
  | _ => false
theorem signs_all (x : Str) : (signs x).all okSign = x.cps.toList.all letB := by
  unfold signs
  rw [List.all_map]
  rfl
theorem let_comp (x : Str) (h : x.length ≤ 1000) (env : Ev) (h0 : env[0]? = some (some (.d (.str x)))) :
    gN fAll (gCons (gComp 1 [] (gItS (gVar 0)) (tgName 0) gTt (g2 (fInS false) (gVar 0) (gC (.str "abcdefghijklmnopqrstuvwxyz")))) gNil) env = .ok (.d (.bl (x.cps.toList.all letB))) := by
  have hl : (signs x).length ≤ sizeLine := by
    unfold signs
    rw [List.length_map, Array.length_toList]
    exact line1000 h
  have e : compG (tgName 0) gTt (g2 (fInS false) (gVar 0) (gC (.str "abcdefghijklmnopqrstuvwxyz"))) (signs x) (cE 1 [] env) = .ok ((signs x).map fun d => .bl (okSign d)) := by
    refine compG1 (f := fun d => .bl (okSign d)) [] (signs x) none fun d hd => ?_
    unfold signs at hd
    rw [List.mem_map] at hd
    obtain ⟨k, _, rfl⟩ := hd
    rfl
  simp only [gN, gCons, gNil, gComp, gItS, gVar, h0, S.rd, bind_ok, hl, if_true, e, all_map, signs_all]
theorem notin_words (x : Str) : fIn true (.d (.str x)) (.d (.tup words)) = .ok (.d (.bl (!inD (.str x) words))) := rfl
theorem in_words (x : Str) : fIn false (.d (.str x)) (.d (.tup words)) = .ok (.d (.bl (inD (.str x) words))) := rfl
theorem E_name (d : D) (hs : Sm d) : Fis_name [.d d] = .ok (.d (.bl (nmB d))) := by
  cases d with
  | str x =>
    cases hs with
    | str hx =>
    have lc := let_comp x hx [some (S.d (D.str x))] rfl
    have nw := notin_words x
    unfold Fis_name gis_name
    generalize gN fAll (gCons (gComp 1 [] (gItS (gVar 0)) (tgName 0) gTt (g2 (fInS false) (gVar 0) (gC (.str "abcdefghijklmnopqrstuvwxyz")))) gNil) = gg at lc ⊢
    change fIn true (.d (.str x)) (.d (.tup [.str "and", .str "or", .str "not", .str "some", .str "every", .str "least", .str "true", .str "false"])) = _ at nw
    by_cases h2 : (x.length : Int) < 2
    · simp [gSeq, gIfS, gOr, gAnd, gNot, gTr, gIs, gVar, startE, S.rd, R.dat, tyD, subT, g2, gN, gCons, gNil, gC, gNx, gRet, gAndV, gNotV, gCall, toA, frR, rF, fin, fI0, len_tup, eq_int, gDCons, gDNil, toD, toS, gSet, ix0, ix1, ix2, Nis_name, len_str hx, h2, nmB, nmS]
      omega
    · by_cases h8 : (8 : Int) < x.length
      · simp [gSeq, gIfS, gOr, gAnd, gNot, gTr, gIs, gVar, startE, S.rd, R.dat, tyD, subT, g2, gN, gCons, gNil, gC, gNx, gRet, gAndV, gNotV, gCall, toA, frR, rF, fin, fI0, len_tup, eq_int, gDCons, gDNil, toD, toS, gSet, ix0, ix1, ix2, Nis_name, len_str hx, h2, h8, nmB, nmS]
        omega
      · have a2 : 2 ≤ x.length := by omega
        have a8 : x.length ≤ 8 := by omega
        simp [gSeq, gIfS, gOr, gAnd, gNot, gTr, gIs, gVar, startE, S.rd, R.dat, tyD, subT, g2, gN, gCons, gNil, gC, gNx, gRet, gAndV, gNotV, gCall, toA, frR, rF, fin, fI0, len_tup, eq_int, gDCons, gDNil, toD, toS, gSet, ix0, ix1, ix2, Nis_name, len_str hx, h2, h8, nw, lc]
        cases hw : inD (.str x) words <;> simp [gSeq, gIfS, gOr, gAnd, gNot, gTr, gIs, gVar, startE, S.rd, R.dat, tyD, subT, g2, gN, gCons, gNil, gC, gNx, gRet, gAndV, gNotV, gCall, toA, frR, rF, fin, fI0, len_tup, eq_int, gDCons, gDNil, toD, toS, gSet, ix0, ix1, ix2, hw, nmB, nmS, a2, a8]
  | _ => rfl
theorem E_lname (d : D) (hs : Sm d) : F_law_is_name [.d d] = .ok (.d (.bl (nmB d))) := by
  cases d with
  | str x =>
    cases hs with
    | str hx =>
    have lc := let_comp x hx [some (S.d (D.str x))] rfl
    have nw := in_words x
    unfold F_law_is_name g_law_is_name
    generalize gN fAll (gCons (gComp 1 [] (gItS (gVar 0)) (tgName 0) gTt (g2 (fInS false) (gVar 0) (gC (.str "abcdefghijklmnopqrstuvwxyz")))) gNil) = gg at lc ⊢
    change fIn false (.d (.str x)) (.d (.tup [.str "and", .str "or", .str "not", .str "some", .str "every", .str "least", .str "true", .str "false"])) = _ at nw
    by_cases h2 : (x.length : Int) < 2
    · simp [gSeq, gIfS, gOr, gAnd, gNot, gTr, gIs, gVar, startE, S.rd, R.dat, tyD, subT, g2, gN, gCons, gNil, gC, gNx, gRet, gAndV, gNotV, gCall, toA, frR, rF, fin, fI0, len_tup, eq_int, gDCons, gDNil, toD, toS, gSet, ix0, ix1, ix2, N_law_is_name, len_str hx, h2, nmB, nmS]
      omega
    · by_cases h8 : (8 : Int) < x.length
      · simp [gSeq, gIfS, gOr, gAnd, gNot, gTr, gIs, gVar, startE, S.rd, R.dat, tyD, subT, g2, gN, gCons, gNil, gC, gNx, gRet, gAndV, gNotV, gCall, toA, frR, rF, fin, fI0, len_tup, eq_int, gDCons, gDNil, toD, toS, gSet, ix0, ix1, ix2, N_law_is_name, len_str hx, h2, h8, nmB, nmS]
        omega
      · have a2 : 2 ≤ x.length := by omega
        have a8 : x.length ≤ 8 := by omega
        have l8 : 8 ≤ sizeLine := by decide
        simp [gSeq, gIfS, gOr, gAnd, gNot, gTr, gIs, gVar, startE, S.rd, R.dat, tyD, subT, g2, gN, gCons, gNil, gC, gNx, gRet, gAndV, gNotV, gCall, toA, frR, rF, fin, fI0, len_tup, eq_int, gDCons, gDNil, toD, toS, gSet, ix0, ix1, ix2, N_law_is_name, len_str hx, h2, h8, gTup, l8, nw, lc]
        cases hw : inD (.str x) words <;> simp [gSeq, gIfS, gOr, gAnd, gNot, gTr, gIs, gVar, startE, S.rd, R.dat, tyD, subT, g2, gN, gCons, gNil, gC, gNx, gRet, gAndV, gNotV, gCall, toA, frR, rF, fin, fI0, len_tup, eq_int, gDCons, gDNil, toD, toS, gSet, ix0, ix1, ix2, hw, nmB, nmS, a2, a8, lc]
  | _ => rfl
end K01
set_option Elab.async false
set_option linter.all false
set_option maxRecDepth 100000
set_option maxHeartbeats 4000000
namespace K01
open PySem DL
/-! ### a comprehension over a tuple that asks a def -/
theorem Sm.tl {xs : List D} (h : Sm (.tup xs)) : xs.length ≤ 1000 ∧ ∀ x ∈ xs, Sm x := by
  cases h with
  | tup a b => exact ⟨a, b⟩
end K01
set_option Elab.async false
set_option linter.all false
set_option maxRecDepth 100000
set_option maxHeartbeats 4000000
namespace K01
open PySem DL
/-! ### loops that look for a fault -/
end K01
set_option Elab.async false
set_option linter.all false
set_option maxRecDepth 100000
set_option maxHeartbeats 4000000
namespace K01
open PySem DL
theorem rngA (n : Nat) (h : n ≤ 1000) : below 4611686018427387904 (n : Int) = true := below_iff.mpr ⟨by omega, by omega⟩
def rr1 (j : Int) : M (List D) := if below 4611686018427387904 j then .ok (rngD 0 j.toNat) else .bad
theorem rr1_eq (j : Int) (h : below 4611686018427387904 j = true) : rr1 j = .ok (rngD 0 j.toNat) := by unfold rr1; exact if_pos h
theorem rng_rr {gs : G (List R)} {env : Ev} {j : Int} (hg : gs env = .ok [.d (.int j)]) : gRng1 gs env = rr1 j := by
  unfold gRng1 rr1
  rw [hg]
  rfl
theorem rng1 {gs : G (List R)} {env : Ev} {n : Nat} (hg : gs env = .ok [.d (.int (n : Int))]) (h : n ≤ 1000) : gRng1 gs env = .ok (rngD 0 n) := by
  rw [rng_rr hg, rr1_eq _ (rngA n h)]
  exact congrArg (fun k => M.ok (rngD 0 k)) (Int.toNat_natCast n)
theorem seq_nx {t u : G O} {env e : Ev} (h : t env = .ok (.nx e)) : gSeq t u env = u e := by
  unfold gSeq
  rw [h]
  rfl
theorem seq_rt {t u : G O} {env : Ev} {r : R} (h : t env = .ok (.rt r)) : gSeq t u env = .ok (.rt r) := by
  unfold gSeq
  rw [h]
  rfl
theorem for_eq {g : G (List D)} {t : GT} {u : G O} {env : Ev} {ds : List D} (h : g env = .ok ds) : gFor g t u env = loopG t u ds env := by
  unfold gFor
  rw [h]
  rfl
end K01
set_option Elab.async false
set_option linter.all false
set_option maxRecDepth 100000
set_option maxHeartbeats 4000000
namespace K01
open PySem DL
abbrev inner : G O := (gFor (gRng1 (gCons (gN fLen (gCons (gVar 2) gNil)) gNil)) (tgName 3) (gIfS (gOr (gNot (gTr (gN (gCall 3 F_law_part) (gCons (g2 fIx (gVar 2) (gVar 3)) (gCons (g2 fIx (gVar 0) (gC (.int 0))) (gCons (gVar 1) gNil)))))) (gAnd (gTr (g2 (fI0 fun i j => .bl (decide (j < i))) (gVar 3) (gC (.int 0)))) (gNot (gTr (g2 fLt3 (g2 fIx (g2 fIx (gVar 2) (g2 fSub (gVar 3) (gC (.int 1)))) (gC (.int 0))) (g2 fIx (g2 fIx (gVar 2) (gVar 3)) (gC (.int 0)))))))) (gRet (gC (.bl false))) gNx))
abbrev outer : G O := (gSeq (gSet 2 (g2 fIx (gVar 0) (g2 fPlus (gC (.int 1)) (gVar 1))))
 (gSeq (gIfS (gOr (gNot (gTr (gIs "tuple" (gVar 2)))) (gTr (g2 (fI0 fun i j => .bl (decide (j < i))) (gN fLen (gCons (gVar 2) gNil)) (gC (.int 3))))) (gRet (gC (.bl false))) gNx)
 inner))
end K01
set_option Elab.async false
set_option linter.all false
set_option maxRecDepth 100000
set_option maxHeartbeats 4000000
namespace K01
open PySem DL
/-! ### sums -/
theorem t_plus (i j : Int) : fPlus (.d (.int i)) (.d (.int j)) = .ok (.d (.int (i + j))) := rfl
theorem t_sub (i j : Int) : fSub (.d (.int i)) (.d (.int j)) = .ok (.d (.int (i - j))) := rfl
theorem fI_ok {C : Int → Int → Bool} {f : Int → Int → D} {i j : Int} (h : C i j = true) : fI C f (.d (.int i)) (.d (.int j)) = .ok (.d (f i j)) := by
  show (if C i j = true then M.ok (R.d (f i j)) else M.bad) = _
  rw [if_pos h]
theorem t_times (i j : Int) (h1 : -(2 ^ 64) < j) (h2 : j < 2 ^ 64) : fTimes (.d (.int i)) (.d (.int j)) = .ok (.d (.int (i * j))) := fI_ok (C := kMul) (f := fun i j => .int (i * j)) (by unfold kMul; rw [Bool.or_eq_true]; exact Or.inr (below_iff.mpr ⟨h1, h2⟩))
theorem t_timesL (i j : Int) (h1 : -(2 ^ 64) < i) (h2 : i < 2 ^ 64) : fTimes (.d (.int i)) (.d (.int j)) = .ok (.d (.int (i * j))) := fI_ok (C := kMul) (f := fun i j => .int (i * j)) (by unfold kMul; rw [Bool.or_eq_true]; exact Or.inl (below_iff.mpr ⟨h1, h2⟩))
theorem t_div (i j : Int) (h1 : 0 < j) (h2 : j < 1073741824) : fDiv (.d (.int i)) (.d (.int j)) = .ok (.d (.int (i / j))) := fI_ok (by
  unfold kDiv
  rw [Bool.and_eq_true]
  exact ⟨decide_eq_true h1, below_iff.mpr ⟨by omega, h2⟩⟩)
theorem t_mod (i j : Int) (h1 : 0 < j) : fMod (.d (.int i)) (.d (.int j)) = .ok (.d (.int (i % j))) := fI_ok (decide_eq_true h1)
theorem t_pow64 : fPow (.d (.int 2)) (.d (.int 64)) = .ok (.d (.int 18446744073709551616)) := fI_ok (by decide)
theorem t_str (x y : Str) (h : x.length + y.length ≤ 1000) : fPlus (.d (.str x)) (.d (.str y)) = .ok (.d (.str (x ++ y))) := by
  show (if x.length + y.length ≤ sizeLine then M.ok (R.d (D.str (x ++ y))) else M.bad) = _
  rw [if_pos (line1000 h)]
theorem t_rep (x : Str) (n : Int) (h0 : 0 ≤ n) (h : n ≤ 1000) (hx : x.length ≤ 1000) : fTimes (.d (.str x)) (.d (.int n)) = .ok (.d (.str (repS x n.toNat))) := by
  show (if 0 ≤ n ∧ n ≤ 1000 ∧ x.length ≤ 1000 then M.ok (R.d (D.str (repS x n.toNat))) else M.bad) = _
  rw [if_pos ⟨h0, h, hx⟩]
/-! ### signs of texts -/
def abc : Str := "abcdefghijklmnopqrstuvwxyz"
theorem abc_at : ∀ k : Fin 26, abc.cps.toList[k.val]? = some (97 + k.val) := by decide +kernel
theorem abc_len : abc.length ≤ 1000 := by decide +kernel
theorem ix_abc (i : Int) (h0 : 0 ≤ i) (h : i < 26) : fIx (.d (.str "abcdefghijklmnopqrstuvwxyz")) (.d (.int i)) = .ok (.d (.str ⟨#[97 + i.toNat]⟩)) := by
  have e : i = ((i.toNat : Nat) : Int) := by omega
  have := fIx_str (z := abc) (k := i.toNat) abc_len (abc_at ⟨i.toNat, by omega⟩)
  rw [e]
  exact this
def bases : List Nat := [98, 99, 100, 102, 103]
theorem base_at : ∀ k : Fin 5, ("bcdfg" : Str).cps.toList[k.val]? = some (bases.getD k.val 0) := by decide +kernel
theorem base_len : ("bcdfg" : Str).length ≤ 1000 := by decide +kernel
theorem ix_base (i : Int) (h0 : 0 ≤ i) (h : i < 5) : ∃ b ∈ bases, fIx (.d (.str "bcdfg")) (.d (.int i)) = .ok (.d (.str ⟨#[b]⟩)) := by
  have e : i = ((i.toNat : Nat) : Int) := by omega
  have hb : i.toNat < bases.length := by show _ < 5; omega
  refine ⟨bases.getD i.toNat 0, ?_, ?_⟩
  · rw [List.getD_eq_getElem?_getD, List.getElem?_eq_getElem hb]
    exact List.getElem_mem _
  · have := fIx_str (z := "bcdfg") (k := i.toNat) base_len (base_at ⟨i.toNat, by omega⟩)
    rw [e]
    exact this
theorem cps_app (x y : Str) : (x ++ y).cps.toList = x.cps.toList ++ y.cps.toList := by
  show (x.cps ++ y.cps).toList = _
  simp
theorem foldl_list (c : Array Nat) : ∀ (k : Nat) (acc : Array Nat), ((List.replicate k c).foldl (· ++ ·) acc).toList = acc.toList ++ (List.replicate k c.toList).flatten
  | 0, acc => by simp
  | k + 1, acc => by
    rw [List.replicate_succ, List.foldl_cons, foldl_list c k]
    simp [List.replicate_succ]
theorem cps_rep (b n : Nat) : (repS ⟨#[b]⟩ n).cps.toList = List.replicate n b := by
  unfold repS
  simp only
  rw [foldl_list]
  induction n with
  | zero => rfl
  | succ n ih => simpa [List.replicate_succ] using ih
theorem len_cps (x : Str) : x.length = x.cps.toList.length := by
  show x.cps.size = _
  simp
theorem str_ext {x y : Str} (h : x.cps.toList = y.cps.toList) : x = y := by
  cases x with
  | mk a =>
    cases y with
    | mk b =>
      simp only at h
      congr 1
      exact Array.toList_inj.mp h
end K01
set_option Elab.async false
set_option linter.all false
set_option maxRecDepth 100000
set_option maxHeartbeats 4000000
namespace K01
open PySem DL
/-! ### loops by an invariant -/
theorem loop_inv {t : GT} {u : G O} (I : Nat → Ev → Prop) (n : Nat)
    (h : ∀ k, k < n → ∀ env, I k env → ∃ e1 e2, t (.int k) env = .ok e1 ∧ u e1 = .ok (.nx e2) ∧ I (k + 1) e2) (env : Ev) (h0 : I 0 env) :
    ∃ e, loopG t u (rngD 0 n) env = .ok (.nx e) ∧ I n e := by
  have key : ∀ (m i : Nat), i + m = n → ∀ env, I i env → ∃ e, loopG t u ((List.range' i m).map fun (k : Nat) => D.int (0 + (k : Int))) env = .ok (.nx e) ∧ I n e := by
    intro m
    induction m with
    | zero => exact fun i hi env hI => ⟨env, rfl, (by omega : i = n) ▸ hI⟩
    | succ m ih =>
      intro i hi env hI
      obtain ⟨e1, e2, h1, h2, h3⟩ := h i (by omega) env hI
      obtain ⟨e, h4, h5⟩ := ih (i + 1) (by omega) e2 h3
      refine ⟨e, ?_, h5⟩
      rw [List.range'_succ, List.map_cons]
      unfold loopG
      rw [Int.zero_add, h1, bind_ok, h2, bind_ok]
      exact h4
  obtain ⟨e, h1, h2⟩ := key n 0 (by omega) env h0
  refine ⟨e, ?_, h2⟩
  unfold rngD
  rw [List.range_eq_range']
  exact h1
/-! ### what is a name -/
def wordsL : List (List Nat) := [[97, 110, 100], [111, 114], [110, 111, 116], [115, 111, 109, 101], [101, 118, 101, 114, 121], [108, 101, 97, 115, 116], [116, 114, 117, 101], [102, 97, 108, 115, 101]]
def wordsS : List Str := ["and", "or", "not", "some", "every", "least", "true", "false"]
theorem words_cps : wordsS.map (fun w => w.cps.toList) = wordsL := by decide +kernel
theorem words_map : words = wordsS.map .str := rfl
theorem in_wordsS (x : Str) : inD (.str x) words = wordsS.any fun w => w == x := by
  rw [words_map]
  unfold inD
  rw [List.any_map]
  congr 1
theorem letB_abc : ∀ k : Fin 26, letB (97 + k.val) = true := by decide +kernel
theorem nmS_of {x : Str} (h2 : 2 ≤ x.cps.toList.length) (h8 : x.cps.toList.length ≤ 8) (hw : x.cps.toList ∉ wordsL) (ha : ∀ k ∈ x.cps.toList, 97 ≤ k ∧ k < 123) : nmS x = true := by
  unfold nmS
  rw [len_cps, decide_eq_true h2, decide_eq_true h8, Bool.true_and, Bool.true_and, Bool.and_eq_true]
  refine ⟨?_, List.all_eq_true.mpr fun k hk => ?_⟩
  · rw [Bool.not_eq_true', Bool.eq_false_iff]
    intro h
    rw [in_wordsS, List.any_eq_true] at h
    obtain ⟨w, h1, h3⟩ := h
    have e : w = x := eq_of_beq h3
    subst e
    refine hw ?_
    rw [← words_cps]
    exact List.mem_map.mpr ⟨w, h1, rfl⟩
  · obtain ⟨h1, h3⟩ := ha k hk
    have := letB_abc ⟨k - 97, by omega⟩
    rw [show 97 + (k - 97) = k by omega] at this
    exact this
theorem few_word : ∀ b ∈ bases, ∀ w ∈ wordsL, ¬ (w.filter (· != b)).length ≤ 1 := by decide
theorem not_word {b : Nat} (hb : b ∈ bases) {l : List Nat} (h : (l.filter (· != b)).length ≤ 1) : l ∉ wordsL := fun z => few_word b hb l z h
theorem long_word : ∀ w ∈ wordsL, ∀ w' ∈ wordsL, w'.dropLast ≠ w := by decide
theorem base_abc : ∀ b ∈ bases, 97 ≤ b ∧ b < 123 := by decide
/-! ### sorted names -/
theorem strs_map : ∀ (ss : List Str), strsOf (ss.map .str) = some ss
  | [] => rfl
  | s :: r => by
    simp only [List.map_cons, strsOf, strs_map r]
    rfl
theorem sorted_strs (m : Md) (ss : List Str) (h : ss.length < 64) : fSorted [.l m (ss.map .str)] = .ok (.l .fresh ((sortS ss).map .str)) := by
  unfold fSorted
  simp only [asL, bind_ok, strs_map, h, if_true]
theorem sorted_lt {ss : List Str} (h : ss.Nodup) : (sortS ss).Pairwise fun a b => a.cps.toList < b.cps.toList := by
  have h1 := sortS_sorted ss
  have h2 : (sortS ss).Nodup := (sortS_perm ss).symm.nodup h
  have := h1.and h2
  refine this.imp fun {a b} ⟨x, y⟩ => ?_
  unfold leS at x
  have x := of_decide_eq_true x
  rcases List.le_iff_lt_or_eq.mp x with z | z
  · exact z
  · exact absurd (str_ext z) y
end K01
set_option Elab.async false
set_option linter.all false
set_option maxRecDepth 100000
set_option maxHeartbeats 4000000
namespace K01
open PySem DL
theorem comp_rng {cap : List Nat} {gi : G (List D)} {ge : G R} {env tl : Ev} {m : Nat} (hm : m ≤ 1000) (f : Nat → D) (hi : gi env = .ok (rngD 0 m)) (hc : cE 1 cap env = none :: tl) (h : ∀ k, k < m → ge (some (.d (.int (k : Nat))) :: tl) = .ok (.d (f k))) :
    gComp 1 cap gi (tgName 0) gTt ge env = .ok (.l .fresh ((List.range m).map f)) := by
  have e := compG1 (ge := ge) (f := fun d => match d with | .int i => f i.toNat | _ => .non) tl (rngD 0 m) none fun d hd => by
    unfold rngD at hd
    rw [List.mem_map] at hd
    obtain ⟨k, hk, rfl⟩ := hd
    rw [Int.zero_add]
    exact h k (List.mem_range.mp hk)
  have hl : (rngD 0 m).length ≤ sizeLine := by
    unfold rngD
    rw [List.length_map, List.length_range]
    exact line1000 hm
  unfold gComp
  rw [hi, bind_ok, if_pos hl, hc, e, bind_ok]
  unfold rngD
  rw [List.map_map]
  congr 3
  funext k
  show f ((0 : Int) + (k : Int)).toNat = f k
  rw [Int.zero_add, Int.toNat_natCast]
theorem rep_lt (b : Nat) : ∀ (i j : Nat), i < j → List.replicate i b < List.replicate j b
  | 0, j + 1, _ => by
    rw [List.replicate_succ]
    exact List.nil_lt_cons _ _
  | i + 1, j + 1, h => by
    rw [List.replicate_succ, List.replicate_succ, List.cons_lt_cons_iff]
    exact .inr ⟨rfl, rep_lt b i j (by omega)⟩
def nmK1 (b k : Nat) : Str := repS ⟨#[b]⟩ (2 + k)
def nmK2 (f s k : Nat) : Str := (wordsS ++ wordsS).getD (f + k) "" ++ ⟨#[97 + s]⟩
def nmK3 (b a r : Nat) (q : Int) (k : Nat) : Str := repS ⟨#[b]⟩ a ++ ⟨#[97 + ((q + 5 * (k : Int)) % 26).toNat]⟩ ++ repS ⟨#[b]⟩ r
def Good (m : Nat) (ss : List Str) : Prop := ss.length = m ∧ (∀ s ∈ ss, nmS s = true) ∧ ss.Pairwise fun a b => a.cps.toList < b.cps.toList
theorem good1 {b m : Nat} (hb : b ∈ bases) (hm : m ≤ 6) : Good m ((List.range m).map (nmK1 b)) := by
  refine ⟨by simp, fun s hs => ?_, ?_⟩
  · obtain ⟨k, hk, rfl⟩ := List.mem_map.mp hs
    have hk := List.mem_range.mp hk
    have e : (nmK1 b k).cps.toList = List.replicate (2 + k) b := cps_rep b (2 + k)
    refine nmS_of (by rw [e, List.length_replicate]; omega) (by rw [e, List.length_replicate]; omega) (not_word hb ?_) fun x hx => ?_
    · rw [e]; simp
    · rw [e] at hx; rw [List.eq_of_mem_replicate hx]; exact base_abc b hb
  · rw [List.pairwise_map]
    refine List.pairwise_lt_range.imp fun {i j} h => ?_
    show (repS _ _).cps.toList < (repS _ _).cps.toList
    rw [cps_rep, cps_rep]
    exact rep_lt b _ _ (by omega)
theorem good_sorted {m : Nat} {ss : List Str} (hl : ss.length = m) (hn : ∀ s ∈ ss, nmS s = true) (hd : ss.Nodup) : Good m (sortS ss) :=
  ⟨by rw [(sortS_perm ss).length_eq, hl], fun s hs => hn s ((sortS_perm ss).mem_iff.mp hs), sorted_lt hd⟩
theorem k2_cps (f s k : Nat) (h : f + k < 16) : (nmK2 f s k).cps.toList = (wordsL ++ wordsL).getD (f + k) [] ++ [97 + s] := by
  show (_ ++ _ : Str).cps.toList = _
  rw [cps_app]
  congr 1
  rw [← words_cps, ← List.map_append, List.getD_eq_getElem?_getD, List.getD_eq_getElem?_getD, List.getElem?_map]
  have hl : f + k < (wordsS ++ wordsS).length := h
  rw [List.getElem?_eq_getElem hl]
  rfl
theorem w16 : ∀ j : Fin 16, (wordsL ++ wordsL).getD j.val [] ∈ wordsL := by decide
theorem w16_len : ∀ w ∈ wordsL, 2 ≤ w.length ∧ w.length ≤ 5 ∧ ∀ k ∈ w, 97 ≤ k ∧ k < 123 := by decide
theorem w16_ne : ∀ (f : Fin 8) (j k : Fin 6), j.val ≠ k.val → (wordsL ++ wordsL).getD (f.val + j.val) [] ≠ (wordsL ++ wordsL).getD (f.val + k.val) [] := by decide
theorem good2 {f s m : Nat} (hf : f < 8) (hs : s < 26) (hm : m ≤ 6) : Good m (sortS ((List.range m).map (nmK2 f s))) := by
  refine good_sorted (by simp) (fun x hx => ?_) ?_
  · obtain ⟨k, hk, rfl⟩ := List.mem_map.mp hx
    have hk := List.mem_range.mp hk
    have e := k2_cps f s k (by omega)
    have hw := w16 ⟨f + k, by omega⟩
    obtain ⟨h1, h2, h3⟩ := w16_len _ hw
    simp only at h1 h2 h3 hw
    generalize (wordsL ++ wordsL).getD (f + k) [] = w at e hw h1 h2 h3
    refine nmS_of (by rw [e, List.length_append]; simp; omega) (by rw [e, List.length_append]; simp; omega) (fun z => ?_) fun y hy => ?_
    · rw [e] at z
      exact long_word w hw _ z (by simp)
    · rw [e, List.mem_append] at hy
      rcases hy with hy | hy
      · exact h3 y hy
      · rw [List.mem_singleton] at hy; omega
  · rw [List.nodup_iff_pairwise_ne, List.pairwise_map]
    refine (List.pairwise_lt_range (n := m)).imp_of_mem fun {i j} hi hj h z => ?_
    have hi := List.mem_range.mp hi
    have hj := List.mem_range.mp hj
    have z' : (nmK2 f s i).cps.toList = (nmK2 f s j).cps.toList := by rw [z]
    rw [k2_cps f s i (by omega), k2_cps f s j (by omega)] at z'
    exact w16_ne ⟨f, hf⟩ ⟨i, by omega⟩ ⟨j, by omega⟩ (show i ≠ j by omega) (List.append_cancel_right z')
theorem k3_cps (b a r : Nat) (q : Int) (k : Nat) : (nmK3 b a r q k).cps.toList = List.replicate a b ++ [97 + ((q + 5 * (k : Int)) % 26).toNat] ++ List.replicate r b := by
  show (_ ++ _ ++ _ : Str).cps.toList = _
  rw [cps_app, cps_app, cps_rep, cps_rep]
theorem good3 {b a r m : Nat} {q : Int} (hb : b ∈ bases) (h2 : 1 ≤ a + r) (h8 : a + r ≤ 7) (hm : m ≤ 6) : Good m (sortS ((List.range m).map (nmK3 b a r q))) := by
  refine good_sorted (by simp) (fun x hx => ?_) ?_
  · obtain ⟨k, hk, rfl⟩ := List.mem_map.mp hx
    have e := k3_cps b a r q k
    refine nmS_of (by rw [e]; simp; omega) (by rw [e]; simp; omega) (not_word hb ?_) fun y hy => ?_
    · rw [e, List.filter_append, List.filter_append]
      have : ∀ n, (List.replicate n b).filter (· != b) = [] := fun n => by simp
      rw [this, this, List.nil_append, List.append_nil]
      exact List.length_filter_le _ _
    · rw [e, List.mem_append, List.mem_append, List.mem_singleton] at hy
      rcases hy with (hy | hy) | hy
      · rw [List.eq_of_mem_replicate hy]; exact base_abc b hb
      · have : 0 ≤ (q + 5 * (k : Int)) % 26 := Int.emod_nonneg _ (by decide)
        have : (q + 5 * (k : Int)) % 26 < 26 := Int.emod_lt_of_pos _ (by decide)
        omega
      · rw [List.eq_of_mem_replicate hy]; exact base_abc b hb
  · rw [List.nodup_iff_pairwise_ne, List.pairwise_map]
    refine (List.pairwise_lt_range (n := m)).imp_of_mem fun {i j} hi hj h z => ?_
    have hi := List.mem_range.mp hi
    have hj := List.mem_range.mp hj
    have z' : (nmK3 b a r q i).cps.toList = (nmK3 b a r q j).cps.toList := by rw [z]
    rw [k3_cps, k3_cps] at z'
    have z2 := List.append_cancel_right z'
    have z3 := List.append_cancel_left z2
    have z4 : 97 + ((q + 5 * (i : Int)) % 26).toNat = 97 + ((q + 5 * (j : Int)) % 26).toNat := by simpa using z3
    have g1 : 0 ≤ (q + 5 * (i : Int)) % 26 := Int.emod_nonneg _ (by decide)
    have g2 : 0 ≤ (q + 5 * (j : Int)) % 26 := Int.emod_nonneg _ (by decide)
    have z5 : (q + 5 * (i : Int)) % 26 = (q + 5 * (j : Int)) % 26 := by omega
    omega
end K01
set_option Elab.async false
set_option linter.all false
set_option maxRecDepth 100000
set_option maxHeartbeats 4000000
namespace K01
open PySem DL
theorem len_l (m : Md) (xs : List D) : fLen [.l m xs] = .ok (.d (.int xs.length)) := rfl
def cellV (ns : List Int) (k : Nat) : Int := (ns.map fun x => x % 18446744073709551616).getD k 0
theorem cell_pos (ns : List Int) (k : Nat) : 0 ≤ cellV ns k := by
  unfold cellV
  rw [List.getD_eq_getElem?_getD, List.getElem?_map]
  cases ns[k]? with
  | none => exact Int.le_refl _
  | some x => exact Int.emod_nonneg _ (by decide)
theorem E_cell (ns : List Int) (k : Nat) : F_law_cell [.bor (ns.map D.int), .d (.int k)] = .ok (.d (.int (cellV ns k))) := by
  unfold F_law_cell g_law_cell
  by_cases h : k < ns.length
  · have h' : (k : Int) < ns.length := by omega
    have e : (ns.map D.int)[k]? = some (.int ns[k]) := by rw [List.getElem?_map, List.getElem?_eq_getElem h]; rfl
    have e2 : cellV ns k = ns[k] % 18446744073709551616 := by
      unfold cellV
      rw [List.getD_eq_getElem?_getD, List.getElem?_map, List.getElem?_eq_getElem h]
      rfl
    simp [gSeq, gIfS, gOr, gAnd, gNot, gTr, gIs, gVar, startE, S.rd, R.dat, tyD, subT, g2, gN, gCons, gNil, gC, gNx, gRet, gAndV, gNotV, gCall, toA, frR, rF, fin, fI0, len_tup, eq_int, gDCons, gDNil, toD, toS, gSet, ix0, ix1, ix2, N_law_cell, len_l, h', fIx_l e, t_pow64, t_mod, e2]
  · have h' : ¬ (k : Int) < ns.length := by omega
    have e2 : cellV ns k = 0 := by
      unfold cellV
      rw [List.getD_eq_getElem?_getD, List.getElem?_map, List.getElem?_eq_none (by omega)]
      rfl
    simp [gSeq, gIfS, gOr, gAnd, gNot, gTr, gIs, gVar, startE, S.rd, R.dat, tyD, subT, g2, gN, gCons, gNil, gC, gNx, gRet, gAndV, gNotV, gCall, toA, frR, rF, fin, fI0, len_tup, eq_int, gDCons, gDNil, toD, toS, gSet, ix0, ix1, ix2, N_law_cell, len_l, h', e2]
abbrev eN (c m x2 : Int) (x3 : S) (x4 : Int) (x5 x6 x7 x8 x9 x10 x11 : Option S) : Ev := [some (.d (.int c)), some (.d (.int m)), some (.d (.int x2)), some x3, some (.d (.int x4)), x5, x6, x7, x8, x9, x10, x11]
theorem rngI {m : Nat} {env : Ev} {gs : G (List R)} (h : m ≤ 1000) (hg : gs env = .ok [.d (.int (m : Int))]) : gRng1 gs env = .ok (rngD 0 m) := rng1 hg h
theorem words_d : gLst (gDCons (gC (.str "and")) (gDCons (gC (.str "or")) (gDCons (gC (.str "not")) (gDCons (gC (.str "some")) (gDCons (gC (.str "every")) (gDCons (gC (.str "least")) (gDCons (gC (.str "true")) (gDCons (gC (.str "false")) gDNil)))))))) = fun _ => .ok (.l .fresh words) := by
  funext env
  rfl
theorem cat_own (xs ys : List D) (h : xs.length + ys.length ≤ 1000) : fPlus (.l .own xs) (.l .own ys) = .ok (.l .fresh (xs ++ ys)) := by
  show (if xs.length + ys.length ≤ sizeLine then M.ok (R.l Md.fresh (xs ++ ys)) else M.bad) = _
  rw [if_pos (line1000 h)]
theorem ww_at (j : Nat) (h : j < 16) : (words ++ words)[j]? = some (.str ((wordsS ++ wordsS).getD j "")) := by
  rw [words_map, ← List.map_append, List.getElem?_map, List.getD_eq_getElem?_getD]
  have hl : j < (wordsS ++ wordsS).length := h
  rw [List.getElem?_eq_getElem hl]
  rfl
theorem ww_len : ∀ j : Fin 16, ((wordsS ++ wordsS).getD j.val "").length ≤ 5 := by decide +kernel
theorem ifs_no {b : G Bool} {t u : G O} {env : Ev} (h : b env = .ok false) : gIfS b t u env = u env := by
  unfold gIfS
  rw [h]
  rfl
theorem ifs_yes {b : G Bool} {t u : G O} {env : Ev} (h : b env = .ok true) : gIfS b t u env = t env := by
  unfold gIfS
  rw [h]
  rfl
theorem n1_eq {g : G R} {f : List R → M R} {env : Ev} {r r' : R} (h : g env = .ok r) (hf : f [r] = .ok r') : gN f (gCons g gNil) env = .ok r' := by
  unfold gN gCons
  rw [h]
  exact hf
theorem ret_eq {g : G R} {env : Ev} {r r' : R} (h : g env = .ok r) (h2 : rF r = .ok r') : gRet g env = .ok (.rt r') := by
  unfold gRet
  rw [h, bind_ok, h2]
  rfl
theorem E_names (c : Int) (m : Nat) (hm : m ≤ 6) : ∃ ss : List Str, F_law_names [.d (.int c), .d (.int m)] = .ok (.l .fresh (ss.map .str)) ∧ Good m ss := by
  unfold F_law_names g_law_names
  rw [words_d]
  show ∃ ss : List Str, fin (gSeq _ _ [some (.d (.int c)), some (.d (.int m)), none, none, none, none, none, none, none, none, none, none]) = _ ∧ _
  obtain ⟨n, hn⟩ : ∃ n, c * 7129 % 1000033 = n := ⟨_, rfl⟩
  have n0 : 0 ≤ n := hn ▸ Int.emod_nonneg _ (by decide)
  have n1 : n < 1000033 := hn ▸ Int.emod_lt_of_pos _ (by decide)
  obtain ⟨b, hb, eb⟩ := ix_base (n % 5) (by omega) (by omega)
  rw [seq_nx (e := [some (.d (.int c)), some (.d (.int m)), some (.d (.int n)), none, none, none, none, none, none, none, none, none]) (by simp [gSeq, gIfS, gOr, gAnd, gNot, gTr, gIs, gVar, startE, S.rd, R.dat, tyD, subT, g2, gN, gCons, gNil, gC, gNx, gRet, gAndV, gNotV, gCall, toA, frR, rF, fin, fI0, len_tup, eq_int, gDCons, gDNil, toD, toS, gSet, ix0, ix1, ix2, t_times, t_mod, hn])]
  rw [seq_nx (e := [some (.d (.int c)), some (.d (.int m)), some (.d (.int n)), some (.d (.str ⟨#[b]⟩)), none, none, none, none, none, none, none, none]) (by simp [gSeq, gIfS, gOr, gAnd, gNot, gTr, gIs, gVar, startE, S.rd, R.dat, tyD, subT, g2, gN, gCons, gNil, gC, gNx, gRet, gAndV, gNotV, gCall, toA, frR, rF, fin, fI0, len_tup, eq_int, gDCons, gDNil, toD, toS, gSet, ix0, ix1, ix2, t_mod, eb])]
  rw [seq_nx (e := eN c m n (.d (.str ⟨#[b]⟩)) (2 + n / 5 % 7) none none none none none none none) (by simp [gSeq, gIfS, gOr, gAnd, gNot, gTr, gIs, gVar, startE, S.rd, R.dat, tyD, subT, g2, gN, gCons, gNil, gC, gNx, gRet, gAndV, gNotV, gCall, toA, frR, rF, fin, fI0, len_tup, eq_int, gDCons, gDNil, toD, toS, gSet, ix0, ix1, ix2, t_mod, t_div, t_plus])]
  have lb : (⟨#[b]⟩ : Str).length ≤ 1000 := by show 1 ≤ 1000; decide
  by_cases c1 : n / 35 % 4 = 1
  · refine ⟨(List.range m).map (nmK1 b), ?_, good1 hb hm⟩
    have cr := comp_rng (cap := [3]) (gi := gRng1 (gCons (gVar 1) gNil)) (ge := g2 fTimes (gVar 1) (g2 fPlus (gC (.int 2)) (gVar 0))) (env := eN c m n (.d (.str ⟨#[b]⟩)) (2 + n / 5 % 7) none none none none none none none) (tl := [some (.d (.str ⟨#[b]⟩))]) (m := m) (by omega) (fun k => .str (nmK1 b k)) (rngI (by omega) (by simp [gSeq, gIfS, gOr, gAnd, gNot, gTr, gIs, gVar, startE, S.rd, R.dat, tyD, subT, g2, gN, gCons, gNil, gC, gNx, gRet, gAndV, gNotV, gCall, toA, frR, rF, fin, fI0, len_tup, eq_int, gDCons, gDNil, toD, toS, gSet, ix0, ix1, ix2])) rfl (fun k hk => by
      have := t_rep ⟨#[b]⟩ (2 + (k : Int)) (by omega) (by omega) lb
      have e : (2 + (k : Int)).toNat = 2 + k := by omega
      rw [e] at this
      simp [gSeq, gIfS, gOr, gAnd, gNot, gTr, gIs, gVar, startE, S.rd, R.dat, tyD, subT, g2, gN, gCons, gNil, gC, gNx, gRet, gAndV, gNotV, gCall, toA, frR, rF, fin, fI0, len_tup, eq_int, gDCons, gDNil, toD, toS, gSet, ix0, ix1, ix2, t_plus, this, nmK1])
    rw [seq_rt (r := .l .fresh (((List.range m).map (nmK1 b)).map .str)) (by
      unfold gIfS gRet
      rw [cr]
      simp [gSeq, gIfS, gOr, gAnd, gNot, gTr, gIs, gVar, startE, S.rd, R.dat, tyD, subT, g2, gN, gCons, gNil, gC, gNx, gRet, gAndV, gNotV, gCall, toA, frR, rF, fin, fI0, len_tup, eq_int, gDCons, gDNil, toD, toS, gSet, ix0, ix1, ix2, t_div, t_mod, c1])]
    rfl
  · rw [seq_nx (e := eN c m n (.d (.str ⟨#[b]⟩)) (2 + n / 5 % 7) none none none none none none none) ((ifs_no (by simp [gSeq, gIfS, gOr, gAnd, gNot, gTr, gIs, gVar, startE, S.rd, R.dat, tyD, subT, g2, gN, gCons, gNil, gC, gNx, gRet, gAndV, gNotV, gCall, toA, frR, rF, fin, fI0, len_tup, eq_int, gDCons, gDNil, toD, toS, gSet, ix0, ix1, ix2, t_div, t_mod, c1])).trans rfl)]
    by_cases c2 : n / 35 % 4 = 2
    · refine ⟨sortS ((List.range m).map (nmK2 (n / 140 % 8).toNat (n / 1120 % 26).toNat)), ?_, good2 (by omega) (by omega) hm⟩
      have cr := comp_rng (cap := [5, 6, 7, 2]) (gi := gRng1 (gCons (gVar 1) gNil)) (ge := (g2 fPlus (g2 fIx (g2 fPlus (gVar 1) (gVar 1)) (g2 fPlus (gVar 2) (gVar 0))) (g2 fIx (gVar 3) (g2 fMod (g2 fDiv (gVar 4) (gC (.int 1120))) (gC (.int 26)))))) (env := eN c m n (.d (.str ⟨#[b]⟩)) (2 + n / 5 % 7) (some (.own words)) (some (.d (.int (n / 140 % 8)))) (some (.d (.str "abcdefghijklmnopqrstuvwxyz"))) none none none none) (tl := [some (.own words), some (.d (.int (n / 140 % 8))), some (.d (.str "abcdefghijklmnopqrstuvwxyz")), some (.d (.int n))]) (m := m) (by omega) (fun k => .str (nmK2 (n / 140 % 8).toNat (n / 1120 % 26).toNat k)) (rngI (by omega) (by simp [gSeq, gIfS, gOr, gAnd, gNot, gTr, gIs, gVar, startE, S.rd, R.dat, tyD, subT, g2, gN, gCons, gNil, gC, gNx, gRet, gAndV, gNotV, gCall, toA, frR, rF, fin, fI0, len_tup, eq_int, gDCons, gDNil, toD, toS, gSet, ix0, ix1, ix2])) rfl (fun k hk => by
        have ea := ix_abc (n / 1120 % 26) (by omega) (by omega)
        have ew := fIx_l (m := .fresh) (ww_at ((n / 140 % 8).toNat + k) (by omega))
        have ei : (((n / 140 % 8).toNat + k : Nat) : Int) = n / 140 % 8 + k := by omega
        rw [ei] at ew
        have el := ww_len ⟨(n / 140 % 8).toNat + k, by omega⟩
        simp only at el
        have es := t_str ((wordsS ++ wordsS).getD ((n / 140 % 8).toNat + k) "") ⟨#[97 + (n / 1120 % 26).toNat]⟩ (by show _ + 1 ≤ _; omega)
        have ec := cat_own words words (by decide)
        unfold nmK2
        generalize (wordsS ++ wordsS).getD ((n / 140 % 8).toNat + k) "" = w at ew es ⊢
        simp only [g2, gVar, gC, List.getElem?_cons_zero, List.getElem?_cons_succ, bind_ok, S.rd, ec, t_plus]
        rw [ew, bind_ok, t_div _ _ (by decide) (by decide), bind_ok, t_mod _ _ (by decide), bind_ok, ea, bind_ok, es])
      rw [seq_rt (r := .l .fresh ((sortS ((List.range m).map (nmK2 (n / 140 % 8).toNat (n / 1120 % 26).toNat))).map .str)) (by
        unfold gIfS
        rw [show gTr (g2 (fEq false) (g2 fMod (g2 fDiv (gVar 2) (gC (.int 35))) (gC (.int 4))) (gC (.int 2))) (eN c m n (.d (.str ⟨#[b]⟩)) (2 + n / 5 % 7) none none none none none none none) = .ok true by simp [gSeq, gIfS, gOr, gAnd, gNot, gTr, gIs, gVar, startE, S.rd, R.dat, tyD, subT, g2, gN, gCons, gNil, gC, gNx, gRet, gAndV, gNotV, gCall, toA, frR, rF, fin, fI0, len_tup, eq_int, gDCons, gDNil, toD, toS, gSet, ix0, ix1, ix2, t_div, t_mod, c2], bind_ok, if_pos rfl]
        rw [seq_nx (e := eN c m n (.d (.str ⟨#[b]⟩)) (2 + n / 5 % 7) (some (.own words)) none none none none none none) (by simp [gSeq, gIfS, gOr, gAnd, gNot, gTr, gIs, gVar, startE, S.rd, R.dat, tyD, subT, g2, gN, gCons, gNil, gC, gNx, gRet, gAndV, gNotV, gCall, toA, frR, rF, fin, fI0, len_tup, eq_int, gDCons, gDNil, toD, toS, gSet, ix0, ix1, ix2])]
        rw [seq_nx (e := eN c m n (.d (.str ⟨#[b]⟩)) (2 + n / 5 % 7) (some (.own words)) (some (.d (.int (n / 140 % 8)))) none none none none none) (by simp [gSeq, gIfS, gOr, gAnd, gNot, gTr, gIs, gVar, startE, S.rd, R.dat, tyD, subT, g2, gN, gCons, gNil, gC, gNx, gRet, gAndV, gNotV, gCall, toA, frR, rF, fin, fI0, len_tup, eq_int, gDCons, gDNil, toD, toS, gSet, ix0, ix1, ix2, t_div, t_mod])]
        rw [seq_nx (e := eN c m n (.d (.str ⟨#[b]⟩)) (2 + n / 5 % 7) (some (.own words)) (some (.d (.int (n / 140 % 8)))) (some (.d (.str "abcdefghijklmnopqrstuvwxyz"))) none none none none) (by simp [gSeq, gIfS, gOr, gAnd, gNot, gTr, gIs, gVar, startE, S.rd, R.dat, tyD, subT, g2, gN, gCons, gNil, gC, gNx, gRet, gAndV, gNotV, gCall, toA, frR, rF, fin, fI0, len_tup, eq_int, gDCons, gDNil, toD, toS, gSet, ix0, ix1, ix2])]
        have hs := sorted_strs .fresh ((List.range m).map (nmK2 (n / 140 % 8).toNat (n / 1120 % 26).toNat)) (by simp; omega)
        rw [List.map_map] at hs
        exact ret_eq (n1_eq cr hs) rfl)]
      rfl
    · rw [seq_nx (e := eN c m n (.d (.str ⟨#[b]⟩)) (2 + n / 5 % 7) none none none none none none none) ((ifs_no (by simp [gSeq, gIfS, gOr, gAnd, gNot, gTr, gIs, gVar, startE, S.rd, R.dat, tyD, subT, g2, gN, gCons, gNil, gC, gNx, gRet, gAndV, gNotV, gCall, toA, frR, rF, fin, fI0, len_tup, eq_int, gDCons, gDNil, toD, toS, gSet, ix0, ix1, ix2, t_div, t_mod, c2])).trans rfl)]
      have hz : 0 < 2 + n / 5 % 7 := by omega
      rw [seq_nx (e := eN c m n (.d (.str ⟨#[b]⟩)) (2 + n / 5 % 7) none none none (some (.d (.int (n / 105 % (2 + n / 5 % 7))))) none none none) (by simp [gSeq, gIfS, gOr, gAnd, gNot, gTr, gIs, gVar, startE, S.rd, R.dat, tyD, subT, g2, gN, gCons, gNil, gC, gNx, gRet, gAndV, gNotV, gCall, toA, frR, rF, fin, fI0, len_tup, eq_int, gDCons, gDNil, toD, toS, gSet, ix0, ix1, ix2, t_div, t_mod, hz])]
      rw [seq_nx (e := eN c m n (.d (.str ⟨#[b]⟩)) (2 + n / 5 % 7) none none none (some (.d (.int (n / 105 % (2 + n / 5 % 7))))) (some (.own [])) none none) (by simp [gSeq, gIfS, gOr, gAnd, gNot, gTr, gIs, gVar, startE, S.rd, R.dat, tyD, subT, g2, gN, gCons, gNil, gC, gNx, gRet, gAndV, gNotV, gCall, toA, frR, rF, fin, fI0, len_tup, eq_int, gDCons, gDNil, toD, toS, gSet, ix0, ix1, ix2, gLst])]
      obtain ⟨a, ha⟩ : ∃ a, n / 105 % (2 + n / 5 % 7) = a := ⟨_, rfl⟩
      have a0 : 0 ≤ a := ha ▸ Int.emod_nonneg _ (by omega)
      have a1 : a < 2 + n / 5 % 7 := ha ▸ Int.emod_lt_of_pos _ hz
      obtain ⟨z, hz2⟩ : ∃ z, 2 + n / 5 % 7 = z := ⟨_, rfl⟩
      have z1 : 2 ≤ z ∧ z ≤ 8 := by omega
      rw [ha, hz2]
      rw [hz2] at a1
      refine ⟨sortS ((List.range m).map (nmK3 b a.toNat (z - 1 - a).toNat (n / 840))), ?_, good3 hb (by omega) (by omega) hm⟩
      have ra := t_rep ⟨#[b]⟩ a (by omega) (by omega) lb
      have rr := t_rep ⟨#[b]⟩ (z - 1 - a) (by omega) (by omega) lb
      have la : (repS ⟨#[b]⟩ a.toNat).length ≤ 8 := by
        rw [len_cps, cps_rep, List.length_replicate]; omega
      have lr : (repS ⟨#[b]⟩ (z - 1 - a).toNat).length ≤ 8 := by
        rw [len_cps, cps_rep, List.length_replicate]; omega
      obtain ⟨e, h1, x, y, rfl⟩ := loop_inv (t := tgName 10) (u := (gSeq (gSet 11 (g2 fIx (gC (.str "abcdefghijklmnopqrstuvwxyz")) (g2 fMod (g2 fPlus (g2 fDiv (gVar 2) (gC (.int 840))) (g2 fTimes (gC (.int 5)) (gVar 10))) (gC (.int 26)))))
 (gApp 9 (g2 fPlus (g2 fPlus (g2 fTimes (gVar 3) (gVar 8)) (gVar 11)) (g2 fTimes (gVar 3) (g2 fSub (g2 fSub (gVar 4) (gC (.int 1))) (gVar 8))))))) (fun k env => ∃ x y, env = eN c m n (.d (.str ⟨#[b]⟩)) z none none none (some (.d (.int a))) (some (.own (((List.range k).map (nmK3 b a.toNat (z - 1 - a).toNat (n / 840))).map .str))) x y) m (fun k hk env ⟨x, y, he⟩ => by
        subst he
        refine ⟨_, _, rfl, ?_, some (.d (.int k)), some (.d (.str ⟨#[97 + ((n / 840 + 5 * (k : Int)) % 26).toNat]⟩)), rfl⟩
        · have ea := ix_abc ((n / 840 + 5 * (k : Int)) % 26) (by omega) (by omega)
          rw [seq_nx (e := eN c m n (.d (.str ⟨#[b]⟩)) z none none none (some (.d (.int a))) (some (.own (((List.range k).map (nmK3 b a.toNat (z - 1 - a).toNat (n / 840))).map .str))) (some (.d (.int k))) (some (.d (.str ⟨#[97 + ((n / 840 + 5 * (k : Int)) % 26).toNat]⟩)))) (by simp [gSeq, gIfS, gOr, gAnd, gNot, gTr, gIs, gVar, startE, S.rd, R.dat, tyD, subT, g2, gN, gCons, gNil, gC, gNx, gRet, gAndV, gNotV, gCall, toA, frR, rF, fin, fI0, len_tup, eq_int, gDCons, gDNil, toD, toS, gSet, ix0, ix1, ix2, tgName, t_plus, t_timesL, t_div, t_mod, ea])]
          have e1 := t_str (repS ⟨#[b]⟩ a.toNat) ⟨#[97 + ((n / 840 + 5 * (k : Int)) % 26).toNat]⟩ (by show _ + 1 ≤ _; omega)
          have e2 := t_str (repS ⟨#[b]⟩ a.toNat ++ ⟨#[97 + ((n / 840 + 5 * (k : Int)) % 26).toNat]⟩) (repS ⟨#[b]⟩ (z - 1 - a).toNat) (by
            rw [len_cps, cps_app, List.length_append, ← len_cps]
            simp
            omega)
          have hk' : k < sizeLine := Nat.lt_of_lt_of_le (by omega : k < 1000) (by decide)
          simp [gSeq, gIfS, gOr, gAnd, gNot, gTr, gIs, gVar, startE, S.rd, R.dat, tyD, subT, g2, gN, gCons, gNil, gC, gNx, gRet, gAndV, gNotV, gCall, toA, frR, rF, fin, fI0, len_tup, eq_int, gDCons, gDNil, toD, toS, gSet, ix0, ix1, ix2, gApp, ra, rr, e1, e2, t_sub, hk', List.range_succ, nmK3]) (eN c m n (.d (.str ⟨#[b]⟩)) z none none none (some (.d (.int a))) (some (.own [])) none none) ⟨none, none, rfl⟩
      rw [seq_nx ((for_eq (rngI (m := m) (by omega) (by simp [gSeq, gIfS, gOr, gAnd, gNot, gTr, gIs, gVar, startE, S.rd, R.dat, tyD, subT, g2, gN, gCons, gNil, gC, gNx, gRet, gAndV, gNotV, gCall, toA, frR, rF, fin, fI0, len_tup, eq_int, gDCons, gDNil, toD, toS, gSet, ix0, ix1, ix2]))).trans h1)]
      have hs := sorted_strs .own ((List.range m).map (nmK3 b a.toNat (z - 1 - a).toNat (n / 840))) (by simp; omega)
      rw [ret_eq (n1_eq (r := .l .own (((List.range m).map (nmK3 b a.toNat (z - 1 - a).toNat (n / 840))).map .str)) rfl hs) rfl]
      rfl
end K01
set_option Elab.async false
set_option linter.all false
set_option maxRecDepth 100000
set_option maxHeartbeats 4000000
namespace K01
open PySem DL
/-! ### worlds -/
abbrev dN (k : Nat) : D := .int k
abbrev dP (p : Nat × Nat) : D := .tup [.int p.1, .int p.2]
def pLt (p q : Nat × Nat) : Prop := p.1 < q.1 ∨ (p.1 = q.1 ∧ p.2 < q.2)
def PtsOk (m : Nat) (xs : List Nat) : Prop := xs.length ≤ 8 ∧ xs.Pairwise (· < ·) ∧ ∀ x ∈ xs, x < m
def PrsOk (m : Nat) (ps : List (Nat × Nat)) : Prop := ps.length ≤ 64 ∧ ps.Pairwise pLt ∧ ∀ p ∈ ps, p.1 < m ∧ p.2 < m
def Tng (ss : List Str) : Prop := ss.length ≤ 3 ∧ (∀ s ∈ ss, nmS s = true) ∧ ss.Pairwise fun a b => a.cps.toList < b.cps.toList
structure Wd where
  m : Nat
  ms : List (Str × List Nat)
  ar : List (Str × List (Nat × Nat))
abbrev rowM (r : Str × List Nat) : D := .tup [.str r.1, .tup (r.2.map dN)]
abbrev rowA (r : Str × List (Nat × Nat)) : D := .tup [.str r.1, .tup (r.2.map dP)]
def Wd.d (w : Wd) : D := .tup [.int w.m, .tup (w.ms.map rowM), .tup (w.ar.map rowA)]
structure Wd.Ok (w : Wd) : Prop where
  lo : 1 ≤ w.m
  hi : w.m ≤ 8
  mn : Tng (w.ms.map Prod.fst)
  an : Tng (w.ar.map Prod.fst)
  mp : ∀ r ∈ w.ms, PtsOk w.m r.2
  ap : ∀ r ∈ w.ar, PrsOk w.m r.2
/-! ### points and pairs by bits -/
end K01
set_option Elab.async false
set_option linter.all false
set_option maxRecDepth 100000
set_option maxHeartbeats 4000000
namespace K01
open PySem DL
theorem cut_map {α : Type} (f : α → D) (xs : List α) (l u : Option Int) : ∃ ys : List α, cutD (xs.map f) l u = ys.map f ∧ ys = (xs.drop (HT.sIx xs.length 0 l)).take (HT.sIx xs.length xs.length u - HT.sIx xs.length 0 l) := by
  refine ⟨_, ?_, rfl⟩
  unfold cutD
  rw [List.length_map, List.map_take, List.map_drop]
theorem cut_sub {α : Type} (xs : List α) (i j : Nat) : ((xs.drop i).take j).Sublist xs := (List.take_sublist _ _).trans (List.drop_sublist _ _)
theorem Good.sub {m : Nat} {ss ys : List Str} (h : Good m ss) (s : ys.Sublist ss) (hl : ys.length ≤ 3) : Tng ys := ⟨hl, fun x hx => h.2.1 x (s.subset hx), h.2.2.sublist s⟩
theorem sl_own (xs : List D) (l u : Option Int) : fSl2 (.l .own xs) l u = .ok (.l .fresh (cutD xs l u)) := rfl
theorem tuple_l (m : Md) (xs : List D) : fTuple [.l m xs] = .ok (.d (.tup xs)) := rfl
theorem E_tongue (c : Int) : ∃ A B : List Str, F_law_tongue [.d (.int c)] = .ok (.d (.tup [.tup (A.map .str), .tup (B.map .str)])) ∧ Tng A ∧ Tng B := by
  obtain ⟨ss, hs, hg⟩ := E_names c 6 (Nat.le_refl _)
  have hs : F_law_names [.d (.int c), .d (.int 6)] = .ok (.l .fresh (ss.map .str)) := hs
  unfold F_law_tongue g_law_tongue
  generalize F_law_names = F_names at hs ⊢
  show ∃ A B : List Str, fin (gSeq _ _ [some (.d (.int c)), none, none, none]) = _ ∧ _
  obtain ⟨n, hn⟩ : ∃ n, c * 523 % 10007 = n := ⟨_, rfl⟩
  have n0 : 0 ≤ n := hn ▸ Int.emod_nonneg _ (by decide)
  rw [seq_nx (e := [some (.d (.int c)), some (.own (ss.map .str)), none, none]) (by simp [gSeq, gIfS, gOr, gAnd, gNot, gTr, gIs, gVar, startE, S.rd, R.dat, tyD, subT, g2, gN, gCons, gNil, gC, gNx, gRet, gAndV, gNotV, gCall, toA, frR, rF, fin, fI0, len_tup, eq_int, gDCons, gDNil, toD, toS, gSet, ix0, ix1, ix2, hs])]
  rw [seq_nx (e := [some (.d (.int c)), some (.own (ss.map .str)), some (.d (.int n)), none]) (by simp [gSeq, gIfS, gOr, gAnd, gNot, gTr, gIs, gVar, startE, S.rd, R.dat, tyD, subT, g2, gN, gCons, gNil, gC, gNx, gRet, gAndV, gNotV, gCall, toA, frR, rF, fin, fI0, len_tup, eq_int, gDCons, gDNil, toD, toS, gSet, ix0, ix1, ix2, t_times, t_mod, hn])]
  rw [seq_nx (e := [some (.d (.int c)), some (.own (ss.map .str)), some (.d (.int n)), some (.d (.int (n / 16 % 3)))]) (by simp [gSeq, gIfS, gOr, gAnd, gNot, gTr, gIs, gVar, startE, S.rd, R.dat, tyD, subT, g2, gN, gCons, gNil, gC, gNx, gRet, gAndV, gNotV, gCall, toA, frR, rF, fin, fI0, len_tup, eq_int, gDCons, gDNil, toD, toS, gSet, ix0, ix1, ix2, t_div, t_mod])]
  obtain ⟨A, ha, ha'⟩ := cut_map D.str ss none (some (n % 4))
  obtain ⟨B, hb, hb'⟩ := cut_map D.str ss (some (n / 16 % 3)) (some (n / 16 % 3 + n / 4 % 4))
  refine ⟨A, B, ?_, hg.sub (ha' ▸ cut_sub _ _ _) ?_, hg.sub (hb' ▸ cut_sub _ _ _) ?_⟩
  · have h2z : 2 ≤ sizeLine := by decide
    simp [gSeq, gIfS, gOr, gAnd, gNot, gTr, gIs, gVar, startE, S.rd, R.dat, tyD, subT, g2, gN, gCons, gNil, gC, gNx, gRet, gAndV, gNotV, gCall, toA, frR, rF, fin, fI0, len_tup, eq_int, gDCons, gDNil, toD, toS, gSet, ix0, ix1, ix2, gTup, gSl, gNo, gPt, t_mod, t_div, t_plus, sl_own, tuple_l, ha, hb, h2z]
  · rw [ha', List.length_take, HT.sIx_none]
    have e : n % 4 = ((n % 4).toNat : Int) := by omega
    rw [e, HT.sIx_nat]
    omega
  · rw [hb', List.length_take]
    have e : n / 16 % 3 = ((n / 16 % 3).toNat : Int) := by omega
    have e2 : n / 16 % 3 + n / 4 % 4 = ((n / 16 % 3 + n / 4 % 4).toNat : Int) := by omega
    rw [e2, HT.sIx_nat, e, HT.sIx_nat, hg.1]
    omega
end K01
set_option Elab.async false
set_option linter.all false
set_option maxRecDepth 100000
set_option maxHeartbeats 4000000
namespace K01
open PySem DL
theorem nmS_len {x : Str} (h : nmS x = true) : x.length ≤ 8 := by
  unfold nmS at h
  rw [Bool.and_eq_true, Bool.and_eq_true] at h
  exact of_decide_eq_true h.2.1
end K01
set_option Elab.async false
set_option linter.all false
set_option maxRecDepth 100000
set_option maxHeartbeats 4000000
namespace K01
open PySem DL
/-! ### what comes is small -/
def DE (env : Ev) (g : G R) : Prop := ∃ d, g env = .ok (.d d) ∧ Sm d
def SmE (env : Ev) (g : G R) : Prop := ∃ r d, g env = .ok r ∧ toD r = .ok d ∧ Sm d
def TupE (env : Ev) (g : G R) (n : Nat) : Prop := ∃ xs, g env = .ok (.d (.tup xs)) ∧ xs.length ≤ n ∧ ∀ d ∈ xs, Sm d
section
variable {env : Ev} {g h gi : G R} {gs : G (List D)} {n m : Nat} {i : Int}
theorem DE.e (h : DE env g) : SmE env g := let ⟨d, h1, h2⟩ := h; ⟨.d d, d, h1, rfl, h2⟩
theorem TupE.d (h : TupE env g n) (hn : n ≤ 1000) : DE env g := let ⟨xs, h1, h2, h3⟩ := h; ⟨_, h1, .tup (Nat.le_trans h2 hn) h3⟩
theorem at_mem {xs : List D} (h0 : 0 ≤ i) (hi : i < xs.length) : ∃ d ∈ xs, ∀ m, fIx (.l m xs) (.d (.int i)) = .ok (.d d) := by
  have hk : i.toNat < xs.length := by omega
  refine ⟨xs[i.toNat], List.getElem_mem _, fun m => ?_⟩
  have e : i = (i.toNat : Int) := by omega
  have q := fIx_l (m := m) (List.getElem?_eq_getElem hk)
  rw [← e] at q
  exact q
end
end K01
set_option Elab.async false
set_option linter.all false
set_option maxRecDepth 100000
set_option maxHeartbeats 4000000
namespace K01
open PySem DL
end K01
set_option Elab.async false
set_option linter.all false
set_option maxRecDepth 100000
set_option maxHeartbeats 4000000
namespace K01
open PySem DL
theorem loop_list {t : GT} {u : G O} (I : Ev → Prop) : ∀ (ds : List D) (h : ∀ d ∈ ds, ∀ env, I env → ∃ e1 e2, t d env = .ok e1 ∧ u e1 = .ok (.nx e2) ∧ I e2) (env : Ev) (h0 : I env), ∃ e, loopG t u ds env = .ok (.nx e) ∧ I e
  | [], _, env, h0 => ⟨env, rfl, h0⟩
  | d :: r, h, env, h0 => by
    obtain ⟨e1, e2, h1, h2, h3⟩ := h d List.mem_cons_self env h0
    obtain ⟨e, h4, h5⟩ := loop_list I r (fun x hx => h x (List.mem_cons_of_mem _ hx)) e2 h3
    refine ⟨e, ?_, h5⟩
    unfold loopG
    rw [h1, bind_ok, h2, bind_ok]
    exact h4
/-! ### texts -/
end K01
set_option Elab.async false
set_option linter.all false
set_option maxRecDepth 100000
set_option maxHeartbeats 4000000
namespace K01
open PySem DL
theorem reps_ints {K : PySem.W.Frag} {J : L2.Hp} : ∀ (ns : List Int), Reps K J (ns.map D.int) (ns.map L2.V.int)
  | [] => .nil
  | n :: r => .cons (.int n) (reps_ints r)
theorem eq_bl (a b : Bool) : fEq true (.d (.bl a)) (.d (.bl b)) = .ok (.d (.bl (!(a == b)))) := rfl
end K01
set_option Elab.async false
set_option linter.all false
set_option maxRecDepth 100000
set_option maxHeartbeats 4000000
namespace K11
open PySem DL
def Nis_letter : List Str := ["thing"]
def gis_letter : G O := (gRet (gAndV (gIs "str" (gVar 0)) (gAndV (g2 (fEq false) (gN fLen (gCons (gVar 0) gNil)) (gC (.int 1))) (g2 (fInS false) (gVar 0) (gC (.str "abcdefghijklmnopqrstuvwxyz"))))))
def Fis_letter (as : List S) : M R := fin (gis_letter (startE Nis_letter as))
def Nletters_at : List Str := ["saying"]
def gletters_at : G O := (gSeq (gIfS (gTr (g2 (fEq false) (g2 fIx (gVar 0) (gC (.int 0))) (gC (.str "row")))) (gRet (gN fList (gCons (g2 fIx (gVar 0) (gC (.int 2))) gNil))) gNx)
 (gRet (gComp 1 [0] (gItQ (gCGet [("mark", (.tup [(.int 2)])), ("arrow", (.tup [(.int 2), (.int 3)])), ("same", (.tup [(.int 1), (.int 2)])), ("not", (.tup [])), ("and", (.tup [])), ("or", (.tup [])), ("some", (.tup [(.int 1)])), ("every", (.tup [(.int 1)])), ("least", (.tup [(.int 2)]))] (g2 fIx (gVar 0) (gC (.int 0))))) (tgName 0) gTt (g2 fIx (gVar 1) (gVar 0)))))
def Fletters_at (as : List S) : M R := fin (gletters_at (startE Nletters_at as))
def Nwithin : List Str := ["saying", "word"]
def gwithin : G O := (gSeq (gSet 1 (g2 fIx (gVar 0) (gC (.int 0))))
 (gSeq (gIfS (gTr (g2 (fIn false) (gVar 1) (gTup (gDCons (gC (.str "and")) (gDCons (gC (.str "or")) gDNil))))) (gRet (g2 fIx (gVar 0) (gC (.int 1)))) gNx)
 (gSeq (gIfS (gTr (gCIn false [("not", (.int 1)), ("some", (.int 2)), ("every", (.int 2)), ("least", (.int 3))] (gVar 1))) (gRet (gTup (gDCons (g2 fIx (gVar 0) (gCGet [("not", (.int 1)), ("some", (.int 2)), ("every", (.int 2)), ("least", (.int 3))] (gVar 1))) gDNil))) gNx)
 (gRet (gTup gDNil)))))
def Fwithin (as : List S) : M R := fin (gwithin (startE Nwithin as))
def Nis_well_made : List Str := ["thing", "word"]
def gis_well_made : G O := (gSeq (gIfS (gOr (gNot (gTr (gIs "tuple" (gVar 0)))) (gOr (gTr (g2 (fEq false) (gN fLen (gCons (gVar 0) gNil)) (gC (.int 0)))) (gNot (gTr (gIs "str" (g2 fIx (gVar 0) (gC (.int 0)))))))) (gRet (gC (.bl false))) gNx)
 (gSeq (gSet 1 (g2 fIx (gVar 0) (gC (.int 0))))
 (gSeq (gIfS (gOr (gTr (gCIn true [("mark", (.int 3)), ("arrow", (.int 4)), ("same", (.int 3)), ("not", (.int 2)), ("and", (.int 2)), ("or", (.int 2)), ("some", (.int 3)), ("every", (.int 3)), ("least", (.int 4))] (gVar 1))) (gTr (g2 (fEq true) (gN fLen (gCons (gVar 0) gNil)) (gCGet [("mark", (.int 3)), ("arrow", (.int 4)), ("same", (.int 3)), ("not", (.int 2)), ("and", (.int 2)), ("or", (.int 2)), ("some", (.int 3)), ("every", (.int 3)), ("least", (.int 4))] (gVar 1))))) (gRet (gC (.bl false))) gNx)
 (gSeq (gIfS (gNot (gTr (gN fAll (gCons (gComp 1 [] (gItQ (gN (gCall 1 K11.Fletters_at) (gCons (gVar 0) gNil))) (tgName 0) gTt (gN (gCall 1 K11.Fis_letter) (gCons (gVar 0) gNil))) gNil)))) (gRet (gC (.bl false))) gNx)
 (gSeq (gIfS (gTr (g2 (fIn false) (gVar 1) (gTup (gDCons (gC (.str "mark")) (gDCons (gC (.str "arrow")) gDNil))))) (gRet (gN (gCall 1 K01.Fis_name) (gCons (g2 fIx (gVar 0) (gC (.int 1))) gNil))) gNx)
 (gSeq (gIfS (gTr (g2 (fIn false) (gVar 1) (gTup (gDCons (gC (.str "and")) (gDCons (gC (.str "or")) gDNil))))) (gRet (gAndV (gIs "tuple" (g2 fIx (gVar 0) (gC (.int 1)))) (g2 (fEq true) (gN fLen (gCons (g2 fIx (gVar 0) (gC (.int 1))) gNil)) (gC (.int 1))))) gNx)
 (gSeq (gIfS (gTr (g2 (fEq false) (gVar 1) (gC (.str "least")))) (gRet (gAndV (gN (gCall 1 K01.Fis_whole) (gCons (g2 fIx (gVar 0) (gC (.int 1))) gNil)) (gCh (fun i j => decide (i ≤ j)) (fun i j => decide (i ≤ j)) (gC (.int 1)) (g2 fIx (gVar 0) (gC (.int 1))) (gC (.int 9))))) gNx)
 (gRet (gC (.bl true))))))))))
def Fis_well_made (as : List S) : M R := fin (gis_well_made (startE Nis_well_made as))
def Nis_saying : List Str := ["thing", "left", "one"]
def gis_saying : G O := (gSeq (gSet 1 (gLst (gDCons (gVar 0) gDNil)))
 (gSeq (gWhile 900 (gTru (gVar 1)) (gSeq (gPop 2 1)
 (gSeq (gIfS (gNot (gTr (gN (gCall 1 K11.Fis_well_made) (gCons (gVar 2) gNil)))) (gRet (gC (.bl false))) gNx)
 (gExt 1 (gN (gCall 1 K11.Fwithin) (gCons (gVar 2) gNil))))))
 (gRet (gC (.bl true)))))
def Fis_saying (as : List S) : M R := fin (gis_saying (startE Nis_saying as))
def N_law_letters : List Str := ["_law_cell_here"]
def g_law_letters : G O := (gRet (gComp 1 [0] (gRng1 (gCons (gC (.int 4)) gNil)) (tgName 0) gTt (g2 fIx (gC (.str "abcdefghijklmnopqrstuvwxyz")) (g2 fMod (g2 fPlus (gVar 1) (g2 fTimes (gC (.int 7)) (gVar 0))) (gC (.int 26))))))
def F_law_letters (as : List S) : M R := fin (g_law_letters (startE N_law_letters as))
def N_law_leaf : List Str := ["_law_number", "_law_tongue_here", "_law_letters_here", "_law_one", "_law_other"]
def g_law_leaf : G O := (gSeq (gSet 3 (g2 fIx (gVar 2) (g2 fMod (g2 fDiv (gVar 0) (gC (.int 3))) (gC (.int 4)))))
 (gSeq (gSet 4 (g2 fIx (gVar 2) (g2 fMod (g2 fDiv (gVar 0) (gC (.int 12))) (gC (.int 4)))))
 (gSeq (gIfS (gAnd (gTr (g2 (fEq false) (g2 fMod (gVar 0) (gC (.int 3))) (gC (.int 0)))) (gTr (g2 (fEq true) (g2 fIx (gVar 1) (gC (.int 0))) (gTup gDNil)))) (gRet (gTup (gDCons (gC (.str "mark")) (gDCons (g2 fIx (g2 fIx (gVar 1) (gC (.int 0))) (g2 fMod (g2 fDiv (gVar 0) (gC (.int 48))) (gN fLen (gCons (g2 fIx (gVar 1) (gC (.int 0))) gNil)))) (gDCons (gVar 3) gDNil))))) gNx)
 (gSeq (gIfS (gAnd (gTr (g2 (fEq false) (g2 fMod (gVar 0) (gC (.int 3))) (gC (.int 1)))) (gTr (g2 (fEq true) (g2 fIx (gVar 1) (gC (.int 1))) (gTup gDNil)))) (gRet (gTup (gDCons (gC (.str "arrow")) (gDCons (g2 fIx (g2 fIx (gVar 1) (gC (.int 1))) (g2 fMod (g2 fDiv (gVar 0) (gC (.int 48))) (gN fLen (gCons (g2 fIx (gVar 1) (gC (.int 1))) gNil)))) (gDCons (gVar 3) (gDCons (gVar 4) gDNil)))))) gNx)
 (gRet (gTup (gDCons (gC (.str "same")) (gDCons (gVar 3) (gDCons (gVar 4) gDNil)))))))))
def F_law_leaf (as : List S) : M R := fin (g_law_leaf (startE N_law_leaf as))
def N_law_wrapped : List Str := ["_law_number", "_law_letters_here", "_law_top", "_law_saying", "_law_deep", "_law_high", "_law_letter_here"]
def g_law_wrapped : G O := (gSeq (gAsg (tgTup 3 (tgCons (tgName 3) (tgCons (tgName 4) (tgCons (tgName 5) tgNil)))) (gVar 2))
 (gSeq (gSet 6 (g2 fIx (gVar 1) (g2 fMod (g2 fDiv (gVar 0) (gC (.int 5))) (gC (.int 4)))))
 (gSeq (gIfS (gOr (gTr (g2 (fEq false) (g2 fMod (gVar 0) (gC (.int 5))) (gC (.int 0)))) (gTr (g2 (fI0 fun i j => .bl (decide (j < i))) (gVar 4) (gC (.int 2))))) (gRet (gTup (gDCons (gTup (gDCons (gC (.str "not")) (gDCons (gVar 3) gDNil))) (gDCons (gVar 4) (gDCons (g2 fPlus (gVar 5) (gC (.int 1))) gDNil))))) gNx)
 (gSeq (gIfS (gTr (g2 (fEq false) (g2 fMod (gVar 0) (gC (.int 5))) (gC (.int 4)))) (gRet (gTup (gDCons (gTup (gDCons (gC (.str "least")) (gDCons (g2 fPlus (gC (.int 1)) (g2 fMod (g2 fDiv (gVar 0) (gC (.int 20))) (g2 fIx (gLst (gDCons (gC (.int 9)) (gDCons (gC (.int 3)) gDNil))) (g2 fMod (g2 fDiv (gVar 0) (gC (.int 200))) (gC (.int 2)))))) (gDCons (gVar 6) (gDCons (gVar 3) gDNil))))) (gDCons (g2 fPlus (gVar 4) (gC (.int 1))) (gDCons (g2 fPlus (gVar 5) (gC (.int 1))) gDNil))))) gNx)
 (gRet (gTup (gDCons (gTup (gDCons (g2 fIx (gLst (gDCons (gC (.str "some")) (gDCons (gC (.str "every")) gDNil))) (g2 fMod (gVar 0) (gC (.int 2)))) (gDCons (gVar 6) (gDCons (gVar 3) gDNil)))) (gDCons (g2 fPlus (gVar 4) (gC (.int 1))) (gDCons (g2 fPlus (gVar 5) (gC (.int 1))) gDNil)))))))))
def F_law_wrapped (as : List S) : M R := fin (g_law_wrapped (startE N_law_wrapped as))
def N_law_joined : List Str := ["_law_number", "_law_some", "_law_parts", "_law_deep", "_law_high"]
def g_law_joined : G O := (gSeq (gSet 2 (gN fTuple (gCons (gComp 1 [] (gItQ (gVar 1)) (tgName 0) gTt (g2 fIx (gVar 0) (gC (.int 0)))) gNil)))
 (gSeq (gSet 3 (gMaxD 0 (gComp 1 [] (gItQ (gVar 1)) (tgName 0) gTt (g2 fIx (gVar 0) (gC (.int 1))))))
 (gSeq (gSet 4 (gMaxD 0 (gComp 1 [] (gItQ (gVar 1)) (tgName 0) gTt (g2 fIx (gVar 0) (gC (.int 2))))))
 (gSeq (gIfS (gTr (g2 (fEq false) (gN fLen (gCons (gVar 1) gNil)) (gC (.int 1)))) (gRet (g2 fIx (gVar 1) (gC (.int 0)))) gNx)
 (gRet (gTup (gDCons (gTup (gDCons (g2 fIx (gLst (gDCons (gC (.str "and")) (gDCons (gC (.str "or")) gDNil))) (g2 fMod (gVar 0) (gC (.int 2)))) (gDCons (gVar 2) gDNil))) (gDCons (gVar 3) (gDCons (g2 fPlus (gVar 4) (gC (.int 1))) gDNil)))))))))
def F_law_joined (as : List S) : M R := fin (g_law_joined (startE N_law_joined as))
def N_law_grown : List Str := ["_law_cells", "_law_tongue_here", "_law_letters_here", "_law_stack", "_law_k", "_law_number", "_law_way", "_law_rest", "_law_many"]
def g_law_grown : G O := (gSeq (gSet 3 (gLst gDNil))
 (gSeq (gFor (gRng1 (gCons (gN fLen (gCons (gVar 0) gNil)) gNil)) (tgName 4) (gSeq (gSet 5 (g2 fMod (g2 fTimes (g2 fPlus (g2 fMod (g2 fIx (gVar 0) (gVar 4)) (g2 fPow (gC (.int 2)) (gC (.int 64)))) (g2 fTimes (gC (.int 613)) (gVar 4))) (gC (.int 71993))) (gC (.int 998244353))))
 (gSeq (gSet 6 (g2 fMod (gVar 5) (gC (.int 7))))
 (gSeq (gSet 7 (g2 fDiv (gVar 5) (gC (.int 7))))
 (gIfS (gOr (gTr (g2 (fEq false) (gVar 3) (gLst gDNil))) (gOr (gTr (g2 (fI0 fun i j => .bl (decide (i < j))) (gVar 6) (gC (.int 3)))) (gTr (g2 (fI0 fun i j => .bl (decide (j < i))) (g2 fIx (g2 fIx (gVar 3) (gNeg (gC (.int 1)))) (gC (.int 2))) (gC (.int 11)))))) (gApp 3 (gTup (gDCons (gN (gCall 3 K11.F_law_leaf) (gCons (gVar 7) (gCons (gVar 1) (gCons (gVar 2) gNil)))) (gDCons (gC (.int 0)) (gDCons (gC (.int 0)) gDNil))))) (gIfS (gAnd (gTr (g2 (fEq false) (gVar 6) (gC (.int 3)))) (gTr (g2 (fI0 fun i j => .bl (decide (j < i))) (gN fLen (gCons (gVar 3) gNil)) (gC (.int 1))))) (gSeq (gSet 8 (g2 fPlus (gC (.int 2)) (g2 fMod (g2 fDiv (gVar 7) (gC (.int 2))) (gC (.int 2)))))
 (gSet 3 (g2 fPlus (gSl fSl2 (gVar 3) gNo (gPt (gNeg (gVar 8)))) (gLst (gDCons (gN (gCall 2 K11.F_law_joined) (gCons (gVar 7) (gCons (gSl fSl2 (gVar 3) (gPt (gNeg (gVar 8))) gNo) gNil))) gDNil))))) (gIfS (gAnd (gTr (g2 (fEq false) (gVar 6) (gC (.int 4)))) (gTr (g2 (fEq false) (g2 fMod (gVar 7) (gC (.int 4))) (gC (.int 0))))) (gApp 3 (gTup (gDCons (gTup (gDCons (g2 fIx (gLst (gDCons (gC (.str "and")) (gDCons (gC (.str "or")) gDNil))) (g2 fMod (g2 fDiv (gVar 7) (gC (.int 4))) (gC (.int 2)))) (gDCons (gTup gDNil) gDNil))) (gDCons (gC (.int 0)) (gDCons (gC (.int 0)) gDNil))))) (gSet 3 (g2 fPlus (gSl fSl2 (gVar 3) gNo (gPt (gNeg (gC (.int 1))))) (gLst (gDCons (gN (gCall 3 K11.F_law_wrapped) (gCons (gVar 7) (gCons (gVar 2) (gCons (g2 fIx (gVar 3) (gNeg (gC (.int 1)))) gNil)))) gDNil)))))))))))
 (gRet (g2 fIx (gN (gCall 2 K11.F_law_joined) (gCons (gN fLen (gCons (gVar 0) gNil)) (gCons (gVar 3) gNil))) (gC (.int 0))))))
def F_law_grown (as : List S) : M R := fin (g_law_grown (startE N_law_grown as))
def N_law_judged : List Str := ["_law_thing"]
def g_law_judged (Fr : List S → M R) : G O := (gSeq (gIfS (gOr (gNot (gTr (gIs "tuple" (gVar 0)))) (gTr (g2 (fI0 fun i j => .bl (decide (i < j))) (gN fLen (gCons (gVar 0) gNil)) (gC (.int 2))))) (gRet (gC (.bl false))) gNx)
 (gSeq (gIfS (gTr (g2 (fEq false) (g2 fIx (gVar 0) (gC (.int 0))) (gC (.str "mark")))) (gRet (gAndV (g2 (fEq false) (gN fLen (gCons (gVar 0) gNil)) (gC (.int 3))) (gAndV (gN (gCall 1 K01.F_law_is_name) (gCons (g2 fIx (gVar 0) (gC (.int 1))) gNil)) (gN (gCall 1 K11.Fis_letter) (gCons (g2 fIx (gVar 0) (gC (.int 2))) gNil))))) gNx)
 (gSeq (gIfS (gTr (g2 (fEq false) (g2 fIx (gVar 0) (gC (.int 0))) (gC (.str "arrow")))) (gRet (gAndV (g2 (fEq false) (gN fLen (gCons (gVar 0) gNil)) (gC (.int 4))) (gAndV (gN (gCall 1 K01.F_law_is_name) (gCons (g2 fIx (gVar 0) (gC (.int 1))) gNil)) (gAndV (gN (gCall 1 K11.Fis_letter) (gCons (g2 fIx (gVar 0) (gC (.int 2))) gNil)) (gN (gCall 1 K11.Fis_letter) (gCons (g2 fIx (gVar 0) (gC (.int 3))) gNil)))))) gNx)
 (gSeq (gIfS (gTr (g2 (fEq false) (g2 fIx (gVar 0) (gC (.int 0))) (gC (.str "same")))) (gRet (gAndV (g2 (fEq false) (gN fLen (gCons (gVar 0) gNil)) (gC (.int 3))) (gAndV (gN (gCall 1 K11.Fis_letter) (gCons (g2 fIx (gVar 0) (gC (.int 1))) gNil)) (gN (gCall 1 K11.Fis_letter) (gCons (g2 fIx (gVar 0) (gC (.int 2))) gNil))))) gNx)
 (gSeq (gIfS (gTr (g2 (fEq false) (g2 fIx (gVar 0) (gC (.int 0))) (gC (.str "not")))) (gRet (gAndV (g2 (fEq false) (gN fLen (gCons (gVar 0) gNil)) (gC (.int 2))) (gN (gCall 1 Fr) (gCons (g2 fIx (gVar 0) (gC (.int 1))) gNil)))) gNx)
 (gSeq (gIfS (gOr (gTr (g2 (fEq false) (g2 fIx (gVar 0) (gC (.int 0))) (gC (.str "and")))) (gTr (g2 (fEq false) (g2 fIx (gVar 0) (gC (.int 0))) (gC (.str "or"))))) (gSeq (gIfS (gOr (gTr (g2 (fEq true) (gN fLen (gCons (gVar 0) gNil)) (gC (.int 2)))) (gOr (gNot (gTr (gIs "tuple" (g2 fIx (gVar 0) (gC (.int 1)))))) (gTr (g2 (fEq false) (gN fLen (gCons (g2 fIx (gVar 0) (gC (.int 1))) gNil)) (gC (.int 1)))))) (gRet (gC (.bl false))) gNx)
 (gRet (gN fAll (gCons (gComp 1 [] (gItQ (g2 fIx (gVar 0) (gC (.int 1)))) (tgName 0) gTt (gN (gCall 1 Fr) (gCons (gVar 0) gNil))) gNil)))) gNx)
 (gSeq (gIfS (gOr (gTr (g2 (fEq false) (g2 fIx (gVar 0) (gC (.int 0))) (gC (.str "some")))) (gTr (g2 (fEq false) (g2 fIx (gVar 0) (gC (.int 0))) (gC (.str "every"))))) (gRet (gAndV (g2 (fEq false) (gN fLen (gCons (gVar 0) gNil)) (gC (.int 3))) (gAndV (gN (gCall 1 K11.Fis_letter) (gCons (g2 fIx (gVar 0) (gC (.int 1))) gNil)) (gN (gCall 1 Fr) (gCons (g2 fIx (gVar 0) (gC (.int 2))) gNil))))) gNx)
 (gSeq (gIfS (gOr (gTr (g2 (fEq true) (g2 fIx (gVar 0) (gC (.int 0))) (gC (.str "least")))) (gOr (gTr (g2 (fEq true) (gN fLen (gCons (gVar 0) gNil)) (gC (.int 4)))) (gOr (gNot (gTr (gIs "int" (g2 fIx (gVar 0) (gC (.int 1)))))) (gTr (gIs "bool" (g2 fIx (gVar 0) (gC (.int 1)))))))) (gRet (gC (.bl false))) gNx)
 (gRet (gAndV (g2 (fI0 fun i j => .bl (decide (i ≤ j))) (gC (.int 1)) (g2 fIx (gVar 0) (gC (.int 1)))) (gAndV (g2 (fI0 fun i j => .bl (decide (i ≤ j))) (g2 fIx (gVar 0) (gC (.int 1))) (gC (.int 9))) (gAndV (gN (gCall 1 K11.Fis_letter) (gCons (g2 fIx (gVar 0) (gC (.int 2))) gNil)) (gN (gCall 1 Fr) (gCons (g2 fIx (gVar 0) (gC (.int 3))) gNil))))))))))))))
def F_law_judged : Nat → List S → M R
  | 0, _ => .bad
  | k + 1, as => fin (g_law_judged (F_law_judged k) (startE N_law_judged as))
def N_law_turned : List Str := ["_law_saying", "_law_number", "_law_odd", "_law_some", "_law_found", "_law_way"]
def g_law_turned : G O := (gSeq (gSet 2 (g2 fIx (gLst (gDCons (gC (.str "")) (gDCons (gC (.str "ab")) (gDCons (gC (.str "A")) (gDCons (gC (.str "1")) (gDCons (gC (.int 1)) (gDCons (gC .non) (gDCons (gC (.bl true)) (gDCons (gC (.str "x")) (gDCons (gTup (gDCons (gC (.str "x")) gDNil)) (gDCons (gC (.str "or")) (gDCons (gC (.str "zz")) (gDCons (gC (.str "_")) gDNil))))))))))))) (g2 fMod (gVar 1) (gC (.int 12)))))
 (gSeq (gSet 3 (gLst (gDCons (gN fList (gCons (gVar 0) gNil)) (gDCons (g2 fAdd4 (gVar 0) (gTup (gDCons (gVar 2) gDNil))) (gDCons (gSl fSl2 (gVar 0) gNo (gPt (gNeg (gC (.int 1))))) (gDCons (gSl fSl2 (gVar 0) gNo (gPt (gC (.int 1)))) (gDCons (g2 fAdd4 (gTup (gDCons (gVar 2) gDNil)) (gSl fSl2 (gVar 0) (gPt (gC (.int 1))) gNo)) (gDCons (gTup gDNil) (gDCons (gVar 2) (gDCons (gTup (gDCons (gVar 0) gDNil)) gDNil))))))))))
 (gSeq (gSet 3 (g2 fAdd4 (gVar 3) (gLst (gDCons (gTup (gDCons (gC (.str "mark")) (gDCons (gVar 2) (gDCons (gC (.str "x")) gDNil)))) (gDCons (gTup (gDCons (gC (.str "mark")) (gDCons (gC (.str "zz")) (gDCons (gVar 2) gDNil)))) (gDCons (gTup (gDCons (gC (.str "arrow")) (gDCons (gVar 2) (gDCons (gC (.str "x")) (gDCons (gC (.str "y")) gDNil))))) (gDCons (gTup (gDCons (gC (.str "arrow")) (gDCons (gC (.str "zz")) (gDCons (gVar 2) (gDCons (gC (.str "y")) gDNil))))) gDNil)))))))
 (gSeq (gSet 3 (g2 fAdd4 (gVar 3) (gLst (gDCons (gTup (gDCons (gC (.str "arrow")) (gDCons (gC (.str "zz")) (gDCons (gC (.str "x")) (gDCons (gVar 2) gDNil))))) (gDCons (gTup (gDCons (gC (.str "same")) (gDCons (gVar 2) (gDCons (gC (.str "x")) gDNil)))) (gDCons (gTup (gDCons (gC (.str "same")) (gDCons (gC (.str "x")) (gDCons (gVar 2) gDNil)))) (gDCons (gTup (gDCons (gC (.str "mark")) (gDCons (gC (.str "zz")) (gDCons (gC (.str "x")) (gDCons (gC (.str "y")) gDNil))))) gDNil)))))))
 (gSeq (gSet 3 (g2 fAdd4 (gVar 3) (gLst (gDCons (gTup (gDCons (gC (.str "not")) (gDCons (gVar 2) gDNil))) (gDCons (gTup (gDCons (gC (.str "not")) (gDCons (gVar 0) (gDCons (gVar 0) gDNil)))) (gDCons (gTup (gDCons (gC (.str "and")) (gDCons (gTup (gDCons (gVar 0) gDNil)) gDNil))) (gDCons (gTup (gDCons (gC (.str "or")) (gDCons (gLst (gDCons (gVar 0) (gDCons (gVar 0) gDNil))) gDNil))) (gDCons (gTup (gDCons (gC (.str "or")) (gDCons (gVar 0) gDNil))) gDNil))))))))
 (gSeq (gSet 3 (g2 fAdd4 (gVar 3) (gLst (gDCons (gTup (gDCons (gC (.str "and")) (gDCons (gTup (gDCons (gVar 0) (gDCons (gVar 2) gDNil))) gDNil))) (gDCons (gTup (gDCons (gC (.str "or")) (gDCons (gTup (gDCons (gVar 2) (gDCons (gVar 0) gDNil))) gDNil))) (gDCons (gTup (gDCons (gC (.str "some")) (gDCons (gVar 2) (gDCons (gVar 0) gDNil)))) (gDCons (gTup (gDCons (gC (.str "every")) (gDCons (gC (.str "x")) (gDCons (gVar 2) gDNil)))) gDNil)))))))
 (gSeq (gSet 3 (g2 fAdd4 (gVar 3) (gLst (gDCons (gTup (gDCons (gC (.str "least")) (gDCons (gC (.int 0)) (gDCons (gC (.str "x")) (gDCons (gVar 0) gDNil))))) (gDCons (gTup (gDCons (gC (.str "least")) (gDCons (gC (.int 10)) (gDCons (gC (.str "x")) (gDCons (gVar 0) gDNil))))) (gDCons (gTup (gDCons (gC (.str "least")) (gDCons (gVar 2) (gDCons (gC (.str "x")) (gDCons (gVar 0) gDNil))))) gDNil))))))
 (gSeq (gSet 3 (g2 fAdd4 (gVar 3) (gLst (gDCons (gTup (gDCons (gC (.str "least")) (gDCons (gC (.int 2)) (gDCons (gVar 2) (gDCons (gVar 0) gDNil))))) (gDCons (gTup (gDCons (gC (.str "least")) (gDCons (gC (.int 9)) (gDCons (gC (.str "x")) (gDCons (gVar 2) gDNil))))) (gDCons (gTup (gDCons (gC (.str "Some")) (gDCons (gC (.str "x")) (gDCons (gVar 0) gDNil)))) (gDCons (gTup (gDCons (gC (.str "most")) (gDCons (gC (.int 2)) (gDCons (gC (.str "x")) (gDCons (gVar 0) gDNil))))) gDNil)))))))
 (gSeq (gSet 4 (g2 fIx (gVar 3) (g2 fMod (g2 fDiv (gVar 1) (gC (.int 12))) (gN fLen (gCons (gVar 3) gNil)))))
 (gSeq (gSet 5 (g2 fMod (g2 fDiv (gVar 1) (gC (.int 1200))) (gC (.int 5))))
 (gSeq (gIfS (gTr (g2 (fEq false) (gVar 5) (gC (.int 1)))) (gRet (gTup (gDCons (gC (.str "not")) (gDCons (gVar 4) gDNil)))) gNx)
 (gSeq (gIfS (gTr (g2 (fEq false) (gVar 5) (gC (.int 2)))) (gRet (gTup (gDCons (gC (.str "some")) (gDCons (gC (.str "x")) (gDCons (gTup (gDCons (gC (.str "not")) (gDCons (gVar 4) gDNil))) gDNil))))) gNx)
 (gSeq (gIfS (gTr (g2 (fEq false) (gVar 5) (gC (.int 3)))) (gRet (gTup (gDCons (gC (.str "or")) (gDCons (gTup (gDCons (gVar 0) (gDCons (gVar 4) gDNil))) gDNil)))) gNx)
 (gRet (gVar 4)))))))))))))))
def F_law_turned (as : List S) : M R := fin (g_law_turned (startE N_law_turned as))
def Nlaw : List Str := ["_law_script", "_law_tongue_here", "_law_letters_here", "_law_k", "_law_saying", "_law_j", "_law_number", "_law_thing", "_law_found"]
def glaw : G O := (gSeq (gSet 1 (gN (gCall 1 K01.F_law_tongue) (gCons (gN (gCall 2 K01.F_law_cell) (gCons (gVar 0) (gCons (gC (.int 1)) gNil))) gNil)))
 (gSeq (gSet 2 (gN (gCall 1 K11.F_law_letters) (gCons (g2 fMod (gN (gCall 2 K01.F_law_cell) (gCons (gVar 0) (gCons (gC (.int 2)) gNil))) (gC (.int 26))) gNil)))
 (gSeq (gFor (gRng3 (gCons (gC (.int 6)) (gCons (gN fMax (gCons (gC (.int 7)) (gCons (gN fMin (gCons (gN fLen (gCons (gVar 0) gNil)) (gCons (gC (.int 62)) gNil))) gNil))) (gCons (gC (.int 7)) gNil)))) (tgName 3) (gSeq (gSet 4 (gN (gCall 3 K11.F_law_grown) (gCons (gSl fSl2 (gVar 0) (gPt (gVar 3)) (gPt (g2 fPlus (gVar 3) (gC (.int 7))))) (gCons (gVar 1) (gCons (gVar 2) gNil)))))
 (gSeq (gIfS (gOr (gTr (g2 (fIs true) (gN (gCall 1 K11.Fis_saying) (gCons (gVar 4) gNil)) (gC (.bl true)))) (gNot (gTr (gN (gCall 1 (K11.F_law_judged 60)) (gCons (gVar 4) gNil))))) (gRet (gC (.bl false))) gNx)
 (gFor (gRng1 (gCons (gC (.int 7)) gNil)) (tgName 5) (gSeq (gSet 6 (g2 fMod (g2 fTimes (g2 fPlus (gN (gCall 2 K01.F_law_cell) (gCons (gVar 0) (gCons (g2 fPlus (gVar 3) (gVar 5)) gNil))) (g2 fTimes (gC (.int 97)) (gVar 5))) (gC (.int 64123))) (gC (.int 998244353))))
 (gSeq (gSet 7 (gN (gCall 2 K11.F_law_turned) (gCons (gVar 4) (gCons (gVar 6) gNil))))
 (gSeq (gSet 8 (gN (gCall 1 K11.Fis_saying) (gCons (gVar 7) gNil)))
 (gIfS (gOr (gNot (gTr (gIs "bool" (gVar 8)))) (gTr (g2 (fEq true) (gVar 8) (gN (gCall 1 (K11.F_law_judged 60)) (gCons (gVar 7) gNil))))) (gRet (gC (.bl false))) gNx))))))))
 (gRet (g2 fIsB (gN (gCall 1 K11.Fis_saying) (gCons (g2 fIx (gLst (gDCons (gC .non) (gDCons (gC (.int 5)) (gDCons (gC (.str "true")) (gDCons (gC .emp) (gDCons (gLst gDNil) (gDCons (gTup (gDCons (gC (.str "and")) gDNil)) (gDCons (gTup (gDCons (gC (.str "true")) gDNil)) gDNil)))))))) (g2 fMod (gN (gCall 2 K01.F_law_cell) (gCons (gVar 0) (gCons (gC (.int 3)) gNil))) (gC (.int 7)))) gNil)) (gC (.bl false)))))))
def Flaw (as : List S) : M R := fin (glaw (startE Nlaw as))
end K11
set_option Elab.async false
set_option linter.all false
set_option maxRecDepth 100000
set_option maxHeartbeats 4000000
namespace K11
open PySem DL K01
/-! ### how large data is -/
mutual
def nod : D → Nat
  | .tup xs => nods xs + 1
  | .lst xs => nods xs + 1
  | .str x => x.length + 1
  | _ => 1
def nods : List D → Nat
  | [] => 0
  | x :: r => nod x + nods r
end
theorem nod_pos (d : D) : 1 ≤ nod d := by cases d <;> simp [nod]
theorem nod_mem {d : D} : ∀ {xs : List D}, d ∈ xs → nod d ≤ nods xs
  | x :: r, h => by
    rcases List.mem_cons.mp h with rfl | h
    · simp [nods]
    · have := nod_mem h
      simp [nods]
      omega
theorem len_nods : ∀ (xs : List D), xs.length ≤ nods xs
  | [] => Nat.le_refl _
  | x :: r => by
    have := len_nods r
    have := nod_pos x
    simp [nods]
    omega
theorem nods_app : ∀ (xs ys : List D), nods (xs ++ ys) = nods xs + nods ys
  | [], ys => by simp [nods]
  | x :: r, ys => by
    rw [List.cons_append]
    simp [nods, nods_app r ys]
    omega
theorem dep_mem {d : D} : ∀ {xs : List D}, d ∈ xs → dep d ≤ deps xs
  | x :: r, h => by
    rcases List.mem_cons.mp h with rfl | h
    · simp [deps]; omega
    · have := dep_mem h
      simp [deps]
      omega
theorem deps_le {n : Nat} : ∀ {xs : List D}, (∀ d ∈ xs, dep d ≤ n) → deps xs ≤ n
  | [], _ => Nat.zero_le _
  | x :: r, h => by
    have h1 := h x List.mem_cons_self
    have h2 := deps_le (xs := r) fun d hd => h d (List.mem_cons_of_mem _ hd)
    simp [deps]
    omega
theorem sm_nod : ∀ (n : Nat) (d : D), nod d ≤ n → n ≤ 1000 → Sm d
  | 0, d, h, _ => absurd (nod_pos d) (by omega)
  | n + 1, d, h, hn => by
    cases d with
    | non => exact .non
    | bl b => exact .bl b
    | int i => exact .int i
    | emp => exact .emp
    | str x => exact .str (by simp [nod] at h; omega)
    | tup xs =>
      have h' : nods xs ≤ n := by simp [nod] at h; omega
      refine .tup (by have := len_nods xs; omega) fun x hx => sm_nod n x ?_ (by omega)
      have := nod_mem hx
      omega
    | lst xs =>
      have h' : nods xs ≤ n := by simp [nod] at h; omega
      refine .lst (by have := len_nods xs; omega) fun x hx => sm_nod n x ?_ (by omega)
      have := nod_mem hx
      omega
theorem sm_of {d : D} (h : nod d ≤ 1000) : Sm d := sm_nod 1000 d h (Nat.le_refl _)
/-! ### letters -/
def leS1 (x : Str) : Bool := ((x.length : Int) == 1) && !(Builtin.Str.occurrences "abcdefghijklmnopqrstuvwxyz" x 0 (Str.length "abcdefghijklmnopqrstuvwxyz") 1).isEmpty
def leB : D → Bool
  | .str x => leS1 x
  | _ => false
theorem inS_abc (x : Str) : fInS false (.d (.str x)) (.d (.str "abcdefghijklmnopqrstuvwxyz")) = .ok (.d (.bl (!(Builtin.Str.occurrences "abcdefghijklmnopqrstuvwxyz" x 0 (Str.length "abcdefghijklmnopqrstuvwxyz") 1).isEmpty))) := rfl
theorem E_letter (d : D) (hs : Sm d) : Fis_letter [.d d] = .ok (.d (.bl (leB d))) := by
  cases d with
  | str x =>
    cases hs with
    | str hx =>
    have q := inS_abc x
    rw [show leB (.str x) = (((x.length : Int) == 1) && !(Builtin.Str.occurrences "abcdefghijklmnopqrstuvwxyz" x 0 (Str.length "abcdefghijklmnopqrstuvwxyz") 1).isEmpty) from rfl]
    unfold Fis_letter gis_letter
    generalize (!(Builtin.Str.occurrences "abcdefghijklmnopqrstuvwxyz" x 0 (Str.length "abcdefghijklmnopqrstuvwxyz") 1).isEmpty) = k at q ⊢
    cases h : ((x.length : Int) == 1)
    · simp [gSeq, gIfS, gOr, gAnd, gNot, gTr, gIs, gVar, startE, S.rd, R.dat, tyD, subT, g2, gN, gCons, gNil, gC, gNx, gRet, gAndV, gNotV, gCall, toA, frR, rF, fin, fI0, len_tup, eq_int, gDCons, gDNil, toD, toS, gSet, ix0, ix1, ix2, Nis_letter, len_str hx, h]
    · simp [gSeq, gIfS, gOr, gAnd, gNot, gTr, gIs, gVar, startE, S.rd, R.dat, tyD, subT, g2, gN, gCons, gNil, gC, gNx, gRet, gAndV, gNotV, gCall, toA, frR, rF, fin, fI0, len_tup, eq_int, gDCons, gDNil, toD, toS, gSet, ix0, ix1, ix2, Nis_letter, len_str hx, h, q]
  | _ => rfl
end K11
set_option Elab.async false
set_option linter.all false
set_option maxRecDepth 100000
set_option maxHeartbeats 4000000
namespace K11
open PySem DL K01
/-! ### a saying's own form -/
def andB : D → Bool
  | .tup xs => !((xs.length : Int) == 1)
  | _ => false
def mB : D → Bool
  | .int i => decide (1 ≤ i) && decide (i ≤ 9)
  | _ => false
def fMark : List D → Bool
  | [n, x] => leB x && nmB n
  | _ => false
def fArrow : List D → Bool
  | [n, x, y] => leB x && (leB y && nmB n)
  | _ => false
def fSame : List D → Bool
  | [x, y] => leB x && leB y
  | _ => false
def fNot : List D → Bool
  | [_] => true
  | _ => false
def fAnd : List D → Bool
  | [p] => andB p
  | _ => false
def fSome : List D → Bool
  | [x, _] => leB x
  | _ => false
def fLeast : List D → Bool
  | [m, x, _] => leB x && mB m
  | _ => false
def iNot : List D → List D
  | [s] => [s]
  | _ => []
def iAnd : List D → List D
  | [.tup xs] => xs
  | _ => []
def iSome : List D → List D
  | [_, s] => [s]
  | _ => []
def iLeast : List D → List D
  | [_, _, s] => [s]
  | _ => []
def iNone : List D → List D := fun _ => []
def tab : List (Str × (List D → Bool) × (List D → List D)) := [("mark", fMark, iNone), ("arrow", fArrow, iNone), ("same", fSame, iNone), ("not", fNot, iNot), ("and", fAnd, iAnd), ("or", fAnd, iAnd), ("some", fSome, iSome), ("every", fSome, iSome), ("least", fLeast, iLeast)]
def rowOf (w : Str) : Option (Str × (List D → Bool) × (List D → List D)) := tab.find? fun p => p.1 = w
def wmB : D → Bool
  | .tup (.str w :: r) => (match rowOf w with
    | some p => p.2.1 r
    | none => false)
  | _ => false
def insD : D → List D
  | .tup (.str w :: r) => (match rowOf w with
    | some p => p.2.2 r
    | none => [])
  | _ => []
def LEN : List (Str × D) := [("mark", (.int 3)), ("arrow", (.int 4)), ("same", (.int 3)), ("not", (.int 2)), ("and", (.int 2)), ("or", (.int 2)), ("some", (.int 3)), ("every", (.int 3)), ("least", (.int 4))]
theorem eq_str (neg : Bool) (a b : Str) : fEq neg (.d (.str a)) (.d (.str b)) = .ok (.d (.bl (if neg then !(a == b) else a == b))) := rfl
theorem in_two (w a b : Str) : fIn false (.d (.str w)) (.d (.tup [.str a, .str b])) = .ok (.d (.bl ((a == w) || ((b == w) || false)))) := rfl
theorem two_z : 2 ≤ sizeLine := by decide
theorem one_z : 1 ≤ sizeLine := by decide
/-- one of the nine words, or none -/
theorem nine (w : Str) : w = "mark" ∨ w = "arrow" ∨ w = "same" ∨ w = "not" ∨ w = "and" ∨ w = "or" ∨ w = "some" ∨ w = "every" ∨ w = "least" ∨ (rowOf w = none ∧ lookD LEN w = none) := by
  by_cases h0 : w = "mark"
  · exact .inl h0
  by_cases h1 : w = "arrow"
  · exact .inr (.inl h1)
  by_cases h2 : w = "same"
  · exact .inr (.inr (.inl h2))
  by_cases h3 : w = "not"
  · exact .inr (.inr (.inr (.inl h3)))
  by_cases h4 : w = "and"
  · exact .inr (.inr (.inr (.inr (.inl h4))))
  by_cases h5 : w = "or"
  · exact .inr (.inr (.inr (.inr (.inr (.inl h5)))))
  by_cases h6 : w = "some"
  · exact .inr (.inr (.inr (.inr (.inr (.inr (.inl h6))))))
  by_cases h7 : w = "every"
  · exact .inr (.inr (.inr (.inr (.inr (.inr (.inr (.inl h7)))))))
  by_cases h8 : w = "least"
  · exact .inr (.inr (.inr (.inr (.inr (.inr (.inr (.inr (.inl h8))))))))
  have d0 : decide (("mark" : Str) = w) = false := decide_eq_false fun z => h0 z.symm
  have d1 : decide (("arrow" : Str) = w) = false := decide_eq_false fun z => h1 z.symm
  have d2 : decide (("same" : Str) = w) = false := decide_eq_false fun z => h2 z.symm
  have d3 : decide (("not" : Str) = w) = false := decide_eq_false fun z => h3 z.symm
  have d4 : decide (("and" : Str) = w) = false := decide_eq_false fun z => h4 z.symm
  have d5 : decide (("or" : Str) = w) = false := decide_eq_false fun z => h5 z.symm
  have d6 : decide (("some" : Str) = w) = false := decide_eq_false fun z => h6 z.symm
  have d7 : decide (("every" : Str) = w) = false := decide_eq_false fun z => h7 z.symm
  have d8 : decide (("least" : Str) = w) = false := decide_eq_false fun z => h8 z.symm
  refine .inr (.inr (.inr (.inr (.inr (.inr (.inr (.inr (.inr (⟨?_, ?_⟩)))))))))
  · unfold rowOf tab
    simp only [List.find?_cons, d0, d1, d2, d3, d4, d5, d6, d7, d8]
    rfl
  · unfold lookD LEN
    simp only [List.find?_cons, d0, d1, d2, d3, d4, d5, d6, d7, d8]
    rfl
theorem row_mark : rowOf "mark" = some (("mark" : Str), fMark, iNone) := by
  unfold rowOf tab
  simp only [List.find?_cons]
  rfl
theorem len_mark : lookD LEN "mark" = some (.int 3) := rfl
theorem q_mark_mark : (("mark" : Str) == "mark") = true := by decide +kernel
theorem q_arrow_mark : (("arrow" : Str) == "mark") = false := by decide +kernel
theorem row_arrow : rowOf "arrow" = some (("arrow" : Str), fArrow, iNone) := by
  unfold rowOf tab
  simp only [List.find?_cons]
  rfl
theorem len_arrow : lookD LEN "arrow" = some (.int 4) := rfl
theorem q_mark_arrow : (("mark" : Str) == "arrow") = false := by decide +kernel
theorem q_arrow_arrow : (("arrow" : Str) == "arrow") = true := by decide +kernel
theorem row_same : rowOf "same" = some (("same" : Str), fSame, iNone) := by
  unfold rowOf tab
  simp only [List.find?_cons]
  rfl
theorem len_same : lookD LEN "same" = some (.int 3) := rfl
theorem q_mark_same : (("mark" : Str) == "same") = false := by decide +kernel
theorem q_arrow_same : (("arrow" : Str) == "same") = false := by decide +kernel
theorem q_and_same : (("and" : Str) == "same") = false := by decide +kernel
theorem q_or_same : (("or" : Str) == "same") = false := by decide +kernel
theorem row_not : rowOf "not" = some (("not" : Str), fNot, iNot) := by
  unfold rowOf tab
  simp only [List.find?_cons]
  rfl
theorem len_not : lookD LEN "not" = some (.int 2) := rfl
theorem q_mark_not : (("mark" : Str) == "not") = false := by decide +kernel
theorem q_arrow_not : (("arrow" : Str) == "not") = false := by decide +kernel
theorem q_and_not : (("and" : Str) == "not") = false := by decide +kernel
theorem q_or_not : (("or" : Str) == "not") = false := by decide +kernel
theorem row_and : rowOf "and" = some (("and" : Str), fAnd, iAnd) := by
  unfold rowOf tab
  simp only [List.find?_cons]
  rfl
theorem len_and : lookD LEN "and" = some (.int 2) := rfl
theorem q_mark_and : (("mark" : Str) == "and") = false := by decide +kernel
theorem q_arrow_and : (("arrow" : Str) == "and") = false := by decide +kernel
theorem q_and_and : (("and" : Str) == "and") = true := by decide +kernel
theorem q_or_and : (("or" : Str) == "and") = false := by decide +kernel
theorem row_or : rowOf "or" = some (("or" : Str), fAnd, iAnd) := by
  unfold rowOf tab
  simp only [List.find?_cons]
  rfl
theorem len_or : lookD LEN "or" = some (.int 2) := rfl
theorem q_mark_or : (("mark" : Str) == "or") = false := by decide +kernel
theorem q_arrow_or : (("arrow" : Str) == "or") = false := by decide +kernel
theorem q_and_or : (("and" : Str) == "or") = false := by decide +kernel
theorem q_or_or : (("or" : Str) == "or") = true := by decide +kernel
theorem row_some : rowOf "some" = some (("some" : Str), fSome, iSome) := by
  unfold rowOf tab
  simp only [List.find?_cons]
  rfl
theorem len_some : lookD LEN "some" = some (.int 3) := rfl
theorem q_mark_some : (("mark" : Str) == "some") = false := by decide +kernel
theorem q_arrow_some : (("arrow" : Str) == "some") = false := by decide +kernel
theorem q_and_some : (("and" : Str) == "some") = false := by decide +kernel
theorem q_or_some : (("or" : Str) == "some") = false := by decide +kernel
theorem row_every : rowOf "every" = some (("every" : Str), fSome, iSome) := by
  unfold rowOf tab
  simp only [List.find?_cons]
  rfl
theorem len_every : lookD LEN "every" = some (.int 3) := rfl
theorem q_mark_every : (("mark" : Str) == "every") = false := by decide +kernel
theorem q_arrow_every : (("arrow" : Str) == "every") = false := by decide +kernel
theorem q_and_every : (("and" : Str) == "every") = false := by decide +kernel
theorem q_or_every : (("or" : Str) == "every") = false := by decide +kernel
theorem row_least : rowOf "least" = some (("least" : Str), fLeast, iLeast) := by
  unfold rowOf tab
  simp only [List.find?_cons]
  rfl
theorem len_least : lookD LEN "least" = some (.int 4) := rfl
theorem q_mark_least : (("mark" : Str) == "least") = false := by decide +kernel
theorem q_arrow_least : (("arrow" : Str) == "least") = false := by decide +kernel
theorem q_and_least : (("and" : Str) == "least") = false := by decide +kernel
theorem q_or_least : (("or" : Str) == "least") = false := by decide +kernel
end K11
set_option Elab.async false
set_option linter.all false
set_option maxRecDepth 100000
set_option maxHeartbeats 4000000
namespace K11
open PySem DL K01
theorem lat_mark (n x : D) : Fletters_at [.d (.tup [.str "mark", n, x])] = .ok (.l .fresh [x]) := rfl
theorem lat_arrow (n x y : D) : Fletters_at [.d (.tup [.str "arrow", n, x, y])] = .ok (.l .fresh [x, y]) := rfl
theorem lat_same (x y : D) : Fletters_at [.d (.tup [.str "same", x, y])] = .ok (.l .fresh [x, y]) := rfl
theorem lat_not (s : D) : Fletters_at [.d (.tup [.str "not", s])] = .ok (.l .fresh []) := rfl
theorem lat_and (s : D) : Fletters_at [.d (.tup [.str "and", s])] = .ok (.l .fresh []) := rfl
theorem lat_or (s : D) : Fletters_at [.d (.tup [.str "or", s])] = .ok (.l .fresh []) := rfl
theorem lat_some (x s : D) : Fletters_at [.d (.tup [.str "some", x, s])] = .ok (.l .fresh [x]) := rfl
theorem lat_every (x s : D) : Fletters_at [.d (.tup [.str "every", x, s])] = .ok (.l .fresh [x]) := rfl
theorem lat_least (m x s : D) : Fletters_at [.d (.tup [.str "least", m, x, s])] = .ok (.l .fresh [x]) := rfl
/-- behind the letters -/
abbrev wmT : G O := (gSeq (gIfS (gTr (g2 (fIn false) (gVar 1) (gTup (gDCons (gC (.str "mark")) (gDCons (gC (.str "arrow")) gDNil))))) (gRet (gN (gCall 1 K01.Fis_name) (gCons (g2 fIx (gVar 0) (gC (.int 1))) gNil))) gNx)
 (gSeq (gIfS (gTr (g2 (fIn false) (gVar 1) (gTup (gDCons (gC (.str "and")) (gDCons (gC (.str "or")) gDNil))))) (gRet (gAndV (gIs "tuple" (g2 fIx (gVar 0) (gC (.int 1)))) (g2 (fEq true) (gN fLen (gCons (g2 fIx (gVar 0) (gC (.int 1))) gNil)) (gC (.int 1))))) gNx)
 (gSeq (gIfS (gTr (g2 (fEq false) (gVar 1) (gC (.str "least")))) (gRet (gAndV (gN (gCall 1 K01.Fis_whole) (gCons (g2 fIx (gVar 0) (gC (.int 1))) gNil)) (gCh (fun i j => decide (i ≤ j)) (fun i j => decide (i ≤ j)) (gC (.int 1)) (g2 fIx (gVar 0) (gC (.int 1))) (gC (.int 9))))) gNx)
 (gRet (gC (.bl true))))))
theorem letters_all {ls : List D} {F G : List S → M R} {t : D} (env : Ev) (h0 : env[0]? = some (some (.d t))) (hl : ls.length ≤ 1000) (hF : F [.d t] = .ok (.l .fresh ls)) (hG : ∀ d ∈ ls, G [.d d] = .ok (.d (.bl (leB d)))) :
    gN fAll (gCons (gComp 1 [] (gItQ (gN (gCall 1 F) (gCons (gVar 0) gNil))) (tgName 0) gTt (gN (gCall 1 G) (gCons (gVar 0) gNil))) gNil) env = .ok (.d (.bl (ls.all leB))) := by
  have e := compG1 (ge := gN (gCall 1 G) (gCons (gVar 0) gNil)) (f := fun d => .bl (leB d)) [] ls none fun d hd => by simp [gSeq, gIfS, gOr, gAnd, gNot, gTr, gIs, gVar, startE, S.rd, R.dat, tyD, subT, g2, gN, gCons, gNil, gC, gNx, gRet, gAndV, gNotV, gCall, toA, frR, rF, fin, fI0, len_tup, eq_int, gDCons, gDNil, toD, toS, gSet, ix0, ix1, ix2, hG d hd]
  have i : gItQ (gN (gCall 1 F) (gCons (gVar 0) gNil)) env = .ok ls := by simp [gItQ, gSeq, gIfS, gOr, gAnd, gNot, gTr, gIs, gVar, startE, S.rd, R.dat, tyD, subT, g2, gN, gCons, gNil, gC, gNx, gRet, gAndV, gNotV, gCall, toA, frR, rF, fin, fI0, len_tup, eq_int, gDCons, gDNil, toD, toS, gSet, ix0, ix1, ix2, h0, hF, asQ]
  generalize gItQ (gN (gCall 1 F) (gCons (gVar 0) gNil)) = gi at i ⊢
  generalize gN (gCall 1 G) (gCons (gVar 0) gNil) = ge at e ⊢
  have q : gComp 1 [] gi (tgName 0) gTt ge env = .ok (.l .fresh (ls.map fun d => .bl (leB d))) := by
    unfold gComp
    rw [i, bind_ok, if_pos (line1000 hl)]
    show (compG _ _ _ ls [none] >>= _) = _
    rw [e, bind_ok]
  exact (n1_eq q (all_map leB ls))
theorem wm_pre (w : Str) (r : List D) (hl : r.length ≤ 900) : (lookD LEN w = none → Fis_well_made [.d (.tup (.str w :: r))] = .ok (.d (.bl false))) ∧
    ∀ L : Int, lookD LEN w = some (.int L) → ((r.length : Int) + 1 ≠ L → Fis_well_made [.d (.tup (.str w :: r))] = .ok (.d (.bl false))) ∧
      ((r.length : Int) + 1 = L → ∀ ls, Fletters_at [.d (.tup (.str w :: r))] = .ok (.l .fresh ls) → ls.length ≤ 1000 → (∀ x ∈ ls, Sm x) →
        (ls.all leB = false → Fis_well_made [.d (.tup (.str w :: r))] = .ok (.d (.bl false))) ∧ (ls.all leB = true → Fis_well_made [.d (.tup (.str w :: r))] = fin (wmT [some (.d (.tup (.str w :: r))), some (.d (.str w))]))) := by
  have HE := E_letter
  unfold Fis_well_made gis_well_made
  rw [show ([("mark", (.int 3)), ("arrow", (.int 4)), ("same", (.int 3)), ("not", (.int 2)), ("and", (.int 2)), ("or", (.int 2)), ("some", (.int 3)), ("every", (.int 3)), ("least", (.int 4))] : List (Str × D)) = LEN from rfl]
  generalize LEN = T
  generalize Fletters_at = F
  generalize Fis_letter = Gl at HE ⊢
  have e0 : ¬ ((r.length : Int) + 1 = 0) := by omega
  have st : ∀ rest : G O, gSeq (gIfS (gOr (gNot (gTr (gIs "tuple" (gVar 0)))) (gOr (gTr (g2 (fEq false) (gN fLen (gCons (gVar 0) gNil)) (gC (.int 0)))) (gNot (gTr (gIs "str" (g2 fIx (gVar 0) (gC (.int 0)))))))) (gRet (gC (.bl false))) gNx) (gSeq (gSet 1 (g2 fIx (gVar 0) (gC (.int 0)))) rest) [some (.d (.tup (.str w :: r))), none] = rest [some (.d (.tup (.str w :: r))), some (.d (.str w))] := fun rest => by
    rw [seq_nx (e := [some (.d (.tup (.str w :: r))), none]) ((ifs_no (by simp [gSeq, gIfS, gOr, gAnd, gNot, gTr, gIs, gVar, startE, S.rd, R.dat, tyD, subT, g2, gN, gCons, gNil, gC, gNx, gRet, gAndV, gNotV, gCall, toA, frR, rF, fin, fI0, len_tup, eq_int, gDCons, gDNil, toD, toS, gSet, ix0, ix1, ix2, e0])).trans rfl)]
    rw [seq_nx (e := [some (.d (.tup (.str w :: r))), some (.d (.str w))]) (by simp [gSeq, gIfS, gOr, gAnd, gNot, gTr, gIs, gVar, startE, S.rd, R.dat, tyD, subT, g2, gN, gCons, gNil, gC, gNx, gRet, gAndV, gNotV, gCall, toA, frR, rF, fin, fI0, len_tup, eq_int, gDCons, gDNil, toD, toS, gSet, ix0, ix1, ix2])]
  show (_ → fin (gSeq _ _ [some (.d (.tup (.str w :: r))), none]) = _) ∧ ∀ L : Int, _ → (_ → fin (gSeq _ _ [some (.d (.tup (.str w :: r))), none]) = _) ∧ (_ → ∀ ls, _ → _ → _ → (_ → fin (gSeq _ _ [some (.d (.tup (.str w :: r))), none]) = _) ∧ (_ → fin (gSeq _ _ [some (.d (.tup (.str w :: r))), none]) = _))
  rw [st]
  refine ⟨fun h => ?_, fun L h => ⟨fun hn => ?_, fun hy ls hF hl2 hs => ?_⟩⟩
  · rw [seq_rt (r := .d (.bl false)) ((ifs_yes (by simp [gSeq, gIfS, gOr, gAnd, gNot, gTr, gIs, gVar, startE, S.rd, R.dat, tyD, subT, g2, gN, gCons, gNil, gC, gNx, gRet, gAndV, gNotV, gCall, toA, frR, rF, fin, fI0, len_tup, eq_int, gDCons, gDNil, toD, toS, gSet, ix0, ix1, ix2, gCIn, h])).trans rfl)]
    rfl
  · have q : ((r.length : Int) + 1 == L) = false := beq_eq_false_iff_ne.mpr hn
    rw [seq_rt (r := .d (.bl false)) ((ifs_yes (by simp [gSeq, gIfS, gOr, gAnd, gNot, gTr, gIs, gVar, startE, S.rd, R.dat, tyD, subT, g2, gN, gCons, gNil, gC, gNx, gRet, gAndV, gNotV, gCall, toA, frR, rF, fin, fI0, len_tup, eq_int, gDCons, gDNil, toD, toS, gSet, ix0, ix1, ix2, gCIn, gCGet, h, q])).trans rfl)]
    rfl
  · have q : ((r.length : Int) + 1 == L) = true := beq_iff_eq.mpr hy
    rw [seq_nx (e := [some (.d (.tup (.str w :: r))), some (.d (.str w))]) ((ifs_no (by simp [gSeq, gIfS, gOr, gAnd, gNot, gTr, gIs, gVar, startE, S.rd, R.dat, tyD, subT, g2, gN, gCons, gNil, gC, gNx, gRet, gAndV, gNotV, gCall, toA, frR, rF, fin, fI0, len_tup, eq_int, gDCons, gDNil, toD, toS, gSet, ix0, ix1, ix2, gCIn, gCGet, h, q])).trans rfl)]
    have la := letters_all (F := F) (G := Gl) (t := .tup (.str w :: r)) [some (.d (.tup (.str w :: r))), some (.d (.str w))] rfl hl2 hF fun d hd => HE d (hs d hd)
    generalize gN fAll (gCons (gComp 1 [] _ _ _ _) gNil) = gx at la ⊢
    refine ⟨fun ha => ?_, fun ha => ?_⟩
    · rw [ha] at la
      rw [seq_rt (r := .d (.bl false)) ((ifs_yes (by simp [gSeq, gIfS, gOr, gAnd, gNot, gTr, gIs, gVar, startE, S.rd, R.dat, tyD, subT, g2, gN, gCons, gNil, gC, gNx, gRet, gAndV, gNotV, gCall, toA, frR, rF, fin, fI0, len_tup, eq_int, gDCons, gDNil, toD, toS, gSet, ix0, ix1, ix2, la])).trans rfl)]
      rfl
    · rw [ha] at la
      rw [seq_nx (e := [some (.d (.tup (.str w :: r))), some (.d (.str w))]) ((ifs_no (by simp [gSeq, gIfS, gOr, gAnd, gNot, gTr, gIs, gVar, startE, S.rd, R.dat, tyD, subT, g2, gN, gCons, gNil, gC, gNx, gRet, gAndV, gNotV, gCall, toA, frR, rF, fin, fI0, len_tup, eq_int, gDCons, gDNil, toD, toS, gSet, ix0, ix1, ix2, la])).trans rfl)]
end K11
set_option Elab.async false
set_option linter.all false
set_option maxRecDepth 100000
set_option maxHeartbeats 4000000
namespace K11
open PySem DL K01
theorem wm_row {w : Str} {r : List D} {p : Str × (List D → Bool) × (List D → List D)} (h : rowOf w = some p) : wmB (.tup (.str w :: r)) = p.2.1 r := by
  show (match rowOf w with | some p => p.2.1 r | none => false) = _
  rw [h]
theorem in_row {w : Str} {r : List D} {p : Str × (List D → Bool) × (List D → List D)} (h : rowOf w = some p) : insD (.tup (.str w :: r)) = p.2.2 r := by
  show (match rowOf w with | some p => p.2.2 r | none => []) = _
  rw [h]
theorem wm_mark (r : List D) (hl : r.length ≤ 900) (hs : ∀ d ∈ r, Sm d) : Fis_well_made [.d (.tup (.str "mark" :: r))] = .ok (.d (.bl (wmB (.tup (.str "mark" :: r))))) := by
  rw [wm_row row_mark]
  obtain ⟨bad, good⟩ := (wm_pre "mark" r hl).2 _ len_mark
  match r, hs, bad, good with
  | [], hs, bad, good => exact bad (by simp)
  | [a0], hs, bad, good => exact bad (by simp)
  | [n, x], hs, bad, good =>
    have g := good (by simp) [x] (lat_mark n x) (by simp) (fun d hd => by
      simp at hd
      subst hd
      exact hs _ (by simp)
      )
    have e_least : (("mark" : Str) == "least") = false := by decide +kernel
    show _ = M.ok (R.d (D.bl (leB x && nmB n)))
    cases hx : leB x with
    | false => exact g.1 (by simp [hx])
    | true =>
      rw [g.2 (by simp [hx]), Bool.true_and]
      unfold wmT
      simp [gSeq, gIfS, gOr, gAnd, gNot, gTr, gIs, gVar, startE, S.rd, R.dat, tyD, subT, g2, gN, gCons, gNil, gC, gNx, gRet, gAndV, gNotV, gCall, toA, frR, rF, fin, fI0, len_tup, eq_int, gDCons, gDNil, toD, toS, gSet, ix0, ix1, ix2, gTup, two_z, in_two, q_mark_mark, q_arrow_mark, E_name n (hs n (by simp))]
  | a0 :: a1 :: a2 :: t, hs, bad, good => exact bad (by simp; omega)
theorem wm_arrow (r : List D) (hl : r.length ≤ 900) (hs : ∀ d ∈ r, Sm d) : Fis_well_made [.d (.tup (.str "arrow" :: r))] = .ok (.d (.bl (wmB (.tup (.str "arrow" :: r))))) := by
  rw [wm_row row_arrow]
  obtain ⟨bad, good⟩ := (wm_pre "arrow" r hl).2 _ len_arrow
  match r, hs, bad, good with
  | [], hs, bad, good => exact bad (by simp)
  | [a0], hs, bad, good => exact bad (by simp)
  | [a0, a1], hs, bad, good => exact bad (by simp)
  | [n, x, y], hs, bad, good =>
    have g := good (by simp) [x, y] (lat_arrow n x y) (by simp) (fun d hd => by
      simp at hd
      rcases hd with rfl | rfl
      · exact hs _ (by simp)
      · exact hs _ (by simp)
      )
    have e_least : (("arrow" : Str) == "least") = false := by decide +kernel
    show _ = M.ok (R.d (D.bl (leB x && (leB y && nmB n))))
    cases hx : leB x with
    | false => exact g.1 (by simp [hx])
    | true =>
      cases hy : leB y with
      | false => exact g.1 (by simp [hx, hy])
      | true =>
        rw [g.2 (by simp [hx, hy]), Bool.true_and, Bool.true_and]
        unfold wmT
        simp [gSeq, gIfS, gOr, gAnd, gNot, gTr, gIs, gVar, startE, S.rd, R.dat, tyD, subT, g2, gN, gCons, gNil, gC, gNx, gRet, gAndV, gNotV, gCall, toA, frR, rF, fin, fI0, len_tup, eq_int, gDCons, gDNil, toD, toS, gSet, ix0, ix1, ix2, gTup, two_z, in_two, q_mark_arrow, q_arrow_arrow, E_name n (hs n (by simp))]
  | a0 :: a1 :: a2 :: a3 :: t, hs, bad, good => exact bad (by simp; omega)
theorem wm_same (r : List D) (hl : r.length ≤ 900) (hs : ∀ d ∈ r, Sm d) : Fis_well_made [.d (.tup (.str "same" :: r))] = .ok (.d (.bl (wmB (.tup (.str "same" :: r))))) := by
  rw [wm_row row_same]
  obtain ⟨bad, good⟩ := (wm_pre "same" r hl).2 _ len_same
  match r, hs, bad, good with
  | [], hs, bad, good => exact bad (by simp)
  | [a0], hs, bad, good => exact bad (by simp)
  | [x, y], hs, bad, good =>
    have g := good (by simp) [x, y] (lat_same x y) (by simp) (fun d hd => by
      simp at hd
      rcases hd with rfl | rfl
      · exact hs _ (by simp)
      · exact hs _ (by simp)
      )
    have e_least : (("same" : Str) == "least") = false := by decide +kernel
    show _ = M.ok (R.d (D.bl (leB x && leB y)))
    cases hx : leB x with
    | false => exact g.1 (by simp [hx])
    | true =>
      cases hy : leB y with
      | false => exact g.1 (by simp [hx, hy])
      | true =>
        rw [g.2 (by simp [hx, hy]), Bool.true_and]
        unfold wmT
        simp [gSeq, gIfS, gOr, gAnd, gNot, gTr, gIs, gVar, startE, S.rd, R.dat, tyD, subT, g2, gN, gCons, gNil, gC, gNx, gRet, gAndV, gNotV, gCall, toA, frR, rF, fin, fI0, len_tup, eq_int, gDCons, gDNil, toD, toS, gSet, ix0, ix1, ix2, gTup, two_z, in_two, q_mark_same, q_arrow_same, q_and_same, q_or_same, eq_str, e_least]
  | a0 :: a1 :: a2 :: t, hs, bad, good => exact bad (by simp; omega)
theorem wm_not (r : List D) (hl : r.length ≤ 900) (hs : ∀ d ∈ r, Sm d) : Fis_well_made [.d (.tup (.str "not" :: r))] = .ok (.d (.bl (wmB (.tup (.str "not" :: r))))) := by
  rw [wm_row row_not]
  obtain ⟨bad, good⟩ := (wm_pre "not" r hl).2 _ len_not
  match r, hs, bad, good with
  | [], hs, bad, good => exact bad (by simp)
  | [s], hs, bad, good =>
    have g := good (by simp) [] (lat_not s) (by simp) (fun d hd => by
      simp at hd
      )
    have e_least : (("not" : Str) == "least") = false := by decide +kernel
    show _ = M.ok (R.d (D.bl (true)))
    rw [g.2 rfl]
    unfold wmT
    simp [gSeq, gIfS, gOr, gAnd, gNot, gTr, gIs, gVar, startE, S.rd, R.dat, tyD, subT, g2, gN, gCons, gNil, gC, gNx, gRet, gAndV, gNotV, gCall, toA, frR, rF, fin, fI0, len_tup, eq_int, gDCons, gDNil, toD, toS, gSet, ix0, ix1, ix2, gTup, two_z, in_two, q_mark_not, q_arrow_not, q_and_not, q_or_not, eq_str, e_least]
  | a0 :: a1 :: t, hs, bad, good => exact bad (by simp; omega)
theorem wm_and (r : List D) (hl : r.length ≤ 900) (hs : ∀ d ∈ r, Sm d) : Fis_well_made [.d (.tup (.str "and" :: r))] = .ok (.d (.bl (wmB (.tup (.str "and" :: r))))) := by
  rw [wm_row row_and]
  obtain ⟨bad, good⟩ := (wm_pre "and" r hl).2 _ len_and
  match r, hs, bad, good with
  | [], hs, bad, good => exact bad (by simp)
  | [p], hs, bad, good =>
    have g := good (by simp) [] (lat_and p) (by simp) (fun d hd => by
      simp at hd
      )
    have e_least : (("and" : Str) == "least") = false := by decide +kernel
    show _ = M.ok (R.d (D.bl (andB p)))
    rw [g.2 rfl]
    unfold wmT
    cases p with
    | tup xs => simp [gSeq, gIfS, gOr, gAnd, gNot, gTr, gIs, gVar, startE, S.rd, R.dat, tyD, subT, g2, gN, gCons, gNil, gC, gNx, gRet, gAndV, gNotV, gCall, toA, frR, rF, fin, fI0, len_tup, eq_int, gDCons, gDNil, toD, toS, gSet, ix0, ix1, ix2, gTup, two_z, in_two, q_mark_and, q_arrow_and, q_and_and, q_or_and, andB]
    | _ => simp [gSeq, gIfS, gOr, gAnd, gNot, gTr, gIs, gVar, startE, S.rd, R.dat, tyD, subT, g2, gN, gCons, gNil, gC, gNx, gRet, gAndV, gNotV, gCall, toA, frR, rF, fin, fI0, len_tup, eq_int, gDCons, gDNil, toD, toS, gSet, ix0, ix1, ix2, gTup, two_z, in_two, q_mark_and, q_arrow_and, q_and_and, q_or_and, andB]
  | a0 :: a1 :: t, hs, bad, good => exact bad (by simp; omega)
theorem wm_or (r : List D) (hl : r.length ≤ 900) (hs : ∀ d ∈ r, Sm d) : Fis_well_made [.d (.tup (.str "or" :: r))] = .ok (.d (.bl (wmB (.tup (.str "or" :: r))))) := by
  rw [wm_row row_or]
  obtain ⟨bad, good⟩ := (wm_pre "or" r hl).2 _ len_or
  match r, hs, bad, good with
  | [], hs, bad, good => exact bad (by simp)
  | [p], hs, bad, good =>
    have g := good (by simp) [] (lat_or p) (by simp) (fun d hd => by
      simp at hd
      )
    have e_least : (("or" : Str) == "least") = false := by decide +kernel
    show _ = M.ok (R.d (D.bl (andB p)))
    rw [g.2 rfl]
    unfold wmT
    cases p with
    | tup xs => simp [gSeq, gIfS, gOr, gAnd, gNot, gTr, gIs, gVar, startE, S.rd, R.dat, tyD, subT, g2, gN, gCons, gNil, gC, gNx, gRet, gAndV, gNotV, gCall, toA, frR, rF, fin, fI0, len_tup, eq_int, gDCons, gDNil, toD, toS, gSet, ix0, ix1, ix2, gTup, two_z, in_two, q_mark_or, q_arrow_or, q_and_or, q_or_or, andB]
    | _ => simp [gSeq, gIfS, gOr, gAnd, gNot, gTr, gIs, gVar, startE, S.rd, R.dat, tyD, subT, g2, gN, gCons, gNil, gC, gNx, gRet, gAndV, gNotV, gCall, toA, frR, rF, fin, fI0, len_tup, eq_int, gDCons, gDNil, toD, toS, gSet, ix0, ix1, ix2, gTup, two_z, in_two, q_mark_or, q_arrow_or, q_and_or, q_or_or, andB]
  | a0 :: a1 :: t, hs, bad, good => exact bad (by simp; omega)
theorem wm_some (r : List D) (hl : r.length ≤ 900) (hs : ∀ d ∈ r, Sm d) : Fis_well_made [.d (.tup (.str "some" :: r))] = .ok (.d (.bl (wmB (.tup (.str "some" :: r))))) := by
  rw [wm_row row_some]
  obtain ⟨bad, good⟩ := (wm_pre "some" r hl).2 _ len_some
  match r, hs, bad, good with
  | [], hs, bad, good => exact bad (by simp)
  | [a0], hs, bad, good => exact bad (by simp)
  | [x, s], hs, bad, good =>
    have g := good (by simp) [x] (lat_some x s) (by simp) (fun d hd => by
      simp at hd
      subst hd
      exact hs _ (by simp)
      )
    have e_least : (("some" : Str) == "least") = false := by decide +kernel
    show _ = M.ok (R.d (D.bl (leB x)))
    cases hx : leB x with
    | false => exact g.1 (by simp [hx])
    | true =>
      rw [g.2 (by simp [hx])]
      unfold wmT
      simp [gSeq, gIfS, gOr, gAnd, gNot, gTr, gIs, gVar, startE, S.rd, R.dat, tyD, subT, g2, gN, gCons, gNil, gC, gNx, gRet, gAndV, gNotV, gCall, toA, frR, rF, fin, fI0, len_tup, eq_int, gDCons, gDNil, toD, toS, gSet, ix0, ix1, ix2, gTup, two_z, in_two, q_mark_some, q_arrow_some, q_and_some, q_or_some, eq_str, e_least]
  | a0 :: a1 :: a2 :: t, hs, bad, good => exact bad (by simp; omega)
theorem wm_every (r : List D) (hl : r.length ≤ 900) (hs : ∀ d ∈ r, Sm d) : Fis_well_made [.d (.tup (.str "every" :: r))] = .ok (.d (.bl (wmB (.tup (.str "every" :: r))))) := by
  rw [wm_row row_every]
  obtain ⟨bad, good⟩ := (wm_pre "every" r hl).2 _ len_every
  match r, hs, bad, good with
  | [], hs, bad, good => exact bad (by simp)
  | [a0], hs, bad, good => exact bad (by simp)
  | [x, s], hs, bad, good =>
    have g := good (by simp) [x] (lat_every x s) (by simp) (fun d hd => by
      simp at hd
      subst hd
      exact hs _ (by simp)
      )
    have e_least : (("every" : Str) == "least") = false := by decide +kernel
    show _ = M.ok (R.d (D.bl (leB x)))
    cases hx : leB x with
    | false => exact g.1 (by simp [hx])
    | true =>
      rw [g.2 (by simp [hx])]
      unfold wmT
      simp [gSeq, gIfS, gOr, gAnd, gNot, gTr, gIs, gVar, startE, S.rd, R.dat, tyD, subT, g2, gN, gCons, gNil, gC, gNx, gRet, gAndV, gNotV, gCall, toA, frR, rF, fin, fI0, len_tup, eq_int, gDCons, gDNil, toD, toS, gSet, ix0, ix1, ix2, gTup, two_z, in_two, q_mark_every, q_arrow_every, q_and_every, q_or_every, eq_str, e_least]
  | a0 :: a1 :: a2 :: t, hs, bad, good => exact bad (by simp; omega)
theorem wm_least (r : List D) (hl : r.length ≤ 900) (hs : ∀ d ∈ r, Sm d) : Fis_well_made [.d (.tup (.str "least" :: r))] = .ok (.d (.bl (wmB (.tup (.str "least" :: r))))) := by
  rw [wm_row row_least]
  obtain ⟨bad, good⟩ := (wm_pre "least" r hl).2 _ len_least
  match r, hs, bad, good with
  | [], hs, bad, good => exact bad (by simp)
  | [a0], hs, bad, good => exact bad (by simp)
  | [a0, a1], hs, bad, good => exact bad (by simp)
  | [m, x, s], hs, bad, good =>
    have g := good (by simp) [x] (lat_least m x s) (by simp) (fun d hd => by
      simp at hd
      subst hd
      exact hs _ (by simp)
      )
    have e_least : (("least" : Str) == "least") = true := by decide +kernel
    show _ = M.ok (R.d (D.bl (leB x && mB m)))
    cases hx : leB x with
    | false => exact g.1 (by simp [hx])
    | true =>
      rw [g.2 (by simp [hx]), Bool.true_and]
      unfold wmT
      have eq := E_whole m
      generalize K01.Fis_whole = Fw at eq ⊢
      cases m with
      | int i =>
        by_cases h1 : 1 ≤ i
        · simp [gSeq, gIfS, gOr, gAnd, gNot, gTr, gIs, gVar, startE, S.rd, R.dat, tyD, subT, g2, gN, gCons, gNil, gC, gNx, gRet, gAndV, gNotV, gCall, toA, frR, rF, fin, fI0, len_tup, eq_int, gDCons, gDNil, toD, toS, gSet, ix0, ix1, ix2, gTup, two_z, in_two, q_mark_least, q_arrow_least, q_and_least, q_or_least, eq_str, e_least, eq, whB, gCh, h1, mB]
        · simp [gSeq, gIfS, gOr, gAnd, gNot, gTr, gIs, gVar, startE, S.rd, R.dat, tyD, subT, g2, gN, gCons, gNil, gC, gNx, gRet, gAndV, gNotV, gCall, toA, frR, rF, fin, fI0, len_tup, eq_int, gDCons, gDNil, toD, toS, gSet, ix0, ix1, ix2, gTup, two_z, in_two, q_mark_least, q_arrow_least, q_and_least, q_or_least, eq_str, e_least, eq, whB, gCh, h1, mB]
      | _ => simp [gSeq, gIfS, gOr, gAnd, gNot, gTr, gIs, gVar, startE, S.rd, R.dat, tyD, subT, g2, gN, gCons, gNil, gC, gNx, gRet, gAndV, gNotV, gCall, toA, frR, rF, fin, fI0, len_tup, eq_int, gDCons, gDNil, toD, toS, gSet, ix0, ix1, ix2, gTup, two_z, in_two, q_mark_least, q_arrow_least, q_and_least, q_or_least, eq_str, e_least, eq, whB, mB]
  | a0 :: a1 :: a2 :: a3 :: t, hs, bad, good => exact bad (by simp; omega)
theorem E_wm (d : D) (hn : nod d ≤ 900) : Fis_well_made [.d d] = .ok (.d (.bl (wmB d))) := by
  have sm := sm_of (d := d) (by omega)
  cases d with
  | tup xs =>
    match xs with
    | [] => rfl
    | d0 :: r =>
      have hl : r.length ≤ 900 := by
        have := len_nods (d0 :: r)
        simp [nod] at hn
        simp at this
        omega
      have hs : ∀ d ∈ r, Sm d := fun d hd => sm.tl.2 d (List.mem_cons_of_mem _ hd)
      cases d0 with
      | str w =>
        rcases nine w with rfl | rfl | rfl | rfl | rfl | rfl | rfl | rfl | rfl | ⟨h1, h2⟩
        · exact wm_mark r hl hs
        · exact wm_arrow r hl hs
        · exact wm_same r hl hs
        · exact wm_not r hl hs
        · exact wm_and r hl hs
        · exact wm_or r hl hs
        · exact wm_some r hl hs
        · exact wm_every r hl hs
        · exact wm_least r hl hs
        · rw [(wm_pre w r hl).1 h2]
          show _ = M.ok (R.d (D.bl (match rowOf w with | some p => p.2.1 r | none => false)))
          rw [h1]
      | _ =>
        have e0 : ¬ ((r.length : Int) + 1 = 0) := by omega
        unfold Fis_well_made gis_well_made
        show fin (gSeq _ _ [some _, none]) = _
        rw [seq_rt (r := .d (.bl false)) ((ifs_yes (by simp [gSeq, gIfS, gOr, gAnd, gNot, gTr, gIs, gVar, startE, S.rd, R.dat, tyD, subT, g2, gN, gCons, gNil, gC, gNx, gRet, gAndV, gNotV, gCall, toA, frR, rF, fin, fI0, len_tup, eq_int, gDCons, gDNil, toD, toS, gSet, ix0, ix1, ix2, e0])).trans rfl)]
        rfl
  | _ => rfl
end K11
set_option Elab.async false
set_option linter.all false
set_option maxRecDepth 100000
set_option maxHeartbeats 4000000
namespace K11
open PySem DL K01
theorem andB_form {p : D} (h : andB p = true) : ∃ xs, p = .tup xs ∧ xs.length ≠ 1 := by
  cases p with
  | tup xs =>
    refine ⟨xs, rfl, fun z => ?_⟩
    have h' : (!((xs.length : Int) == 1)) = true := h
    rw [z] at h'
    cases h'
  | _ => cases h
theorem e_mark_mark : (("mark" : Str) == "mark") = true := by decide +kernel
theorem e_arrow_mark : (("arrow" : Str) == "mark") = false := by decide +kernel
theorem e_arrow_arrow : (("arrow" : Str) == "arrow") = true := by decide +kernel
theorem e_same_mark : (("same" : Str) == "mark") = false := by decide +kernel
theorem e_same_arrow : (("same" : Str) == "arrow") = false := by decide +kernel
theorem e_same_same : (("same" : Str) == "same") = true := by decide +kernel
theorem e_not_mark : (("not" : Str) == "mark") = false := by decide +kernel
theorem e_not_arrow : (("not" : Str) == "arrow") = false := by decide +kernel
theorem e_not_same : (("not" : Str) == "same") = false := by decide +kernel
theorem e_not_not : (("not" : Str) == "not") = true := by decide +kernel
theorem e_and_mark : (("and" : Str) == "mark") = false := by decide +kernel
theorem e_and_arrow : (("and" : Str) == "arrow") = false := by decide +kernel
theorem e_and_same : (("and" : Str) == "same") = false := by decide +kernel
theorem e_and_not : (("and" : Str) == "not") = false := by decide +kernel
theorem e_and_and : (("and" : Str) == "and") = true := by decide +kernel
theorem e_and_or : (("and" : Str) == "or") = false := by decide +kernel
theorem e_or_mark : (("or" : Str) == "mark") = false := by decide +kernel
theorem e_or_arrow : (("or" : Str) == "arrow") = false := by decide +kernel
theorem e_or_same : (("or" : Str) == "same") = false := by decide +kernel
theorem e_or_not : (("or" : Str) == "not") = false := by decide +kernel
theorem e_or_and : (("or" : Str) == "and") = false := by decide +kernel
theorem e_or_or : (("or" : Str) == "or") = true := by decide +kernel
theorem e_some_mark : (("some" : Str) == "mark") = false := by decide +kernel
theorem e_some_arrow : (("some" : Str) == "arrow") = false := by decide +kernel
theorem e_some_same : (("some" : Str) == "same") = false := by decide +kernel
theorem e_some_not : (("some" : Str) == "not") = false := by decide +kernel
theorem e_some_and : (("some" : Str) == "and") = false := by decide +kernel
theorem e_some_or : (("some" : Str) == "or") = false := by decide +kernel
theorem e_some_some : (("some" : Str) == "some") = true := by decide +kernel
theorem e_some_every : (("some" : Str) == "every") = false := by decide +kernel
theorem e_every_mark : (("every" : Str) == "mark") = false := by decide +kernel
theorem e_every_arrow : (("every" : Str) == "arrow") = false := by decide +kernel
theorem e_every_same : (("every" : Str) == "same") = false := by decide +kernel
theorem e_every_not : (("every" : Str) == "not") = false := by decide +kernel
theorem e_every_and : (("every" : Str) == "and") = false := by decide +kernel
theorem e_every_or : (("every" : Str) == "or") = false := by decide +kernel
theorem e_every_some : (("every" : Str) == "some") = false := by decide +kernel
theorem e_every_every : (("every" : Str) == "every") = true := by decide +kernel
theorem e_least_mark : (("least" : Str) == "mark") = false := by decide +kernel
theorem e_least_arrow : (("least" : Str) == "arrow") = false := by decide +kernel
theorem e_least_same : (("least" : Str) == "same") = false := by decide +kernel
theorem e_least_not : (("least" : Str) == "not") = false := by decide +kernel
theorem e_least_and : (("least" : Str) == "and") = false := by decide +kernel
theorem e_least_or : (("least" : Str) == "or") = false := by decide +kernel
theorem e_least_some : (("least" : Str) == "some") = false := by decide +kernel
theorem e_least_every : (("least" : Str) == "every") = false := by decide +kernel
theorem e_least_least : (("least" : Str) == "least") = true := by decide +kernel
theorem E_in (d : D) (h : wmB d = true) : Fwithin [.d d] = .ok (.d (.tup (insD d))) := by
  cases d with
  | tup xs =>
    match xs, h with
    | [], h => cases h
    | d0 :: r, h =>
      cases d0 with
      | str w =>
        rcases nine w with rfl | rfl | rfl | rfl | rfl | rfl | rfl | rfl | rfl | ⟨h1, h2⟩
        · rw [wm_row row_mark] at h
          rw [in_row row_mark]
          match r, h with
          | [], h => cases h
          | [a0], h => cases h
          | [n, x], h => rfl
          | a0 :: a1 :: a2 :: t, h => cases h
        · rw [wm_row row_arrow] at h
          rw [in_row row_arrow]
          match r, h with
          | [], h => cases h
          | [a0], h => cases h
          | [a0, a1], h => cases h
          | [n, x, y], h => rfl
          | a0 :: a1 :: a2 :: a3 :: t, h => cases h
        · rw [wm_row row_same] at h
          rw [in_row row_same]
          match r, h with
          | [], h => cases h
          | [a0], h => cases h
          | [x, y], h => rfl
          | a0 :: a1 :: a2 :: t, h => cases h
        · rw [wm_row row_not] at h
          rw [in_row row_not]
          match r, h with
          | [], h => cases h
          | [s], h => rfl
          | a0 :: a1 :: t, h => cases h
        · rw [wm_row row_and] at h
          rw [in_row row_and]
          match r, h with
          | [], h => cases h
          | [p], h =>
            obtain ⟨xs, rfl, _⟩ := andB_form (show andB p = true from h)
            rfl
          | a0 :: a1 :: t, h => cases h
        · rw [wm_row row_or] at h
          rw [in_row row_or]
          match r, h with
          | [], h => cases h
          | [p], h =>
            obtain ⟨xs, rfl, _⟩ := andB_form (show andB p = true from h)
            rfl
          | a0 :: a1 :: t, h => cases h
        · rw [wm_row row_some] at h
          rw [in_row row_some]
          match r, h with
          | [], h => cases h
          | [a0], h => cases h
          | [x, s], h => rfl
          | a0 :: a1 :: a2 :: t, h => cases h
        · rw [wm_row row_every] at h
          rw [in_row row_every]
          match r, h with
          | [], h => cases h
          | [a0], h => cases h
          | [x, s], h => rfl
          | a0 :: a1 :: a2 :: t, h => cases h
        · rw [wm_row row_least] at h
          rw [in_row row_least]
          match r, h with
          | [], h => cases h
          | [a0], h => cases h
          | [a0, a1], h => cases h
          | [m, x, s], h => rfl
          | a0 :: a1 :: a2 :: a3 :: t, h => cases h
        · have z : wmB (.tup (.str w :: r)) = false := by
            show (match rowOf w with | some p => p.2.1 r | none => false) = false
            rw [h1]
          rw [z] at h
          cases h
      | _ => cases h
  | _ => cases h
theorem jd_all {xs : List D} {Fr : List S → M R} {J : D → Bool} {w : D} (env : Ev) (h0 : env[0]? = some (some (.d (.tup [w, .tup xs])))) (hl : xs.length ≤ 1000) (hF : ∀ s ∈ xs, Fr [.d s] = .ok (.d (.bl (J s)))) :
    gN fAll (gCons (gComp 1 [] (gItQ (g2 fIx (gVar 0) (gC (.int 1)))) (tgName 0) gTt (gN (gCall 1 Fr) (gCons (gVar 0) gNil))) gNil) env = .ok (.d (.bl (xs.all J))) := by
  have e := compG1 (ge := gN (gCall 1 Fr) (gCons (gVar 0) gNil)) (f := fun d => .bl (J d)) [] xs none fun d hd => by simp [gSeq, gIfS, gOr, gAnd, gNot, gTr, gIs, gVar, startE, S.rd, R.dat, tyD, subT, g2, gN, gCons, gNil, gC, gNx, gRet, gAndV, gNotV, gCall, toA, frR, rF, fin, fI0, len_tup, eq_int, gDCons, gDNil, toD, toS, gSet, ix0, ix1, ix2, hF d hd]
  have i : gItQ (g2 fIx (gVar 0) (gC (.int 1))) env = .ok xs := by simp [gItQ, gSeq, gIfS, gOr, gAnd, gNot, gTr, gIs, gVar, startE, S.rd, R.dat, tyD, subT, g2, gN, gCons, gNil, gC, gNx, gRet, gAndV, gNotV, gCall, toA, frR, rF, fin, fI0, len_tup, eq_int, gDCons, gDNil, toD, toS, gSet, ix0, ix1, ix2, h0, asQ]
  generalize gItQ (g2 fIx (gVar 0) (gC (.int 1))) = gi at i ⊢
  generalize gN (gCall 1 Fr) (gCons (gVar 0) gNil) = ge at e ⊢
  have q : gComp 1 [] gi (tgName 0) gTt ge env = .ok (.l .fresh (xs.map fun d => .bl (J d))) := by
    unfold gComp
    rw [i, bind_ok, if_pos (line1000 hl)]
    show (compG _ _ _ xs [none] >>= _) = _
    rw [e, bind_ok]
  exact n1_eq q (all_map J xs)
theorem jd_mark (Fr : List S → M R) (J : D → Bool) (r : List D) (hr : r ≠ []) (hl : r.length ≤ 900) (hs : ∀ d ∈ r, Sm d) (hF : wmB (.tup (.str "mark" :: r)) = true → ∀ s ∈ insD (.tup (.str "mark" :: r)), Fr [.d s] = .ok (.d (.bl (J s)))) : fin (g_law_judged Fr (startE N_law_judged [.d (.tup (.str "mark" :: r))])) = .ok (.d (.bl (wmB (.tup (.str "mark" :: r)) && (insD (.tup (.str "mark" :: r))).all J))) := by
  rw [wm_row row_mark] at hF ⊢
  rw [in_row row_mark] at hF ⊢
  have HE := E_letter
  have HN := E_lname
  unfold g_law_judged
  generalize Fis_letter = Fl at HE ⊢
  generalize K01.F_law_is_name = Fn at HN ⊢
  show fin (gSeq _ _ [some (.d (.tup (.str "mark" :: r)))]) = _
  have r1 : 1 ≤ r.length := by
    cases r with
    | nil => exact absurd rfl hr
    | cons a t => simp
  have l2 : ¬ ((r.length : Int) + 1 < 2) := by omega
  rw [seq_nx (e := [some (.d (.tup (.str "mark" :: r)))]) ((ifs_no (by simp [gSeq, gIfS, gOr, gAnd, gNot, gTr, gIs, gVar, startE, S.rd, R.dat, tyD, subT, g2, gN, gCons, gNil, gC, gNx, gRet, gAndV, gNotV, gCall, toA, frR, rF, fin, fI0, len_tup, eq_int, gDCons, gDNil, toD, toS, gSet, ix0, ix1, ix2, l2])).trans rfl)]
  match r, hr, hl, hs, hF with
  | [], hr, _, _, _ => exact absurd rfl hr
  | [a0], _, _, hs, hF => rw [seq_rt (r := .d (.bl false)) ((ifs_yes (by simp [gSeq, gIfS, gOr, gAnd, gNot, gTr, gIs, gVar, startE, S.rd, R.dat, tyD, subT, g2, gN, gCons, gNil, gC, gNx, gRet, gAndV, gNotV, gCall, toA, frR, rF, fin, fI0, len_tup, eq_int, gDCons, gDNil, toD, toS, gSet, ix0, ix1, ix2, eq_str, e_mark_mark])).trans (by simp [gSeq, gIfS, gOr, gAnd, gNot, gTr, gIs, gVar, startE, S.rd, R.dat, tyD, subT, g2, gN, gCons, gNil, gC, gNx, gRet, gAndV, gNotV, gCall, toA, frR, rF, fin, fI0, len_tup, eq_int, gDCons, gDNil, toD, toS, gSet, ix0, ix1, ix2]))]; rfl
  | [n, x], _, _, hs, hF =>
    rw [seq_rt (r := .d (.bl (nmB n && leB x))) ((ifs_yes (by simp [gSeq, gIfS, gOr, gAnd, gNot, gTr, gIs, gVar, startE, S.rd, R.dat, tyD, subT, g2, gN, gCons, gNil, gC, gNx, gRet, gAndV, gNotV, gCall, toA, frR, rF, fin, fI0, len_tup, eq_int, gDCons, gDNil, toD, toS, gSet, ix0, ix1, ix2, eq_str, e_mark_mark])).trans (by
      cases q : nmB n <;> simp [gSeq, gIfS, gOr, gAnd, gNot, gTr, gIs, gVar, startE, S.rd, R.dat, tyD, subT, g2, gN, gCons, gNil, gC, gNx, gRet, gAndV, gNotV, gCall, toA, frR, rF, fin, fI0, len_tup, eq_int, gDCons, gDNil, toD, toS, gSet, ix0, ix1, ix2, HN n (hs n (by simp)), HE x (hs x (by simp)), q]))]
    show M.ok (R.d (D.bl (nmB n && leB x))) = M.ok (R.d (D.bl ((leB x && nmB n) && true)))
    rw [Bool.and_true, Bool.and_comm]
  | a0 :: a1 :: a2 :: t, _, _, hs, hF =>
    have q : (((t.length : Int) + 1 + 1 + 1 + 1) == 3) = false := beq_eq_false_iff_ne.mpr (by omega)
    rw [seq_rt (r := .d (.bl false)) ((ifs_yes (by simp [gSeq, gIfS, gOr, gAnd, gNot, gTr, gIs, gVar, startE, S.rd, R.dat, tyD, subT, g2, gN, gCons, gNil, gC, gNx, gRet, gAndV, gNotV, gCall, toA, frR, rF, fin, fI0, len_tup, eq_int, gDCons, gDNil, toD, toS, gSet, ix0, ix1, ix2, eq_str, e_mark_mark])).trans (by simp [gSeq, gIfS, gOr, gAnd, gNot, gTr, gIs, gVar, startE, S.rd, R.dat, tyD, subT, g2, gN, gCons, gNil, gC, gNx, gRet, gAndV, gNotV, gCall, toA, frR, rF, fin, fI0, len_tup, eq_int, gDCons, gDNil, toD, toS, gSet, ix0, ix1, ix2, q]))]; rfl
theorem jd_arrow (Fr : List S → M R) (J : D → Bool) (r : List D) (hr : r ≠ []) (hl : r.length ≤ 900) (hs : ∀ d ∈ r, Sm d) (hF : wmB (.tup (.str "arrow" :: r)) = true → ∀ s ∈ insD (.tup (.str "arrow" :: r)), Fr [.d s] = .ok (.d (.bl (J s)))) : fin (g_law_judged Fr (startE N_law_judged [.d (.tup (.str "arrow" :: r))])) = .ok (.d (.bl (wmB (.tup (.str "arrow" :: r)) && (insD (.tup (.str "arrow" :: r))).all J))) := by
  rw [wm_row row_arrow] at hF ⊢
  rw [in_row row_arrow] at hF ⊢
  have HE := E_letter
  have HN := E_lname
  unfold g_law_judged
  generalize Fis_letter = Fl at HE ⊢
  generalize K01.F_law_is_name = Fn at HN ⊢
  show fin (gSeq _ _ [some (.d (.tup (.str "arrow" :: r)))]) = _
  have r1 : 1 ≤ r.length := by
    cases r with
    | nil => exact absurd rfl hr
    | cons a t => simp
  have l2 : ¬ ((r.length : Int) + 1 < 2) := by omega
  rw [seq_nx (e := [some (.d (.tup (.str "arrow" :: r)))]) ((ifs_no (by simp [gSeq, gIfS, gOr, gAnd, gNot, gTr, gIs, gVar, startE, S.rd, R.dat, tyD, subT, g2, gN, gCons, gNil, gC, gNx, gRet, gAndV, gNotV, gCall, toA, frR, rF, fin, fI0, len_tup, eq_int, gDCons, gDNil, toD, toS, gSet, ix0, ix1, ix2, l2])).trans rfl)]
  rw [seq_nx (e := [some (.d (.tup (.str "arrow" :: r)))]) ((ifs_no (by simp [gSeq, gIfS, gOr, gAnd, gNot, gTr, gIs, gVar, startE, S.rd, R.dat, tyD, subT, g2, gN, gCons, gNil, gC, gNx, gRet, gAndV, gNotV, gCall, toA, frR, rF, fin, fI0, len_tup, eq_int, gDCons, gDNil, toD, toS, gSet, ix0, ix1, ix2, eq_str, e_arrow_mark])).trans rfl)]
  match r, hr, hl, hs, hF with
  | [], hr, _, _, _ => exact absurd rfl hr
  | [a0], _, _, hs, hF => rw [seq_rt (r := .d (.bl false)) ((ifs_yes (by simp [gSeq, gIfS, gOr, gAnd, gNot, gTr, gIs, gVar, startE, S.rd, R.dat, tyD, subT, g2, gN, gCons, gNil, gC, gNx, gRet, gAndV, gNotV, gCall, toA, frR, rF, fin, fI0, len_tup, eq_int, gDCons, gDNil, toD, toS, gSet, ix0, ix1, ix2, eq_str, e_arrow_arrow])).trans (by simp [gSeq, gIfS, gOr, gAnd, gNot, gTr, gIs, gVar, startE, S.rd, R.dat, tyD, subT, g2, gN, gCons, gNil, gC, gNx, gRet, gAndV, gNotV, gCall, toA, frR, rF, fin, fI0, len_tup, eq_int, gDCons, gDNil, toD, toS, gSet, ix0, ix1, ix2]))]; rfl
  | [a0, a1], _, _, hs, hF => rw [seq_rt (r := .d (.bl false)) ((ifs_yes (by simp [gSeq, gIfS, gOr, gAnd, gNot, gTr, gIs, gVar, startE, S.rd, R.dat, tyD, subT, g2, gN, gCons, gNil, gC, gNx, gRet, gAndV, gNotV, gCall, toA, frR, rF, fin, fI0, len_tup, eq_int, gDCons, gDNil, toD, toS, gSet, ix0, ix1, ix2, eq_str, e_arrow_arrow])).trans (by simp [gSeq, gIfS, gOr, gAnd, gNot, gTr, gIs, gVar, startE, S.rd, R.dat, tyD, subT, g2, gN, gCons, gNil, gC, gNx, gRet, gAndV, gNotV, gCall, toA, frR, rF, fin, fI0, len_tup, eq_int, gDCons, gDNil, toD, toS, gSet, ix0, ix1, ix2]))]; rfl
  | [n, x, y], _, _, hs, hF =>
    rw [seq_rt (r := .d (.bl (nmB n && (leB x && leB y)))) ((ifs_yes (by simp [gSeq, gIfS, gOr, gAnd, gNot, gTr, gIs, gVar, startE, S.rd, R.dat, tyD, subT, g2, gN, gCons, gNil, gC, gNx, gRet, gAndV, gNotV, gCall, toA, frR, rF, fin, fI0, len_tup, eq_int, gDCons, gDNil, toD, toS, gSet, ix0, ix1, ix2, eq_str, e_arrow_arrow])).trans (by
      have i3 : fIx (.d (.tup [.str "arrow", n, x, y])) (.d (.int 3)) = .ok (.d y) := fIx_tup (k := 3) rfl
      cases q : nmB n <;> cases q2 : leB x <;> simp [gSeq, gIfS, gOr, gAnd, gNot, gTr, gIs, gVar, startE, S.rd, R.dat, tyD, subT, g2, gN, gCons, gNil, gC, gNx, gRet, gAndV, gNotV, gCall, toA, frR, rF, fin, fI0, len_tup, eq_int, gDCons, gDNil, toD, toS, gSet, ix0, ix1, ix2, HN n (hs n (by simp)), HE x (hs x (by simp)), HE y (hs y (by simp)), q, q2, i3]))]
    show M.ok (R.d (D.bl (nmB n && (leB x && leB y)))) = M.ok (R.d (D.bl ((leB x && (leB y && nmB n)) && true)))
    cases nmB n <;> cases leB x <;> cases leB y <;> rfl
  | a0 :: a1 :: a2 :: a3 :: t, _, _, hs, hF =>
    have q : (((t.length : Int) + 1 + 1 + 1 + 1 + 1) == 4) = false := beq_eq_false_iff_ne.mpr (by omega)
    rw [seq_rt (r := .d (.bl false)) ((ifs_yes (by simp [gSeq, gIfS, gOr, gAnd, gNot, gTr, gIs, gVar, startE, S.rd, R.dat, tyD, subT, g2, gN, gCons, gNil, gC, gNx, gRet, gAndV, gNotV, gCall, toA, frR, rF, fin, fI0, len_tup, eq_int, gDCons, gDNil, toD, toS, gSet, ix0, ix1, ix2, eq_str, e_arrow_arrow])).trans (by simp [gSeq, gIfS, gOr, gAnd, gNot, gTr, gIs, gVar, startE, S.rd, R.dat, tyD, subT, g2, gN, gCons, gNil, gC, gNx, gRet, gAndV, gNotV, gCall, toA, frR, rF, fin, fI0, len_tup, eq_int, gDCons, gDNil, toD, toS, gSet, ix0, ix1, ix2, q]))]; rfl
theorem jd_same (Fr : List S → M R) (J : D → Bool) (r : List D) (hr : r ≠ []) (hl : r.length ≤ 900) (hs : ∀ d ∈ r, Sm d) (hF : wmB (.tup (.str "same" :: r)) = true → ∀ s ∈ insD (.tup (.str "same" :: r)), Fr [.d s] = .ok (.d (.bl (J s)))) : fin (g_law_judged Fr (startE N_law_judged [.d (.tup (.str "same" :: r))])) = .ok (.d (.bl (wmB (.tup (.str "same" :: r)) && (insD (.tup (.str "same" :: r))).all J))) := by
  rw [wm_row row_same] at hF ⊢
  rw [in_row row_same] at hF ⊢
  have HE := E_letter
  have HN := E_lname
  unfold g_law_judged
  generalize Fis_letter = Fl at HE ⊢
  generalize K01.F_law_is_name = Fn at HN ⊢
  show fin (gSeq _ _ [some (.d (.tup (.str "same" :: r)))]) = _
  have r1 : 1 ≤ r.length := by
    cases r with
    | nil => exact absurd rfl hr
    | cons a t => simp
  have l2 : ¬ ((r.length : Int) + 1 < 2) := by omega
  rw [seq_nx (e := [some (.d (.tup (.str "same" :: r)))]) ((ifs_no (by simp [gSeq, gIfS, gOr, gAnd, gNot, gTr, gIs, gVar, startE, S.rd, R.dat, tyD, subT, g2, gN, gCons, gNil, gC, gNx, gRet, gAndV, gNotV, gCall, toA, frR, rF, fin, fI0, len_tup, eq_int, gDCons, gDNil, toD, toS, gSet, ix0, ix1, ix2, l2])).trans rfl)]
  rw [seq_nx (e := [some (.d (.tup (.str "same" :: r)))]) ((ifs_no (by simp [gSeq, gIfS, gOr, gAnd, gNot, gTr, gIs, gVar, startE, S.rd, R.dat, tyD, subT, g2, gN, gCons, gNil, gC, gNx, gRet, gAndV, gNotV, gCall, toA, frR, rF, fin, fI0, len_tup, eq_int, gDCons, gDNil, toD, toS, gSet, ix0, ix1, ix2, eq_str, e_same_mark])).trans rfl)]
  rw [seq_nx (e := [some (.d (.tup (.str "same" :: r)))]) ((ifs_no (by simp [gSeq, gIfS, gOr, gAnd, gNot, gTr, gIs, gVar, startE, S.rd, R.dat, tyD, subT, g2, gN, gCons, gNil, gC, gNx, gRet, gAndV, gNotV, gCall, toA, frR, rF, fin, fI0, len_tup, eq_int, gDCons, gDNil, toD, toS, gSet, ix0, ix1, ix2, eq_str, e_same_arrow])).trans rfl)]
  match r, hr, hl, hs, hF with
  | [], hr, _, _, _ => exact absurd rfl hr
  | [a0], _, _, hs, hF => rw [seq_rt (r := .d (.bl false)) ((ifs_yes (by simp [gSeq, gIfS, gOr, gAnd, gNot, gTr, gIs, gVar, startE, S.rd, R.dat, tyD, subT, g2, gN, gCons, gNil, gC, gNx, gRet, gAndV, gNotV, gCall, toA, frR, rF, fin, fI0, len_tup, eq_int, gDCons, gDNil, toD, toS, gSet, ix0, ix1, ix2, eq_str, e_same_same])).trans (by simp [gSeq, gIfS, gOr, gAnd, gNot, gTr, gIs, gVar, startE, S.rd, R.dat, tyD, subT, g2, gN, gCons, gNil, gC, gNx, gRet, gAndV, gNotV, gCall, toA, frR, rF, fin, fI0, len_tup, eq_int, gDCons, gDNil, toD, toS, gSet, ix0, ix1, ix2]))]; rfl
  | [x, y], _, _, hs, hF =>
    rw [seq_rt (r := .d (.bl (leB x && leB y))) ((ifs_yes (by simp [gSeq, gIfS, gOr, gAnd, gNot, gTr, gIs, gVar, startE, S.rd, R.dat, tyD, subT, g2, gN, gCons, gNil, gC, gNx, gRet, gAndV, gNotV, gCall, toA, frR, rF, fin, fI0, len_tup, eq_int, gDCons, gDNil, toD, toS, gSet, ix0, ix1, ix2, eq_str, e_same_same])).trans (by
      cases q : leB x <;> simp [gSeq, gIfS, gOr, gAnd, gNot, gTr, gIs, gVar, startE, S.rd, R.dat, tyD, subT, g2, gN, gCons, gNil, gC, gNx, gRet, gAndV, gNotV, gCall, toA, frR, rF, fin, fI0, len_tup, eq_int, gDCons, gDNil, toD, toS, gSet, ix0, ix1, ix2, HE x (hs x (by simp)), HE y (hs y (by simp)), q]))]
    show M.ok (R.d (D.bl (leB x && leB y))) = M.ok (R.d (D.bl ((leB x && leB y) && true)))
    rw [Bool.and_true]
  | a0 :: a1 :: a2 :: t, _, _, hs, hF =>
    have q : (((t.length : Int) + 1 + 1 + 1 + 1) == 3) = false := beq_eq_false_iff_ne.mpr (by omega)
    rw [seq_rt (r := .d (.bl false)) ((ifs_yes (by simp [gSeq, gIfS, gOr, gAnd, gNot, gTr, gIs, gVar, startE, S.rd, R.dat, tyD, subT, g2, gN, gCons, gNil, gC, gNx, gRet, gAndV, gNotV, gCall, toA, frR, rF, fin, fI0, len_tup, eq_int, gDCons, gDNil, toD, toS, gSet, ix0, ix1, ix2, eq_str, e_same_same])).trans (by simp [gSeq, gIfS, gOr, gAnd, gNot, gTr, gIs, gVar, startE, S.rd, R.dat, tyD, subT, g2, gN, gCons, gNil, gC, gNx, gRet, gAndV, gNotV, gCall, toA, frR, rF, fin, fI0, len_tup, eq_int, gDCons, gDNil, toD, toS, gSet, ix0, ix1, ix2, q]))]; rfl
theorem jd_not (Fr : List S → M R) (J : D → Bool) (r : List D) (hr : r ≠ []) (hl : r.length ≤ 900) (hs : ∀ d ∈ r, Sm d) (hF : wmB (.tup (.str "not" :: r)) = true → ∀ s ∈ insD (.tup (.str "not" :: r)), Fr [.d s] = .ok (.d (.bl (J s)))) : fin (g_law_judged Fr (startE N_law_judged [.d (.tup (.str "not" :: r))])) = .ok (.d (.bl (wmB (.tup (.str "not" :: r)) && (insD (.tup (.str "not" :: r))).all J))) := by
  rw [wm_row row_not] at hF ⊢
  rw [in_row row_not] at hF ⊢
  have HE := E_letter
  have HN := E_lname
  unfold g_law_judged
  generalize Fis_letter = Fl at HE ⊢
  generalize K01.F_law_is_name = Fn at HN ⊢
  show fin (gSeq _ _ [some (.d (.tup (.str "not" :: r)))]) = _
  have r1 : 1 ≤ r.length := by
    cases r with
    | nil => exact absurd rfl hr
    | cons a t => simp
  have l2 : ¬ ((r.length : Int) + 1 < 2) := by omega
  rw [seq_nx (e := [some (.d (.tup (.str "not" :: r)))]) ((ifs_no (by simp [gSeq, gIfS, gOr, gAnd, gNot, gTr, gIs, gVar, startE, S.rd, R.dat, tyD, subT, g2, gN, gCons, gNil, gC, gNx, gRet, gAndV, gNotV, gCall, toA, frR, rF, fin, fI0, len_tup, eq_int, gDCons, gDNil, toD, toS, gSet, ix0, ix1, ix2, l2])).trans rfl)]
  rw [seq_nx (e := [some (.d (.tup (.str "not" :: r)))]) ((ifs_no (by simp [gSeq, gIfS, gOr, gAnd, gNot, gTr, gIs, gVar, startE, S.rd, R.dat, tyD, subT, g2, gN, gCons, gNil, gC, gNx, gRet, gAndV, gNotV, gCall, toA, frR, rF, fin, fI0, len_tup, eq_int, gDCons, gDNil, toD, toS, gSet, ix0, ix1, ix2, eq_str, e_not_mark])).trans rfl)]
  rw [seq_nx (e := [some (.d (.tup (.str "not" :: r)))]) ((ifs_no (by simp [gSeq, gIfS, gOr, gAnd, gNot, gTr, gIs, gVar, startE, S.rd, R.dat, tyD, subT, g2, gN, gCons, gNil, gC, gNx, gRet, gAndV, gNotV, gCall, toA, frR, rF, fin, fI0, len_tup, eq_int, gDCons, gDNil, toD, toS, gSet, ix0, ix1, ix2, eq_str, e_not_arrow])).trans rfl)]
  rw [seq_nx (e := [some (.d (.tup (.str "not" :: r)))]) ((ifs_no (by simp [gSeq, gIfS, gOr, gAnd, gNot, gTr, gIs, gVar, startE, S.rd, R.dat, tyD, subT, g2, gN, gCons, gNil, gC, gNx, gRet, gAndV, gNotV, gCall, toA, frR, rF, fin, fI0, len_tup, eq_int, gDCons, gDNil, toD, toS, gSet, ix0, ix1, ix2, eq_str, e_not_same])).trans rfl)]
  match r, hr, hl, hs, hF with
  | [], hr, _, _, _ => exact absurd rfl hr
  | [s], _, _, hs, hF =>
    have f := hF rfl s (by simp [iNot])
    rw [seq_rt (r := .d (.bl (J s))) ((ifs_yes (by simp [gSeq, gIfS, gOr, gAnd, gNot, gTr, gIs, gVar, startE, S.rd, R.dat, tyD, subT, g2, gN, gCons, gNil, gC, gNx, gRet, gAndV, gNotV, gCall, toA, frR, rF, fin, fI0, len_tup, eq_int, gDCons, gDNil, toD, toS, gSet, ix0, ix1, ix2, eq_str, e_not_not])).trans (by simp [gSeq, gIfS, gOr, gAnd, gNot, gTr, gIs, gVar, startE, S.rd, R.dat, tyD, subT, g2, gN, gCons, gNil, gC, gNx, gRet, gAndV, gNotV, gCall, toA, frR, rF, fin, fI0, len_tup, eq_int, gDCons, gDNil, toD, toS, gSet, ix0, ix1, ix2, f]))]
    show M.ok (R.d (D.bl (J s))) = M.ok (R.d (D.bl (true && (J s && true))))
    rw [Bool.true_and, Bool.and_true]
  | a0 :: a1 :: t, _, _, hs, hF =>
    have q : (((t.length : Int) + 1 + 1 + 1) == 2) = false := beq_eq_false_iff_ne.mpr (by omega)
    rw [seq_rt (r := .d (.bl false)) ((ifs_yes (by simp [gSeq, gIfS, gOr, gAnd, gNot, gTr, gIs, gVar, startE, S.rd, R.dat, tyD, subT, g2, gN, gCons, gNil, gC, gNx, gRet, gAndV, gNotV, gCall, toA, frR, rF, fin, fI0, len_tup, eq_int, gDCons, gDNil, toD, toS, gSet, ix0, ix1, ix2, eq_str, e_not_not])).trans (by simp [gSeq, gIfS, gOr, gAnd, gNot, gTr, gIs, gVar, startE, S.rd, R.dat, tyD, subT, g2, gN, gCons, gNil, gC, gNx, gRet, gAndV, gNotV, gCall, toA, frR, rF, fin, fI0, len_tup, eq_int, gDCons, gDNil, toD, toS, gSet, ix0, ix1, ix2, q]))]; rfl
theorem jd_and (Fr : List S → M R) (J : D → Bool) (r : List D) (hr : r ≠ []) (hl : r.length ≤ 900) (hs : ∀ d ∈ r, Sm d) (hF : wmB (.tup (.str "and" :: r)) = true → ∀ s ∈ insD (.tup (.str "and" :: r)), Fr [.d s] = .ok (.d (.bl (J s)))) : fin (g_law_judged Fr (startE N_law_judged [.d (.tup (.str "and" :: r))])) = .ok (.d (.bl (wmB (.tup (.str "and" :: r)) && (insD (.tup (.str "and" :: r))).all J))) := by
  rw [wm_row row_and] at hF ⊢
  rw [in_row row_and] at hF ⊢
  have HE := E_letter
  have HN := E_lname
  unfold g_law_judged
  generalize Fis_letter = Fl at HE ⊢
  generalize K01.F_law_is_name = Fn at HN ⊢
  show fin (gSeq _ _ [some (.d (.tup (.str "and" :: r)))]) = _
  have r1 : 1 ≤ r.length := by
    cases r with
    | nil => exact absurd rfl hr
    | cons a t => simp
  have l2 : ¬ ((r.length : Int) + 1 < 2) := by omega
  rw [seq_nx (e := [some (.d (.tup (.str "and" :: r)))]) ((ifs_no (by simp [gSeq, gIfS, gOr, gAnd, gNot, gTr, gIs, gVar, startE, S.rd, R.dat, tyD, subT, g2, gN, gCons, gNil, gC, gNx, gRet, gAndV, gNotV, gCall, toA, frR, rF, fin, fI0, len_tup, eq_int, gDCons, gDNil, toD, toS, gSet, ix0, ix1, ix2, l2])).trans rfl)]
  rw [seq_nx (e := [some (.d (.tup (.str "and" :: r)))]) ((ifs_no (by simp [gSeq, gIfS, gOr, gAnd, gNot, gTr, gIs, gVar, startE, S.rd, R.dat, tyD, subT, g2, gN, gCons, gNil, gC, gNx, gRet, gAndV, gNotV, gCall, toA, frR, rF, fin, fI0, len_tup, eq_int, gDCons, gDNil, toD, toS, gSet, ix0, ix1, ix2, eq_str, e_and_mark])).trans rfl)]
  rw [seq_nx (e := [some (.d (.tup (.str "and" :: r)))]) ((ifs_no (by simp [gSeq, gIfS, gOr, gAnd, gNot, gTr, gIs, gVar, startE, S.rd, R.dat, tyD, subT, g2, gN, gCons, gNil, gC, gNx, gRet, gAndV, gNotV, gCall, toA, frR, rF, fin, fI0, len_tup, eq_int, gDCons, gDNil, toD, toS, gSet, ix0, ix1, ix2, eq_str, e_and_arrow])).trans rfl)]
  rw [seq_nx (e := [some (.d (.tup (.str "and" :: r)))]) ((ifs_no (by simp [gSeq, gIfS, gOr, gAnd, gNot, gTr, gIs, gVar, startE, S.rd, R.dat, tyD, subT, g2, gN, gCons, gNil, gC, gNx, gRet, gAndV, gNotV, gCall, toA, frR, rF, fin, fI0, len_tup, eq_int, gDCons, gDNil, toD, toS, gSet, ix0, ix1, ix2, eq_str, e_and_same])).trans rfl)]
  rw [seq_nx (e := [some (.d (.tup (.str "and" :: r)))]) ((ifs_no (by simp [gSeq, gIfS, gOr, gAnd, gNot, gTr, gIs, gVar, startE, S.rd, R.dat, tyD, subT, g2, gN, gCons, gNil, gC, gNx, gRet, gAndV, gNotV, gCall, toA, frR, rF, fin, fI0, len_tup, eq_int, gDCons, gDNil, toD, toS, gSet, ix0, ix1, ix2, eq_str, e_and_not])).trans rfl)]
  match r, hr, hl, hs, hF with
  | [], hr, _, _, _ => exact absurd rfl hr
  | [p], _, _, hs, hF =>
    cases hp : andB p with
    | false =>
      rw [seq_rt (r := .d (.bl false)) ((ifs_yes (by simp [gSeq, gIfS, gOr, gAnd, gNot, gTr, gIs, gVar, startE, S.rd, R.dat, tyD, subT, g2, gN, gCons, gNil, gC, gNx, gRet, gAndV, gNotV, gCall, toA, frR, rF, fin, fI0, len_tup, eq_int, gDCons, gDNil, toD, toS, gSet, ix0, ix1, ix2, eq_str, e_and_and, e_and_or])).trans (by
        rw [seq_rt (r := .d (.bl false)) ((ifs_yes (by
          cases p with
          | tup xs =>
            have hq : ((xs.length : Int) == 1) = true := by
              cases z : ((xs.length : Int) == 1)
              · have hp' : (!((xs.length : Int) == 1)) = false := hp
                rw [z] at hp'
                cases hp'
              · rfl
            simp [gSeq, gIfS, gOr, gAnd, gNot, gTr, gIs, gVar, startE, S.rd, R.dat, tyD, subT, g2, gN, gCons, gNil, gC, gNx, gRet, gAndV, gNotV, gCall, toA, frR, rF, fin, fI0, len_tup, eq_int, gDCons, gDNil, toD, toS, gSet, ix0, ix1, ix2, hq]
          | _ => simp [gSeq, gIfS, gOr, gAnd, gNot, gTr, gIs, gVar, startE, S.rd, R.dat, tyD, subT, g2, gN, gCons, gNil, gC, gNx, gRet, gAndV, gNotV, gCall, toA, frR, rF, fin, fI0, len_tup, eq_int, gDCons, gDNil, toD, toS, gSet, ix0, ix1, ix2])).trans rfl)]))]
      show M.ok (R.d (D.bl false)) = M.ok (R.d (D.bl (andB p && _)))
      rw [hp]
      rfl
    | true =>
      obtain ⟨xs, rfl, hne⟩ := andB_form hp
      have ne1 : ((xs.length : Int) == 1) = false := beq_eq_false_iff_ne.mpr (by omega)
      have al := jd_all (Fr := Fr) (J := J) (w := .str "and") (xs := xs) [some (.d (.tup [.str "and", .tup xs]))] rfl (hs (.tup xs) (by simp)).tl.1 fun s h => hF hp s (by simpa [iAnd] using h)
      rw [seq_rt (r := .d (.bl (xs.all J))) ((ifs_yes (by simp [gSeq, gIfS, gOr, gAnd, gNot, gTr, gIs, gVar, startE, S.rd, R.dat, tyD, subT, g2, gN, gCons, gNil, gC, gNx, gRet, gAndV, gNotV, gCall, toA, frR, rF, fin, fI0, len_tup, eq_int, gDCons, gDNil, toD, toS, gSet, ix0, ix1, ix2, eq_str, e_and_and, e_and_or])).trans (by
        rw [seq_nx (e := [some (.d (.tup [.str "and", .tup xs]))]) ((ifs_no (by simp [gSeq, gIfS, gOr, gAnd, gNot, gTr, gIs, gVar, startE, S.rd, R.dat, tyD, subT, g2, gN, gCons, gNil, gC, gNx, gRet, gAndV, gNotV, gCall, toA, frR, rF, fin, fI0, len_tup, eq_int, gDCons, gDNil, toD, toS, gSet, ix0, ix1, ix2, ne1])).trans rfl)]
        exact ret_eq al rfl))]
      show M.ok (R.d (D.bl (xs.all J))) = M.ok (R.d (D.bl (andB (.tup xs) && xs.all J)))
      rw [hp, Bool.true_and]
  | a0 :: a1 :: t, _, _, hs, hF =>
    have q : (((t.length : Int) + 1 + 1 + 1) == 2) = false := beq_eq_false_iff_ne.mpr (by omega)
    rw [seq_rt (r := .d (.bl false)) ((ifs_yes (by simp [gSeq, gIfS, gOr, gAnd, gNot, gTr, gIs, gVar, startE, S.rd, R.dat, tyD, subT, g2, gN, gCons, gNil, gC, gNx, gRet, gAndV, gNotV, gCall, toA, frR, rF, fin, fI0, len_tup, eq_int, gDCons, gDNil, toD, toS, gSet, ix0, ix1, ix2, eq_str, e_and_and, e_and_or])).trans (by rw [seq_rt (r := .d (.bl false)) ((ifs_yes (by simp [gSeq, gIfS, gOr, gAnd, gNot, gTr, gIs, gVar, startE, S.rd, R.dat, tyD, subT, g2, gN, gCons, gNil, gC, gNx, gRet, gAndV, gNotV, gCall, toA, frR, rF, fin, fI0, len_tup, eq_int, gDCons, gDNil, toD, toS, gSet, ix0, ix1, ix2, q])).trans rfl)]))]; rfl
theorem jd_or (Fr : List S → M R) (J : D → Bool) (r : List D) (hr : r ≠ []) (hl : r.length ≤ 900) (hs : ∀ d ∈ r, Sm d) (hF : wmB (.tup (.str "or" :: r)) = true → ∀ s ∈ insD (.tup (.str "or" :: r)), Fr [.d s] = .ok (.d (.bl (J s)))) : fin (g_law_judged Fr (startE N_law_judged [.d (.tup (.str "or" :: r))])) = .ok (.d (.bl (wmB (.tup (.str "or" :: r)) && (insD (.tup (.str "or" :: r))).all J))) := by
  rw [wm_row row_or] at hF ⊢
  rw [in_row row_or] at hF ⊢
  have HE := E_letter
  have HN := E_lname
  unfold g_law_judged
  generalize Fis_letter = Fl at HE ⊢
  generalize K01.F_law_is_name = Fn at HN ⊢
  show fin (gSeq _ _ [some (.d (.tup (.str "or" :: r)))]) = _
  have r1 : 1 ≤ r.length := by
    cases r with
    | nil => exact absurd rfl hr
    | cons a t => simp
  have l2 : ¬ ((r.length : Int) + 1 < 2) := by omega
  rw [seq_nx (e := [some (.d (.tup (.str "or" :: r)))]) ((ifs_no (by simp [gSeq, gIfS, gOr, gAnd, gNot, gTr, gIs, gVar, startE, S.rd, R.dat, tyD, subT, g2, gN, gCons, gNil, gC, gNx, gRet, gAndV, gNotV, gCall, toA, frR, rF, fin, fI0, len_tup, eq_int, gDCons, gDNil, toD, toS, gSet, ix0, ix1, ix2, l2])).trans rfl)]
  rw [seq_nx (e := [some (.d (.tup (.str "or" :: r)))]) ((ifs_no (by simp [gSeq, gIfS, gOr, gAnd, gNot, gTr, gIs, gVar, startE, S.rd, R.dat, tyD, subT, g2, gN, gCons, gNil, gC, gNx, gRet, gAndV, gNotV, gCall, toA, frR, rF, fin, fI0, len_tup, eq_int, gDCons, gDNil, toD, toS, gSet, ix0, ix1, ix2, eq_str, e_or_mark])).trans rfl)]
  rw [seq_nx (e := [some (.d (.tup (.str "or" :: r)))]) ((ifs_no (by simp [gSeq, gIfS, gOr, gAnd, gNot, gTr, gIs, gVar, startE, S.rd, R.dat, tyD, subT, g2, gN, gCons, gNil, gC, gNx, gRet, gAndV, gNotV, gCall, toA, frR, rF, fin, fI0, len_tup, eq_int, gDCons, gDNil, toD, toS, gSet, ix0, ix1, ix2, eq_str, e_or_arrow])).trans rfl)]
  rw [seq_nx (e := [some (.d (.tup (.str "or" :: r)))]) ((ifs_no (by simp [gSeq, gIfS, gOr, gAnd, gNot, gTr, gIs, gVar, startE, S.rd, R.dat, tyD, subT, g2, gN, gCons, gNil, gC, gNx, gRet, gAndV, gNotV, gCall, toA, frR, rF, fin, fI0, len_tup, eq_int, gDCons, gDNil, toD, toS, gSet, ix0, ix1, ix2, eq_str, e_or_same])).trans rfl)]
  rw [seq_nx (e := [some (.d (.tup (.str "or" :: r)))]) ((ifs_no (by simp [gSeq, gIfS, gOr, gAnd, gNot, gTr, gIs, gVar, startE, S.rd, R.dat, tyD, subT, g2, gN, gCons, gNil, gC, gNx, gRet, gAndV, gNotV, gCall, toA, frR, rF, fin, fI0, len_tup, eq_int, gDCons, gDNil, toD, toS, gSet, ix0, ix1, ix2, eq_str, e_or_not])).trans rfl)]
  match r, hr, hl, hs, hF with
  | [], hr, _, _, _ => exact absurd rfl hr
  | [p], _, _, hs, hF =>
    cases hp : andB p with
    | false =>
      rw [seq_rt (r := .d (.bl false)) ((ifs_yes (by simp [gSeq, gIfS, gOr, gAnd, gNot, gTr, gIs, gVar, startE, S.rd, R.dat, tyD, subT, g2, gN, gCons, gNil, gC, gNx, gRet, gAndV, gNotV, gCall, toA, frR, rF, fin, fI0, len_tup, eq_int, gDCons, gDNil, toD, toS, gSet, ix0, ix1, ix2, eq_str, e_or_and, e_or_or])).trans (by
        rw [seq_rt (r := .d (.bl false)) ((ifs_yes (by
          cases p with
          | tup xs =>
            have hq : ((xs.length : Int) == 1) = true := by
              cases z : ((xs.length : Int) == 1)
              · have hp' : (!((xs.length : Int) == 1)) = false := hp
                rw [z] at hp'
                cases hp'
              · rfl
            simp [gSeq, gIfS, gOr, gAnd, gNot, gTr, gIs, gVar, startE, S.rd, R.dat, tyD, subT, g2, gN, gCons, gNil, gC, gNx, gRet, gAndV, gNotV, gCall, toA, frR, rF, fin, fI0, len_tup, eq_int, gDCons, gDNil, toD, toS, gSet, ix0, ix1, ix2, hq]
          | _ => simp [gSeq, gIfS, gOr, gAnd, gNot, gTr, gIs, gVar, startE, S.rd, R.dat, tyD, subT, g2, gN, gCons, gNil, gC, gNx, gRet, gAndV, gNotV, gCall, toA, frR, rF, fin, fI0, len_tup, eq_int, gDCons, gDNil, toD, toS, gSet, ix0, ix1, ix2])).trans rfl)]))]
      show M.ok (R.d (D.bl false)) = M.ok (R.d (D.bl (andB p && _)))
      rw [hp]
      rfl
    | true =>
      obtain ⟨xs, rfl, hne⟩ := andB_form hp
      have ne1 : ((xs.length : Int) == 1) = false := beq_eq_false_iff_ne.mpr (by omega)
      have al := jd_all (Fr := Fr) (J := J) (w := .str "or") (xs := xs) [some (.d (.tup [.str "or", .tup xs]))] rfl (hs (.tup xs) (by simp)).tl.1 fun s h => hF hp s (by simpa [iAnd] using h)
      rw [seq_rt (r := .d (.bl (xs.all J))) ((ifs_yes (by simp [gSeq, gIfS, gOr, gAnd, gNot, gTr, gIs, gVar, startE, S.rd, R.dat, tyD, subT, g2, gN, gCons, gNil, gC, gNx, gRet, gAndV, gNotV, gCall, toA, frR, rF, fin, fI0, len_tup, eq_int, gDCons, gDNil, toD, toS, gSet, ix0, ix1, ix2, eq_str, e_or_and, e_or_or])).trans (by
        rw [seq_nx (e := [some (.d (.tup [.str "or", .tup xs]))]) ((ifs_no (by simp [gSeq, gIfS, gOr, gAnd, gNot, gTr, gIs, gVar, startE, S.rd, R.dat, tyD, subT, g2, gN, gCons, gNil, gC, gNx, gRet, gAndV, gNotV, gCall, toA, frR, rF, fin, fI0, len_tup, eq_int, gDCons, gDNil, toD, toS, gSet, ix0, ix1, ix2, ne1])).trans rfl)]
        exact ret_eq al rfl))]
      show M.ok (R.d (D.bl (xs.all J))) = M.ok (R.d (D.bl (andB (.tup xs) && xs.all J)))
      rw [hp, Bool.true_and]
  | a0 :: a1 :: t, _, _, hs, hF =>
    have q : (((t.length : Int) + 1 + 1 + 1) == 2) = false := beq_eq_false_iff_ne.mpr (by omega)
    rw [seq_rt (r := .d (.bl false)) ((ifs_yes (by simp [gSeq, gIfS, gOr, gAnd, gNot, gTr, gIs, gVar, startE, S.rd, R.dat, tyD, subT, g2, gN, gCons, gNil, gC, gNx, gRet, gAndV, gNotV, gCall, toA, frR, rF, fin, fI0, len_tup, eq_int, gDCons, gDNil, toD, toS, gSet, ix0, ix1, ix2, eq_str, e_or_and, e_or_or])).trans (by rw [seq_rt (r := .d (.bl false)) ((ifs_yes (by simp [gSeq, gIfS, gOr, gAnd, gNot, gTr, gIs, gVar, startE, S.rd, R.dat, tyD, subT, g2, gN, gCons, gNil, gC, gNx, gRet, gAndV, gNotV, gCall, toA, frR, rF, fin, fI0, len_tup, eq_int, gDCons, gDNil, toD, toS, gSet, ix0, ix1, ix2, q])).trans rfl)]))]; rfl
theorem jd_some (Fr : List S → M R) (J : D → Bool) (r : List D) (hr : r ≠ []) (hl : r.length ≤ 900) (hs : ∀ d ∈ r, Sm d) (hF : wmB (.tup (.str "some" :: r)) = true → ∀ s ∈ insD (.tup (.str "some" :: r)), Fr [.d s] = .ok (.d (.bl (J s)))) : fin (g_law_judged Fr (startE N_law_judged [.d (.tup (.str "some" :: r))])) = .ok (.d (.bl (wmB (.tup (.str "some" :: r)) && (insD (.tup (.str "some" :: r))).all J))) := by
  rw [wm_row row_some] at hF ⊢
  rw [in_row row_some] at hF ⊢
  have HE := E_letter
  have HN := E_lname
  unfold g_law_judged
  generalize Fis_letter = Fl at HE ⊢
  generalize K01.F_law_is_name = Fn at HN ⊢
  show fin (gSeq _ _ [some (.d (.tup (.str "some" :: r)))]) = _
  have r1 : 1 ≤ r.length := by
    cases r with
    | nil => exact absurd rfl hr
    | cons a t => simp
  have l2 : ¬ ((r.length : Int) + 1 < 2) := by omega
  rw [seq_nx (e := [some (.d (.tup (.str "some" :: r)))]) ((ifs_no (by simp [gSeq, gIfS, gOr, gAnd, gNot, gTr, gIs, gVar, startE, S.rd, R.dat, tyD, subT, g2, gN, gCons, gNil, gC, gNx, gRet, gAndV, gNotV, gCall, toA, frR, rF, fin, fI0, len_tup, eq_int, gDCons, gDNil, toD, toS, gSet, ix0, ix1, ix2, l2])).trans rfl)]
  rw [seq_nx (e := [some (.d (.tup (.str "some" :: r)))]) ((ifs_no (by simp [gSeq, gIfS, gOr, gAnd, gNot, gTr, gIs, gVar, startE, S.rd, R.dat, tyD, subT, g2, gN, gCons, gNil, gC, gNx, gRet, gAndV, gNotV, gCall, toA, frR, rF, fin, fI0, len_tup, eq_int, gDCons, gDNil, toD, toS, gSet, ix0, ix1, ix2, eq_str, e_some_mark])).trans rfl)]
  rw [seq_nx (e := [some (.d (.tup (.str "some" :: r)))]) ((ifs_no (by simp [gSeq, gIfS, gOr, gAnd, gNot, gTr, gIs, gVar, startE, S.rd, R.dat, tyD, subT, g2, gN, gCons, gNil, gC, gNx, gRet, gAndV, gNotV, gCall, toA, frR, rF, fin, fI0, len_tup, eq_int, gDCons, gDNil, toD, toS, gSet, ix0, ix1, ix2, eq_str, e_some_arrow])).trans rfl)]
  rw [seq_nx (e := [some (.d (.tup (.str "some" :: r)))]) ((ifs_no (by simp [gSeq, gIfS, gOr, gAnd, gNot, gTr, gIs, gVar, startE, S.rd, R.dat, tyD, subT, g2, gN, gCons, gNil, gC, gNx, gRet, gAndV, gNotV, gCall, toA, frR, rF, fin, fI0, len_tup, eq_int, gDCons, gDNil, toD, toS, gSet, ix0, ix1, ix2, eq_str, e_some_same])).trans rfl)]
  rw [seq_nx (e := [some (.d (.tup (.str "some" :: r)))]) ((ifs_no (by simp [gSeq, gIfS, gOr, gAnd, gNot, gTr, gIs, gVar, startE, S.rd, R.dat, tyD, subT, g2, gN, gCons, gNil, gC, gNx, gRet, gAndV, gNotV, gCall, toA, frR, rF, fin, fI0, len_tup, eq_int, gDCons, gDNil, toD, toS, gSet, ix0, ix1, ix2, eq_str, e_some_not])).trans rfl)]
  rw [seq_nx (e := [some (.d (.tup (.str "some" :: r)))]) ((ifs_no (by simp [gSeq, gIfS, gOr, gAnd, gNot, gTr, gIs, gVar, startE, S.rd, R.dat, tyD, subT, g2, gN, gCons, gNil, gC, gNx, gRet, gAndV, gNotV, gCall, toA, frR, rF, fin, fI0, len_tup, eq_int, gDCons, gDNil, toD, toS, gSet, ix0, ix1, ix2, eq_str, e_some_and, e_some_or])).trans rfl)]
  match r, hr, hl, hs, hF with
  | [], hr, _, _, _ => exact absurd rfl hr
  | [a0], _, _, hs, hF => rw [seq_rt (r := .d (.bl false)) ((ifs_yes (by simp [gSeq, gIfS, gOr, gAnd, gNot, gTr, gIs, gVar, startE, S.rd, R.dat, tyD, subT, g2, gN, gCons, gNil, gC, gNx, gRet, gAndV, gNotV, gCall, toA, frR, rF, fin, fI0, len_tup, eq_int, gDCons, gDNil, toD, toS, gSet, ix0, ix1, ix2, eq_str, e_some_some, e_some_every])).trans (by simp [gSeq, gIfS, gOr, gAnd, gNot, gTr, gIs, gVar, startE, S.rd, R.dat, tyD, subT, g2, gN, gCons, gNil, gC, gNx, gRet, gAndV, gNotV, gCall, toA, frR, rF, fin, fI0, len_tup, eq_int, gDCons, gDNil, toD, toS, gSet, ix0, ix1, ix2]))]; rfl
  | [x, s], _, _, hs, hF =>
    cases q : leB x with
    | false =>
      rw [seq_rt (r := .d (.bl false)) ((ifs_yes (by simp [gSeq, gIfS, gOr, gAnd, gNot, gTr, gIs, gVar, startE, S.rd, R.dat, tyD, subT, g2, gN, gCons, gNil, gC, gNx, gRet, gAndV, gNotV, gCall, toA, frR, rF, fin, fI0, len_tup, eq_int, gDCons, gDNil, toD, toS, gSet, ix0, ix1, ix2, eq_str, e_some_some, e_some_every])).trans (by simp [gSeq, gIfS, gOr, gAnd, gNot, gTr, gIs, gVar, startE, S.rd, R.dat, tyD, subT, g2, gN, gCons, gNil, gC, gNx, gRet, gAndV, gNotV, gCall, toA, frR, rF, fin, fI0, len_tup, eq_int, gDCons, gDNil, toD, toS, gSet, ix0, ix1, ix2, HE x (hs x (by simp)), q]))]
      show M.ok (R.d (D.bl false)) = M.ok (R.d (D.bl (leB x && _)))
      rw [q]
      rfl
    | true =>
      have f := hF q s (by simp [iSome])
      rw [seq_rt (r := .d (.bl (J s))) ((ifs_yes (by simp [gSeq, gIfS, gOr, gAnd, gNot, gTr, gIs, gVar, startE, S.rd, R.dat, tyD, subT, g2, gN, gCons, gNil, gC, gNx, gRet, gAndV, gNotV, gCall, toA, frR, rF, fin, fI0, len_tup, eq_int, gDCons, gDNil, toD, toS, gSet, ix0, ix1, ix2, eq_str, e_some_some, e_some_every])).trans (by simp [gSeq, gIfS, gOr, gAnd, gNot, gTr, gIs, gVar, startE, S.rd, R.dat, tyD, subT, g2, gN, gCons, gNil, gC, gNx, gRet, gAndV, gNotV, gCall, toA, frR, rF, fin, fI0, len_tup, eq_int, gDCons, gDNil, toD, toS, gSet, ix0, ix1, ix2, HE x (hs x (by simp)), q, f]))]
      show M.ok (R.d (D.bl (J s))) = M.ok (R.d (D.bl (leB x && (J s && true))))
      rw [q, Bool.true_and, Bool.and_true]
  | a0 :: a1 :: a2 :: t, _, _, hs, hF =>
    have q : (((t.length : Int) + 1 + 1 + 1 + 1) == 3) = false := beq_eq_false_iff_ne.mpr (by omega)
    rw [seq_rt (r := .d (.bl false)) ((ifs_yes (by simp [gSeq, gIfS, gOr, gAnd, gNot, gTr, gIs, gVar, startE, S.rd, R.dat, tyD, subT, g2, gN, gCons, gNil, gC, gNx, gRet, gAndV, gNotV, gCall, toA, frR, rF, fin, fI0, len_tup, eq_int, gDCons, gDNil, toD, toS, gSet, ix0, ix1, ix2, eq_str, e_some_some, e_some_every])).trans (by simp [gSeq, gIfS, gOr, gAnd, gNot, gTr, gIs, gVar, startE, S.rd, R.dat, tyD, subT, g2, gN, gCons, gNil, gC, gNx, gRet, gAndV, gNotV, gCall, toA, frR, rF, fin, fI0, len_tup, eq_int, gDCons, gDNil, toD, toS, gSet, ix0, ix1, ix2, q]))]; rfl
theorem jd_every (Fr : List S → M R) (J : D → Bool) (r : List D) (hr : r ≠ []) (hl : r.length ≤ 900) (hs : ∀ d ∈ r, Sm d) (hF : wmB (.tup (.str "every" :: r)) = true → ∀ s ∈ insD (.tup (.str "every" :: r)), Fr [.d s] = .ok (.d (.bl (J s)))) : fin (g_law_judged Fr (startE N_law_judged [.d (.tup (.str "every" :: r))])) = .ok (.d (.bl (wmB (.tup (.str "every" :: r)) && (insD (.tup (.str "every" :: r))).all J))) := by
  rw [wm_row row_every] at hF ⊢
  rw [in_row row_every] at hF ⊢
  have HE := E_letter
  have HN := E_lname
  unfold g_law_judged
  generalize Fis_letter = Fl at HE ⊢
  generalize K01.F_law_is_name = Fn at HN ⊢
  show fin (gSeq _ _ [some (.d (.tup (.str "every" :: r)))]) = _
  have r1 : 1 ≤ r.length := by
    cases r with
    | nil => exact absurd rfl hr
    | cons a t => simp
  have l2 : ¬ ((r.length : Int) + 1 < 2) := by omega
  rw [seq_nx (e := [some (.d (.tup (.str "every" :: r)))]) ((ifs_no (by simp [gSeq, gIfS, gOr, gAnd, gNot, gTr, gIs, gVar, startE, S.rd, R.dat, tyD, subT, g2, gN, gCons, gNil, gC, gNx, gRet, gAndV, gNotV, gCall, toA, frR, rF, fin, fI0, len_tup, eq_int, gDCons, gDNil, toD, toS, gSet, ix0, ix1, ix2, l2])).trans rfl)]
  rw [seq_nx (e := [some (.d (.tup (.str "every" :: r)))]) ((ifs_no (by simp [gSeq, gIfS, gOr, gAnd, gNot, gTr, gIs, gVar, startE, S.rd, R.dat, tyD, subT, g2, gN, gCons, gNil, gC, gNx, gRet, gAndV, gNotV, gCall, toA, frR, rF, fin, fI0, len_tup, eq_int, gDCons, gDNil, toD, toS, gSet, ix0, ix1, ix2, eq_str, e_every_mark])).trans rfl)]
  rw [seq_nx (e := [some (.d (.tup (.str "every" :: r)))]) ((ifs_no (by simp [gSeq, gIfS, gOr, gAnd, gNot, gTr, gIs, gVar, startE, S.rd, R.dat, tyD, subT, g2, gN, gCons, gNil, gC, gNx, gRet, gAndV, gNotV, gCall, toA, frR, rF, fin, fI0, len_tup, eq_int, gDCons, gDNil, toD, toS, gSet, ix0, ix1, ix2, eq_str, e_every_arrow])).trans rfl)]
  rw [seq_nx (e := [some (.d (.tup (.str "every" :: r)))]) ((ifs_no (by simp [gSeq, gIfS, gOr, gAnd, gNot, gTr, gIs, gVar, startE, S.rd, R.dat, tyD, subT, g2, gN, gCons, gNil, gC, gNx, gRet, gAndV, gNotV, gCall, toA, frR, rF, fin, fI0, len_tup, eq_int, gDCons, gDNil, toD, toS, gSet, ix0, ix1, ix2, eq_str, e_every_same])).trans rfl)]
  rw [seq_nx (e := [some (.d (.tup (.str "every" :: r)))]) ((ifs_no (by simp [gSeq, gIfS, gOr, gAnd, gNot, gTr, gIs, gVar, startE, S.rd, R.dat, tyD, subT, g2, gN, gCons, gNil, gC, gNx, gRet, gAndV, gNotV, gCall, toA, frR, rF, fin, fI0, len_tup, eq_int, gDCons, gDNil, toD, toS, gSet, ix0, ix1, ix2, eq_str, e_every_not])).trans rfl)]
  rw [seq_nx (e := [some (.d (.tup (.str "every" :: r)))]) ((ifs_no (by simp [gSeq, gIfS, gOr, gAnd, gNot, gTr, gIs, gVar, startE, S.rd, R.dat, tyD, subT, g2, gN, gCons, gNil, gC, gNx, gRet, gAndV, gNotV, gCall, toA, frR, rF, fin, fI0, len_tup, eq_int, gDCons, gDNil, toD, toS, gSet, ix0, ix1, ix2, eq_str, e_every_and, e_every_or])).trans rfl)]
  match r, hr, hl, hs, hF with
  | [], hr, _, _, _ => exact absurd rfl hr
  | [a0], _, _, hs, hF => rw [seq_rt (r := .d (.bl false)) ((ifs_yes (by simp [gSeq, gIfS, gOr, gAnd, gNot, gTr, gIs, gVar, startE, S.rd, R.dat, tyD, subT, g2, gN, gCons, gNil, gC, gNx, gRet, gAndV, gNotV, gCall, toA, frR, rF, fin, fI0, len_tup, eq_int, gDCons, gDNil, toD, toS, gSet, ix0, ix1, ix2, eq_str, e_every_some, e_every_every])).trans (by simp [gSeq, gIfS, gOr, gAnd, gNot, gTr, gIs, gVar, startE, S.rd, R.dat, tyD, subT, g2, gN, gCons, gNil, gC, gNx, gRet, gAndV, gNotV, gCall, toA, frR, rF, fin, fI0, len_tup, eq_int, gDCons, gDNil, toD, toS, gSet, ix0, ix1, ix2]))]; rfl
  | [x, s], _, _, hs, hF =>
    cases q : leB x with
    | false =>
      rw [seq_rt (r := .d (.bl false)) ((ifs_yes (by simp [gSeq, gIfS, gOr, gAnd, gNot, gTr, gIs, gVar, startE, S.rd, R.dat, tyD, subT, g2, gN, gCons, gNil, gC, gNx, gRet, gAndV, gNotV, gCall, toA, frR, rF, fin, fI0, len_tup, eq_int, gDCons, gDNil, toD, toS, gSet, ix0, ix1, ix2, eq_str, e_every_some, e_every_every])).trans (by simp [gSeq, gIfS, gOr, gAnd, gNot, gTr, gIs, gVar, startE, S.rd, R.dat, tyD, subT, g2, gN, gCons, gNil, gC, gNx, gRet, gAndV, gNotV, gCall, toA, frR, rF, fin, fI0, len_tup, eq_int, gDCons, gDNil, toD, toS, gSet, ix0, ix1, ix2, HE x (hs x (by simp)), q]))]
      show M.ok (R.d (D.bl false)) = M.ok (R.d (D.bl (leB x && _)))
      rw [q]
      rfl
    | true =>
      have f := hF q s (by simp [iSome])
      rw [seq_rt (r := .d (.bl (J s))) ((ifs_yes (by simp [gSeq, gIfS, gOr, gAnd, gNot, gTr, gIs, gVar, startE, S.rd, R.dat, tyD, subT, g2, gN, gCons, gNil, gC, gNx, gRet, gAndV, gNotV, gCall, toA, frR, rF, fin, fI0, len_tup, eq_int, gDCons, gDNil, toD, toS, gSet, ix0, ix1, ix2, eq_str, e_every_some, e_every_every])).trans (by simp [gSeq, gIfS, gOr, gAnd, gNot, gTr, gIs, gVar, startE, S.rd, R.dat, tyD, subT, g2, gN, gCons, gNil, gC, gNx, gRet, gAndV, gNotV, gCall, toA, frR, rF, fin, fI0, len_tup, eq_int, gDCons, gDNil, toD, toS, gSet, ix0, ix1, ix2, HE x (hs x (by simp)), q, f]))]
      show M.ok (R.d (D.bl (J s))) = M.ok (R.d (D.bl (leB x && (J s && true))))
      rw [q, Bool.true_and, Bool.and_true]
  | a0 :: a1 :: a2 :: t, _, _, hs, hF =>
    have q : (((t.length : Int) + 1 + 1 + 1 + 1) == 3) = false := beq_eq_false_iff_ne.mpr (by omega)
    rw [seq_rt (r := .d (.bl false)) ((ifs_yes (by simp [gSeq, gIfS, gOr, gAnd, gNot, gTr, gIs, gVar, startE, S.rd, R.dat, tyD, subT, g2, gN, gCons, gNil, gC, gNx, gRet, gAndV, gNotV, gCall, toA, frR, rF, fin, fI0, len_tup, eq_int, gDCons, gDNil, toD, toS, gSet, ix0, ix1, ix2, eq_str, e_every_some, e_every_every])).trans (by simp [gSeq, gIfS, gOr, gAnd, gNot, gTr, gIs, gVar, startE, S.rd, R.dat, tyD, subT, g2, gN, gCons, gNil, gC, gNx, gRet, gAndV, gNotV, gCall, toA, frR, rF, fin, fI0, len_tup, eq_int, gDCons, gDNil, toD, toS, gSet, ix0, ix1, ix2, q]))]; rfl
theorem jd_least (Fr : List S → M R) (J : D → Bool) (r : List D) (hr : r ≠ []) (hl : r.length ≤ 900) (hs : ∀ d ∈ r, Sm d) (hF : wmB (.tup (.str "least" :: r)) = true → ∀ s ∈ insD (.tup (.str "least" :: r)), Fr [.d s] = .ok (.d (.bl (J s)))) : fin (g_law_judged Fr (startE N_law_judged [.d (.tup (.str "least" :: r))])) = .ok (.d (.bl (wmB (.tup (.str "least" :: r)) && (insD (.tup (.str "least" :: r))).all J))) := by
  rw [wm_row row_least] at hF ⊢
  rw [in_row row_least] at hF ⊢
  have HE := E_letter
  have HN := E_lname
  unfold g_law_judged
  generalize Fis_letter = Fl at HE ⊢
  generalize K01.F_law_is_name = Fn at HN ⊢
  show fin (gSeq _ _ [some (.d (.tup (.str "least" :: r)))]) = _
  have r1 : 1 ≤ r.length := by
    cases r with
    | nil => exact absurd rfl hr
    | cons a t => simp
  have l2 : ¬ ((r.length : Int) + 1 < 2) := by omega
  rw [seq_nx (e := [some (.d (.tup (.str "least" :: r)))]) ((ifs_no (by simp [gSeq, gIfS, gOr, gAnd, gNot, gTr, gIs, gVar, startE, S.rd, R.dat, tyD, subT, g2, gN, gCons, gNil, gC, gNx, gRet, gAndV, gNotV, gCall, toA, frR, rF, fin, fI0, len_tup, eq_int, gDCons, gDNil, toD, toS, gSet, ix0, ix1, ix2, l2])).trans rfl)]
  rw [seq_nx (e := [some (.d (.tup (.str "least" :: r)))]) ((ifs_no (by simp [gSeq, gIfS, gOr, gAnd, gNot, gTr, gIs, gVar, startE, S.rd, R.dat, tyD, subT, g2, gN, gCons, gNil, gC, gNx, gRet, gAndV, gNotV, gCall, toA, frR, rF, fin, fI0, len_tup, eq_int, gDCons, gDNil, toD, toS, gSet, ix0, ix1, ix2, eq_str, e_least_mark])).trans rfl)]
  rw [seq_nx (e := [some (.d (.tup (.str "least" :: r)))]) ((ifs_no (by simp [gSeq, gIfS, gOr, gAnd, gNot, gTr, gIs, gVar, startE, S.rd, R.dat, tyD, subT, g2, gN, gCons, gNil, gC, gNx, gRet, gAndV, gNotV, gCall, toA, frR, rF, fin, fI0, len_tup, eq_int, gDCons, gDNil, toD, toS, gSet, ix0, ix1, ix2, eq_str, e_least_arrow])).trans rfl)]
  rw [seq_nx (e := [some (.d (.tup (.str "least" :: r)))]) ((ifs_no (by simp [gSeq, gIfS, gOr, gAnd, gNot, gTr, gIs, gVar, startE, S.rd, R.dat, tyD, subT, g2, gN, gCons, gNil, gC, gNx, gRet, gAndV, gNotV, gCall, toA, frR, rF, fin, fI0, len_tup, eq_int, gDCons, gDNil, toD, toS, gSet, ix0, ix1, ix2, eq_str, e_least_same])).trans rfl)]
  rw [seq_nx (e := [some (.d (.tup (.str "least" :: r)))]) ((ifs_no (by simp [gSeq, gIfS, gOr, gAnd, gNot, gTr, gIs, gVar, startE, S.rd, R.dat, tyD, subT, g2, gN, gCons, gNil, gC, gNx, gRet, gAndV, gNotV, gCall, toA, frR, rF, fin, fI0, len_tup, eq_int, gDCons, gDNil, toD, toS, gSet, ix0, ix1, ix2, eq_str, e_least_not])).trans rfl)]
  rw [seq_nx (e := [some (.d (.tup (.str "least" :: r)))]) ((ifs_no (by simp [gSeq, gIfS, gOr, gAnd, gNot, gTr, gIs, gVar, startE, S.rd, R.dat, tyD, subT, g2, gN, gCons, gNil, gC, gNx, gRet, gAndV, gNotV, gCall, toA, frR, rF, fin, fI0, len_tup, eq_int, gDCons, gDNil, toD, toS, gSet, ix0, ix1, ix2, eq_str, e_least_and, e_least_or])).trans rfl)]
  rw [seq_nx (e := [some (.d (.tup (.str "least" :: r)))]) ((ifs_no (by simp [gSeq, gIfS, gOr, gAnd, gNot, gTr, gIs, gVar, startE, S.rd, R.dat, tyD, subT, g2, gN, gCons, gNil, gC, gNx, gRet, gAndV, gNotV, gCall, toA, frR, rF, fin, fI0, len_tup, eq_int, gDCons, gDNil, toD, toS, gSet, ix0, ix1, ix2, eq_str, e_least_some, e_least_every])).trans rfl)]
  match r, hr, hl, hs, hF with
  | [], hr, _, _, _ => exact absurd rfl hr
  | [a0], _, _, hs, hF => rw [seq_rt (r := .d (.bl false)) ((ifs_yes (by simp [gSeq, gIfS, gOr, gAnd, gNot, gTr, gIs, gVar, startE, S.rd, R.dat, tyD, subT, g2, gN, gCons, gNil, gC, gNx, gRet, gAndV, gNotV, gCall, toA, frR, rF, fin, fI0, len_tup, eq_int, gDCons, gDNil, toD, toS, gSet, ix0, ix1, ix2, eq_str, e_least_least])).trans rfl)]; rfl
  | [a0, a1], _, _, hs, hF => rw [seq_rt (r := .d (.bl false)) ((ifs_yes (by simp [gSeq, gIfS, gOr, gAnd, gNot, gTr, gIs, gVar, startE, S.rd, R.dat, tyD, subT, g2, gN, gCons, gNil, gC, gNx, gRet, gAndV, gNotV, gCall, toA, frR, rF, fin, fI0, len_tup, eq_int, gDCons, gDNil, toD, toS, gSet, ix0, ix1, ix2, eq_str, e_least_least])).trans rfl)]; rfl
  | [m, x, s], _, _, hs, hF =>
    have i3 : fIx (.d (.tup [.str "least", m, x, s])) (.d (.int 3)) = .ok (.d s) := fIx_tup (k := 3) rfl
    cases m with
    | int i =>
      rw [seq_nx (e := [some (.d (.tup [.str "least", .int i, x, s]))]) ((ifs_no (by simp [gSeq, gIfS, gOr, gAnd, gNot, gTr, gIs, gVar, startE, S.rd, R.dat, tyD, subT, g2, gN, gCons, gNil, gC, gNx, gRet, gAndV, gNotV, gCall, toA, frR, rF, fin, fI0, len_tup, eq_int, gDCons, gDNil, toD, toS, gSet, ix0, ix1, ix2, eq_str, e_least_least])).trans rfl)]
      by_cases h1 : 1 ≤ i
      · by_cases h9 : i ≤ 9
        · have hm : mB (.int i) = true := by simp [mB, h1, h9]
          cases q : leB x with
          | false =>
            rw [ret_eq (r := .d (.bl false)) (by simp [gSeq, gIfS, gOr, gAnd, gNot, gTr, gIs, gVar, startE, S.rd, R.dat, tyD, subT, g2, gN, gCons, gNil, gC, gNx, gRet, gAndV, gNotV, gCall, toA, frR, rF, fin, fI0, len_tup, eq_int, gDCons, gDNil, toD, toS, gSet, ix0, ix1, ix2, h1, h9, HE x (hs x (by simp)), q]) rfl]
            show M.ok (R.d (D.bl false)) = M.ok (R.d (D.bl ((leB x && mB (.int i)) && _)))
            rw [q]
            rfl
          | true =>
            have f := hF (show (leB x && mB (.int i)) = true by rw [q, hm]; rfl) s (by simp [iLeast])
            rw [ret_eq (r := .d (.bl (J s))) (by simp [gSeq, gIfS, gOr, gAnd, gNot, gTr, gIs, gVar, startE, S.rd, R.dat, tyD, subT, g2, gN, gCons, gNil, gC, gNx, gRet, gAndV, gNotV, gCall, toA, frR, rF, fin, fI0, len_tup, eq_int, gDCons, gDNil, toD, toS, gSet, ix0, ix1, ix2, h1, h9, HE x (hs x (by simp)), q, i3, f]) rfl]
            show M.ok (R.d (D.bl (J s))) = M.ok (R.d (D.bl ((leB x && mB (.int i)) && (J s && true))))
            rw [q, hm, Bool.true_and, Bool.true_and, Bool.and_true]
        · have hm : mB (.int i) = false := by simp [mB, h1, h9]
          rw [ret_eq (r := .d (.bl false)) (by simp [gSeq, gIfS, gOr, gAnd, gNot, gTr, gIs, gVar, startE, S.rd, R.dat, tyD, subT, g2, gN, gCons, gNil, gC, gNx, gRet, gAndV, gNotV, gCall, toA, frR, rF, fin, fI0, len_tup, eq_int, gDCons, gDNil, toD, toS, gSet, ix0, ix1, ix2, h1, h9]) rfl]
          show M.ok (R.d (D.bl false)) = M.ok (R.d (D.bl ((leB x && mB (.int i)) && _)))
          rw [hm, Bool.and_false]
          rfl
      · have hm : mB (.int i) = false := by simp [mB, h1]
        rw [ret_eq (r := .d (.bl false)) (by simp [gSeq, gIfS, gOr, gAnd, gNot, gTr, gIs, gVar, startE, S.rd, R.dat, tyD, subT, g2, gN, gCons, gNil, gC, gNx, gRet, gAndV, gNotV, gCall, toA, frR, rF, fin, fI0, len_tup, eq_int, gDCons, gDNil, toD, toS, gSet, ix0, ix1, ix2, h1]) rfl]
        show M.ok (R.d (D.bl false)) = M.ok (R.d (D.bl ((leB x && mB (.int i)) && _)))
        rw [hm, Bool.and_false]
        rfl
    | _ =>
      rw [seq_rt (r := .d (.bl false)) ((ifs_yes (by simp [gSeq, gIfS, gOr, gAnd, gNot, gTr, gIs, gVar, startE, S.rd, R.dat, tyD, subT, g2, gN, gCons, gNil, gC, gNx, gRet, gAndV, gNotV, gCall, toA, frR, rF, fin, fI0, len_tup, eq_int, gDCons, gDNil, toD, toS, gSet, ix0, ix1, ix2, eq_str, e_least_least])).trans rfl)]
      show M.ok (R.d (D.bl false)) = M.ok (R.d (D.bl ((leB x && false) && _)))
      rw [Bool.and_false]
      rfl
  | a0 :: a1 :: a2 :: a3 :: t, _, _, hs, hF =>
    have q : (((t.length : Int) + 1 + 1 + 1 + 1 + 1) == 4) = false := beq_eq_false_iff_ne.mpr (by omega)
    rw [seq_rt (r := .d (.bl false)) ((ifs_yes (by simp [gSeq, gIfS, gOr, gAnd, gNot, gTr, gIs, gVar, startE, S.rd, R.dat, tyD, subT, g2, gN, gCons, gNil, gC, gNx, gRet, gAndV, gNotV, gCall, toA, frR, rF, fin, fI0, len_tup, eq_int, gDCons, gDNil, toD, toS, gSet, ix0, ix1, ix2, eq_str, e_least_least, q])).trans rfl)]; rfl
end K11
set_option Elab.async false
set_option linter.all false
set_option maxRecDepth 100000
set_option maxHeartbeats 4000000
namespace K11
open PySem DL K01
theorem in_none {w : Str} {r : List D} (h : rowOf w = none) : insD (.tup (.str w :: r)) = [] := by
  show (match rowOf w with | some p => p.2.2 r | none => []) = _
  rw [h]
theorem wm_none {w : Str} {r : List D} (h : rowOf w = none) : wmB (.tup (.str w :: r)) = false := by
  show (match rowOf w with | some p => p.2.1 r | none => false) = _
  rw [h]
/-- what is within is smaller -/
theorem in_small (d : D) : nods (insD d) + 1 ≤ nod d ∧ ∀ s ∈ insD d, dep s + 1 ≤ dep d := by
  have pos := nod_pos d
  cases d with
  | tup xs =>
    match xs, pos with
    | [], pos => exact ⟨pos, fun s h => by cases h⟩
    | d0 :: r, pos =>
      cases d0 with
      | str w =>
        rcases nine w with rfl | rfl | rfl | rfl | rfl | rfl | rfl | rfl | rfl | ⟨h1, h2⟩
        · rw [in_row row_mark]
          exact ⟨pos, fun s h => by cases h⟩
        · rw [in_row row_arrow]
          exact ⟨pos, fun s h => by cases h⟩
        · rw [in_row row_same]
          exact ⟨pos, fun s h => by cases h⟩
        · rw [in_row row_not]
          match r, pos with
          | [], pos => exact ⟨pos, fun s h => by cases h⟩
          | [s], pos =>
            refine ⟨?_, fun t h => ?_⟩
            · simp [iNot, nod, nods] <;> omega
            · have e : t = s := by simpa [iNot] using h
              subst e
              simp [dep, deps] <;> omega
          | a0 :: a1 :: t, pos => exact ⟨pos, fun s h => by cases h⟩
        · rw [in_row row_and]
          match r, pos with
          | [], pos => exact ⟨pos, fun s h => by cases h⟩
          | [p], pos =>
            cases p with
            | tup xs =>
              refine ⟨?_, fun s h => ?_⟩
              · simp [iAnd, nod, nods] <;> omega
              · have := dep_mem (show s ∈ xs from h)
                simp [dep, deps] <;> omega
            | _ => exact ⟨pos, fun s h => by cases h⟩
          | a0 :: a1 :: t, pos =>
            have e : iAnd (a0 :: a1 :: t) = [] := by cases a0 <;> rfl
            show nods (iAnd (a0 :: a1 :: t)) + 1 ≤ _ ∧ ∀ s ∈ iAnd (a0 :: a1 :: t), _
            rw [e]
            exact ⟨pos, fun s h => by cases h⟩
        · rw [in_row row_or]
          match r, pos with
          | [], pos => exact ⟨pos, fun s h => by cases h⟩
          | [p], pos =>
            cases p with
            | tup xs =>
              refine ⟨?_, fun s h => ?_⟩
              · simp [iAnd, nod, nods] <;> omega
              · have := dep_mem (show s ∈ xs from h)
                simp [dep, deps] <;> omega
            | _ => exact ⟨pos, fun s h => by cases h⟩
          | a0 :: a1 :: t, pos =>
            have e : iAnd (a0 :: a1 :: t) = [] := by cases a0 <;> rfl
            show nods (iAnd (a0 :: a1 :: t)) + 1 ≤ _ ∧ ∀ s ∈ iAnd (a0 :: a1 :: t), _
            rw [e]
            exact ⟨pos, fun s h => by cases h⟩
        · rw [in_row row_some]
          match r, pos with
          | [], pos => exact ⟨pos, fun s h => by cases h⟩
          | [a0], pos => exact ⟨pos, fun s h => by cases h⟩
          | [x, s], pos =>
            refine ⟨?_, fun t h => ?_⟩
            · simp [iSome, nod, nods] <;> omega
            · have e : t = s := by simpa [iSome] using h
              subst e
              simp [dep, deps] <;> omega
          | a0 :: a1 :: a2 :: t, pos => exact ⟨pos, fun s h => by cases h⟩
        · rw [in_row row_every]
          match r, pos with
          | [], pos => exact ⟨pos, fun s h => by cases h⟩
          | [a0], pos => exact ⟨pos, fun s h => by cases h⟩
          | [x, s], pos =>
            refine ⟨?_, fun t h => ?_⟩
            · simp [iSome, nod, nods] <;> omega
            · have e : t = s := by simpa [iSome] using h
              subst e
              simp [dep, deps] <;> omega
          | a0 :: a1 :: a2 :: t, pos => exact ⟨pos, fun s h => by cases h⟩
        · rw [in_row row_least]
          match r, pos with
          | [], pos => exact ⟨pos, fun s h => by cases h⟩
          | [a0], pos => exact ⟨pos, fun s h => by cases h⟩
          | [a0, a1], pos => exact ⟨pos, fun s h => by cases h⟩
          | [m, x, s], pos =>
            refine ⟨?_, fun t h => ?_⟩
            · simp [iLeast, nod, nods] <;> omega
            · have e : t = s := by simpa [iLeast] using h
              subst e
              simp [dep, deps] <;> omega
          | a0 :: a1 :: a2 :: a3 :: t, pos => exact ⟨pos, fun s h => by cases h⟩
        · rw [in_none h1]
          exact ⟨pos, fun s h => by cases h⟩
      | _ => exact ⟨pos, fun s h => by cases h⟩
  | _ => exact ⟨pos, fun s h => by cases h⟩
theorem eq_non {d : D} (neg : Bool) (v : Str) (h : dep d ≤ 60) (hn : ∀ x, d ≠ .str x) : fEq neg (.d d) (.d (.str v)) = .ok (.d (.bl neg)) := by
  have e : eqD d (.str v) = false := by
    cases d with
    | str x => exact absurd rfl (hn x)
    | _ => simp [eqD]
  unfold fEq
  rw [if_pos ⟨h, Nat.zero_le _⟩]
  show M.ok (R.d (D.bl (if neg = true then !eqD d (.str v) else eqD d (.str v)))) = _
  rw [e]
  cases neg <;> rfl
theorem jd_non (Fr : List S → M R) (d0 d1 : D) (r : List D) (l2 : ¬ ((r.length : Int) + 1 + 1 < 2)) (h : dep d0 ≤ 60) (hn : ∀ x, d0 ≠ .str x) {k : Bool} (hk : k = false := by rfl) : fin (g_law_judged Fr (startE N_law_judged [.d (.tup (d0 :: d1 :: r))])) = .ok (.d (.bl k)) := by
  subst hk
  have e1 := fun v => eq_non false v h hn
  have e2 := fun v => eq_non true v h hn
  unfold g_law_judged
  show fin (gSeq _ _ [some (.d (.tup (d0 :: d1 :: r)))]) = _
  rw [seq_nx (e := [some (.d (.tup (d0 :: d1 :: r)))]) ((ifs_no (by simp [gSeq, gIfS, gOr, gAnd, gNot, gTr, gIs, gVar, startE, S.rd, R.dat, tyD, subT, g2, gN, gCons, gNil, gC, gNx, gRet, gAndV, gNotV, gCall, toA, frR, rF, fin, fI0, len_tup, eq_int, gDCons, gDNil, toD, toS, gSet, ix0, ix1, ix2, l2])).trans rfl)]
  rw [seq_nx (e := [some (.d (.tup (d0 :: d1 :: r)))]) ((ifs_no (by simp [gSeq, gIfS, gOr, gAnd, gNot, gTr, gIs, gVar, startE, S.rd, R.dat, tyD, subT, g2, gN, gCons, gNil, gC, gNx, gRet, gAndV, gNotV, gCall, toA, frR, rF, fin, fI0, len_tup, eq_int, gDCons, gDNil, toD, toS, gSet, ix0, ix1, ix2, e1])).trans rfl)]
  rw [seq_nx (e := [some (.d (.tup (d0 :: d1 :: r)))]) ((ifs_no (by simp [gSeq, gIfS, gOr, gAnd, gNot, gTr, gIs, gVar, startE, S.rd, R.dat, tyD, subT, g2, gN, gCons, gNil, gC, gNx, gRet, gAndV, gNotV, gCall, toA, frR, rF, fin, fI0, len_tup, eq_int, gDCons, gDNil, toD, toS, gSet, ix0, ix1, ix2, e1])).trans rfl)]
  rw [seq_nx (e := [some (.d (.tup (d0 :: d1 :: r)))]) ((ifs_no (by simp [gSeq, gIfS, gOr, gAnd, gNot, gTr, gIs, gVar, startE, S.rd, R.dat, tyD, subT, g2, gN, gCons, gNil, gC, gNx, gRet, gAndV, gNotV, gCall, toA, frR, rF, fin, fI0, len_tup, eq_int, gDCons, gDNil, toD, toS, gSet, ix0, ix1, ix2, e1])).trans rfl)]
  rw [seq_nx (e := [some (.d (.tup (d0 :: d1 :: r)))]) ((ifs_no (by simp [gSeq, gIfS, gOr, gAnd, gNot, gTr, gIs, gVar, startE, S.rd, R.dat, tyD, subT, g2, gN, gCons, gNil, gC, gNx, gRet, gAndV, gNotV, gCall, toA, frR, rF, fin, fI0, len_tup, eq_int, gDCons, gDNil, toD, toS, gSet, ix0, ix1, ix2, e1])).trans rfl)]
  rw [seq_nx (e := [some (.d (.tup (d0 :: d1 :: r)))]) ((ifs_no (by simp [gSeq, gIfS, gOr, gAnd, gNot, gTr, gIs, gVar, startE, S.rd, R.dat, tyD, subT, g2, gN, gCons, gNil, gC, gNx, gRet, gAndV, gNotV, gCall, toA, frR, rF, fin, fI0, len_tup, eq_int, gDCons, gDNil, toD, toS, gSet, ix0, ix1, ix2, e1])).trans rfl)]
  rw [seq_nx (e := [some (.d (.tup (d0 :: d1 :: r)))]) ((ifs_no (by simp [gSeq, gIfS, gOr, gAnd, gNot, gTr, gIs, gVar, startE, S.rd, R.dat, tyD, subT, g2, gN, gCons, gNil, gC, gNx, gRet, gAndV, gNotV, gCall, toA, frR, rF, fin, fI0, len_tup, eq_int, gDCons, gDNil, toD, toS, gSet, ix0, ix1, ix2, e1])).trans rfl)]
  rw [seq_rt (r := .d (.bl false)) ((ifs_yes (by simp [gSeq, gIfS, gOr, gAnd, gNot, gTr, gIs, gVar, startE, S.rd, R.dat, tyD, subT, g2, gN, gCons, gNil, gC, gNx, gRet, gAndV, gNotV, gCall, toA, frR, rF, fin, fI0, len_tup, eq_int, gDCons, gDNil, toD, toS, gSet, ix0, ix1, ix2, e2])).trans rfl)]
  rfl
/-- the law's own judge: a step -/
theorem jd_step (Fr : List S → M R) (J : D → Bool) (d : D) (hn : nod d ≤ 900) (hd : dep d ≤ 60) (hF : wmB d = true → ∀ s ∈ insD d, Fr [.d s] = .ok (.d (.bl (J s)))) : fin (g_law_judged Fr (startE N_law_judged [.d d])) = .ok (.d (.bl (wmB d && (insD d).all J))) := by
  have sm := sm_of (d := d) (by omega)
  cases d with
  | tup xs =>
    match xs, hn, hd, hF, sm with
    | [], _, _, _, _ => rfl
    | [d0], _, _, _, _ =>
      have z : wmB (.tup [d0]) = false := by
        cases d0 with
        | str w =>
          rcases nine w with rfl | rfl | rfl | rfl | rfl | rfl | rfl | rfl | rfl | ⟨h1, h2⟩
          · rw [wm_row row_mark]; rfl
          · rw [wm_row row_arrow]; rfl
          · rw [wm_row row_same]; rfl
          · rw [wm_row row_not]; rfl
          · rw [wm_row row_and]; rfl
          · rw [wm_row row_or]; rfl
          · rw [wm_row row_some]; rfl
          · rw [wm_row row_every]; rfl
          · rw [wm_row row_least]; rfl
          · exact wm_none h1
        | _ => rfl
      rw [z]
      rfl
    | d0 :: d1 :: r, hn, hd, hF, sm =>
      have hl : (d1 :: r).length ≤ 900 := by
        have := len_nods (d0 :: d1 :: r)
        simp [nod] at hn
        simp at this ⊢
        omega
      have hs : ∀ d ∈ d1 :: r, Sm d := fun d hd => sm.tl.2 d (List.mem_cons_of_mem _ hd)
      have l2 : ¬ ((r.length : Int) + 1 + 1 < 2) := by omega
      have hd0 : dep d0 ≤ 60 := by
        have h1 := dep_mem (show d0 ∈ d0 :: d1 :: r by simp)
        have h2 : deps (d0 :: d1 :: r) + 1 ≤ 60 := hd
        omega
      cases d0 with
      | str w =>
        rcases nine w with rfl | rfl | rfl | rfl | rfl | rfl | rfl | rfl | rfl | ⟨h1, h2⟩
        · exact jd_mark Fr J (d1 :: r) (by simp) hl hs hF
        · exact jd_arrow Fr J (d1 :: r) (by simp) hl hs hF
        · exact jd_same Fr J (d1 :: r) (by simp) hl hs hF
        · exact jd_not Fr J (d1 :: r) (by simp) hl hs hF
        · exact jd_and Fr J (d1 :: r) (by simp) hl hs hF
        · exact jd_or Fr J (d1 :: r) (by simp) hl hs hF
        · exact jd_some Fr J (d1 :: r) (by simp) hl hs hF
        · exact jd_every Fr J (d1 :: r) (by simp) hl hs hF
        · exact jd_least Fr J (d1 :: r) (by simp) hl hs hF
        · rw [wm_none h1]
          have ne : ∀ v : Str, rowOf v ≠ none → (w == v) = false := fun v hv => by
            rw [beq_eq_false_iff_ne]
            intro z
            exact hv (z ▸ h1)
          have n_mark := ne "mark" (by rw [row_mark]; simp)
          have n_arrow := ne "arrow" (by rw [row_arrow]; simp)
          have n_same := ne "same" (by rw [row_same]; simp)
          have n_not := ne "not" (by rw [row_not]; simp)
          have n_and := ne "and" (by rw [row_and]; simp)
          have n_or := ne "or" (by rw [row_or]; simp)
          have n_some := ne "some" (by rw [row_some]; simp)
          have n_every := ne "every" (by rw [row_every]; simp)
          have n_least := ne "least" (by rw [row_least]; simp)
          unfold g_law_judged
          show fin (gSeq _ _ [some (.d (.tup (.str w :: d1 :: r)))]) = _
          rw [seq_nx (e := [some (.d (.tup (.str w :: d1 :: r)))]) ((ifs_no (by simp [gSeq, gIfS, gOr, gAnd, gNot, gTr, gIs, gVar, startE, S.rd, R.dat, tyD, subT, g2, gN, gCons, gNil, gC, gNx, gRet, gAndV, gNotV, gCall, toA, frR, rF, fin, fI0, len_tup, eq_int, gDCons, gDNil, toD, toS, gSet, ix0, ix1, ix2, l2])).trans rfl)]
          rw [seq_nx (e := [some (.d (.tup (.str w :: d1 :: r)))]) ((ifs_no (by simp [gSeq, gIfS, gOr, gAnd, gNot, gTr, gIs, gVar, startE, S.rd, R.dat, tyD, subT, g2, gN, gCons, gNil, gC, gNx, gRet, gAndV, gNotV, gCall, toA, frR, rF, fin, fI0, len_tup, eq_int, gDCons, gDNil, toD, toS, gSet, ix0, ix1, ix2, eq_str, n_mark])).trans rfl)]
          rw [seq_nx (e := [some (.d (.tup (.str w :: d1 :: r)))]) ((ifs_no (by simp [gSeq, gIfS, gOr, gAnd, gNot, gTr, gIs, gVar, startE, S.rd, R.dat, tyD, subT, g2, gN, gCons, gNil, gC, gNx, gRet, gAndV, gNotV, gCall, toA, frR, rF, fin, fI0, len_tup, eq_int, gDCons, gDNil, toD, toS, gSet, ix0, ix1, ix2, eq_str, n_arrow])).trans rfl)]
          rw [seq_nx (e := [some (.d (.tup (.str w :: d1 :: r)))]) ((ifs_no (by simp [gSeq, gIfS, gOr, gAnd, gNot, gTr, gIs, gVar, startE, S.rd, R.dat, tyD, subT, g2, gN, gCons, gNil, gC, gNx, gRet, gAndV, gNotV, gCall, toA, frR, rF, fin, fI0, len_tup, eq_int, gDCons, gDNil, toD, toS, gSet, ix0, ix1, ix2, eq_str, n_same])).trans rfl)]
          rw [seq_nx (e := [some (.d (.tup (.str w :: d1 :: r)))]) ((ifs_no (by simp [gSeq, gIfS, gOr, gAnd, gNot, gTr, gIs, gVar, startE, S.rd, R.dat, tyD, subT, g2, gN, gCons, gNil, gC, gNx, gRet, gAndV, gNotV, gCall, toA, frR, rF, fin, fI0, len_tup, eq_int, gDCons, gDNil, toD, toS, gSet, ix0, ix1, ix2, eq_str, n_not])).trans rfl)]
          rw [seq_nx (e := [some (.d (.tup (.str w :: d1 :: r)))]) ((ifs_no (by simp [gSeq, gIfS, gOr, gAnd, gNot, gTr, gIs, gVar, startE, S.rd, R.dat, tyD, subT, g2, gN, gCons, gNil, gC, gNx, gRet, gAndV, gNotV, gCall, toA, frR, rF, fin, fI0, len_tup, eq_int, gDCons, gDNil, toD, toS, gSet, ix0, ix1, ix2, eq_str, n_and, n_or])).trans rfl)]
          rw [seq_nx (e := [some (.d (.tup (.str w :: d1 :: r)))]) ((ifs_no (by simp [gSeq, gIfS, gOr, gAnd, gNot, gTr, gIs, gVar, startE, S.rd, R.dat, tyD, subT, g2, gN, gCons, gNil, gC, gNx, gRet, gAndV, gNotV, gCall, toA, frR, rF, fin, fI0, len_tup, eq_int, gDCons, gDNil, toD, toS, gSet, ix0, ix1, ix2, eq_str, n_some, n_every])).trans rfl)]
          rw [seq_rt (r := .d (.bl false)) ((ifs_yes (by simp [gSeq, gIfS, gOr, gAnd, gNot, gTr, gIs, gVar, startE, S.rd, R.dat, tyD, subT, g2, gN, gCons, gNil, gC, gNx, gRet, gAndV, gNotV, gCall, toA, frR, rF, fin, fI0, len_tup, eq_int, gDCons, gDNil, toD, toS, gSet, ix0, ix1, ix2, eq_str, n_least])).trans rfl)]
          rfl
      | _ => exact jd_non Fr _ d1 r l2 hd0 (by intro x z; cases z)
  | _ => rfl
def sB : Nat → D → Bool
  | 0, _ => false
  | n + 1, d => wmB d && (insD d).all (sB n)
theorem sB_ind : ∀ (n m : Nat) (d : D), dep d < n → dep d < m → sB n d = sB m d
  | 0, _, _, h, _ => absurd h (by omega)
  | _ + 1, 0, _, _, h => absurd h (by omega)
  | n + 1, m + 1, d, h1, h2 => by
    show (wmB d && (insD d).all (sB n)) = (wmB d && (insD d).all (sB m))
    congr 1
    have key : ∀ xs : List D, (∀ s ∈ xs, dep s + 1 ≤ dep d) → xs.all (sB n) = xs.all (sB m) := by
      intro xs
      induction xs with
      | nil => exact fun _ => rfl
      | cons x t ih =>
        intro hx
        rw [List.all_cons, List.all_cons, ih fun s hs => hx s (List.mem_cons_of_mem _ hs)]
        have := hx x List.mem_cons_self
        rw [sB_ind n m x (by omega) (by omega)]
    exact key _ (in_small d).2
theorem E_judged : ∀ (n : Nat) (d : D), dep d < n → dep d ≤ 60 → nod d ≤ 900 → F_law_judged n [.d d] = .ok (.d (.bl (sB n d)))
  | 0, d, h, _, _ => absurd h (by omega)
  | n + 1, d, h, hd, hn => jd_step (F_law_judged n) (sB n) d hn hd fun _ s hs => by
    have h1 := (in_small d).2 s hs
    have h2 := nod_mem hs
    have h3 := (in_small d).1
    exact E_judged n s (by omega) (by omega) (by omega)
/-! ### is_saying: a stack of what is left -/
abbrev bodyS : G O := (gSeq (gPop 2 1)
 (gSeq (gIfS (gNot (gTr (gN (gCall 1 K11.Fis_well_made) (gCons (gVar 2) gNil)))) (gRet (gC (.bl false))) gNx)
 (gExt 1 (gN (gCall 1 K11.Fwithin) (gCons (gVar 2) gNil)))))
theorem stack_loop (N : Nat) (t : D) : ∀ (m : Nat) (xs : List D) (y : Option S), nods xs < m → nods xs ≤ 900 → (∀ x ∈ xs, dep x + 1 < N) → ∃ e, whileG (gTru (gVar 1)) bodyS m [some (.d t), some (.own xs), y] = .ok (if xs.all (sB N) then .nx e else .rt (.d (.bl false)))
  | 0, xs, y, h, _, _ => absurd h (by omega)
  | m + 1, xs, y, h, h9, hd => by
    rcases List.eq_nil_or_concat xs with rfl | ⟨ys, z, rfl⟩
    · exact ⟨_, rfl⟩
    · rw [List.concat_eq_append] at *
      have sz : nods (ys ++ [z]) = nods ys + nod z := by rw [nods_app]; simp [nods]
      have hz : nod z ≤ 900 := by omega
      have wm := E_wm z hz
      have dz := hd z (by simp)
      have t1 : gTru (gVar 1) [some (.d t), some (.own (ys ++ [z])), y] = .ok true := by
        show M.ok (!(ys ++ [z]).isEmpty) = _
        congr 1
        cases ys <;> rfl
      have p1 : gPop 2 1 [some (.d t), some (.own (ys ++ [z])), y] = .ok (.nx [some (.d t), some (.own ys), some (.d z)]) := by
        show (match (ys ++ [z])[(ys ++ [z]).length - 1]? with
          | some d => M.ok (O.nx [some (.d t), some (.own (ys ++ [z]).dropLast), some (.d d)])
          | none => .bad) = _
        simp
      unfold whileG
      rw [t1, bind_ok, if_pos rfl]
      unfold bodyS
      rw [seq_nx p1]
      have hall : (ys ++ [z]).all (sB N) = (ys.all (sB N) && sB N z) := by simp
      rw [hall]
      obtain ⟨n, rfl⟩ : ∃ n, N = n + 1 := ⟨N - 1, by omega⟩
      have sz1 : sB (n + 1) z = (wmB z && (insD z).all (sB n)) := rfl
      cases q : wmB z with
      | false =>
        rw [q] at wm
        generalize K11.Fis_well_made = Fw at wm ⊢
        rw [seq_rt (r := .d (.bl false)) ((ifs_yes (by simp [gSeq, gIfS, gOr, gAnd, gNot, gTr, gIs, gVar, startE, S.rd, R.dat, tyD, subT, g2, gN, gCons, gNil, gC, gNx, gRet, gAndV, gNotV, gCall, toA, frR, rF, fin, fI0, len_tup, eq_int, gDCons, gDNil, toD, toS, gSet, ix0, ix1, ix2, wm])).trans rfl), bind_ok, sz1, q]
        exact ⟨[], by simp⟩
      | true =>
        have wi := E_in z q
        rw [q] at wm
        have sm := in_small z
        have l1 := len_nods ys
        have l2 := len_nods (insD z)
        have lz : ys.length + (insD z).length ≤ sizeLine := line1000 (by omega)
        obtain ⟨e, he⟩ := stack_loop (n + 1) t m (ys ++ insD z) (some (.d z)) (by rw [nods_app]; omega) (by rw [nods_app]; omega) (fun x hx => by
          rcases List.mem_append.mp hx with hx | hx
          · exact hd x (by simp [hx])
          · have := sm.2 x hx
            omega)
        refine ⟨e, ?_⟩
        have i2 : (insD z).all (sB n) = (insD z).all (sB (n + 1)) := by
          have key : ∀ ws : List D, (∀ s ∈ ws, dep s + 1 ≤ dep z) → ws.all (sB n) = ws.all (sB (n + 1)) := by
            intro ws
            induction ws with
            | nil => exact fun _ => rfl
            | cons x t ih =>
              intro hx
              rw [List.all_cons, List.all_cons, ih fun s hs => hx s (List.mem_cons_of_mem _ hs)]
              have := hx x List.mem_cons_self
              rw [sB_ind n (n + 1) x (by omega) (by omega)]
          exact key _ sm.2
        rw [sz1, q, Bool.true_and, i2]
        rw [List.all_append] at he
        unfold bodyS at he
        generalize K11.Fis_well_made = Fw at wm he ⊢
        generalize K11.Fwithin = Fi at wi he ⊢
        rw [seq_nx (e := [some (.d t), some (.own ys), some (.d z)]) ((ifs_no (by simp [gSeq, gIfS, gOr, gAnd, gNot, gTr, gIs, gVar, startE, S.rd, R.dat, tyD, subT, g2, gN, gCons, gNil, gC, gNx, gRet, gAndV, gNotV, gCall, toA, frR, rF, fin, fI0, len_tup, eq_int, gDCons, gDNil, toD, toS, gSet, ix0, ix1, ix2, wm])).trans rfl)]
        have x1 : gExt 1 (gN (gCall 1 Fi) (gCons (gVar 2) gNil)) [some (.d t), some (.own ys), some (.d z)] = .ok (.nx [some (.d t), some (.own (ys ++ insD z)), some (.d z)]) := by
          simp [gExt, gSeq, gIfS, gOr, gAnd, gNot, gTr, gIs, gVar, startE, S.rd, R.dat, tyD, subT, g2, gN, gCons, gNil, gC, gNx, gRet, gAndV, gNotV, gCall, toA, frR, rF, fin, fI0, len_tup, eq_int, gDCons, gDNil, toD, toS, gSet, ix0, ix1, ix2, wi, asQ, lz]
        rw [x1, bind_ok]
        exact he
theorem E_saying (d : D) (hd : dep d ≤ 58) (hn : nod d ≤ 890) : Fis_saying [.d d] = .ok (.d (.bl (sB 60 d))) := by
  obtain ⟨e, he⟩ := stack_loop 60 d 900 [d] none (by simp [nods]; omega) (by simp [nods]; omega) (fun x hx => by
    have e : x = d := by simpa using hx
    subst e
    omega)
  unfold Fis_saying gis_saying
  show fin (gSeq _ _ [some (.d d), none, none]) = _
  rw [seq_nx (e := [some (.d d), some (.own [d]), none]) (by simp [gSeq, gIfS, gOr, gAnd, gNot, gTr, gIs, gVar, startE, S.rd, R.dat, tyD, subT, g2, gN, gCons, gNil, gC, gNx, gRet, gAndV, gNotV, gCall, toA, frR, rF, fin, fI0, len_tup, eq_int, gDCons, gDNil, toD, toS, gSet, ix0, ix1, ix2, gLst, one_z])]
  have e1 : ([d] : List D).all (sB 60) = sB 60 d := by simp
  rw [e1] at he
  cases q : sB 60 d with
  | true => rw [q] at he; rw [seq_nx (show gWhile 900 _ _ _ = _ from he)]; rfl
  | false => rw [q] at he; rw [seq_rt (show gWhile 900 _ _ _ = _ from he)]; rfl
end K11
set_option Elab.async false
set_option linter.all false
set_option maxRecDepth 100000
set_option maxHeartbeats 4000000
namespace K11
open PySem DL K01
/-! ### sayings that are grown -/
def Say (s : D) : Prop := ∀ n, dep s < n → sB n s = true
theorem say_mk {d : D} (h : wmB d = true) (hs : ∀ s ∈ insD d, Say s) : Say d := fun n hn => by
  obtain ⟨k, rfl⟩ : ∃ k, n = k + 1 := ⟨n - 1, by omega⟩
  show (wmB d && (insD d).all (sB k)) = true
  rw [h, Bool.true_and, List.all_eq_true]
  intro s q
  have := (in_small d).2 s q
  exact hs s q k (by omega)
theorem say_not {s : D} (h : Say s) : Say (.tup [.str "not", s]) := say_mk (by rw [wm_row row_not]; rfl) fun t ht => by
  rw [in_row row_not] at ht
  have e : t = s := by simpa [iNot] using ht
  exact e ▸ h
theorem say_some {x s : D} (hx : leB x = true) (h : Say s) : Say (.tup [.str "some", x, s]) := say_mk (by rw [wm_row row_some]; exact hx) fun t ht => by
  rw [in_row row_some] at ht
  have e : t = s := by simpa [iSome] using ht
  exact e ▸ h
theorem say_every {x s : D} (hx : leB x = true) (h : Say s) : Say (.tup [.str "every", x, s]) := say_mk (by rw [wm_row row_every]; exact hx) fun t ht => by
  rw [in_row row_every] at ht
  have e : t = s := by simpa [iSome] using ht
  exact e ▸ h
theorem say_least {m : Int} {x s : D} (h1 : 1 ≤ m) (h9 : m ≤ 9) (hx : leB x = true) (h : Say s) : Say (.tup [.str "least", .int m, x, s]) := say_mk (by
    rw [wm_row row_least]
    show (leB x && (decide (1 ≤ m) && decide (m ≤ 9))) = true
    rw [hx, decide_eq_true h1, decide_eq_true h9]
    rfl) fun t ht => by
  rw [in_row row_least] at ht
  have e : t = s := by simpa [iLeast] using ht
  exact e ▸ h
theorem say_and {xs : List D} (hl : xs.length ≠ 1) (h : ∀ s ∈ xs, Say s) : Say (.tup [.str "and", .tup xs]) := say_mk (by
    rw [wm_row row_and]
    show (!((xs.length : Int) == 1)) = true
    rw [beq_eq_false_iff_ne.mpr (by omega)]
    rfl) fun t ht => by
  rw [in_row row_and] at ht
  exact h t ht
theorem say_or {xs : List D} (hl : xs.length ≠ 1) (h : ∀ s ∈ xs, Say s) : Say (.tup [.str "or", .tup xs]) := say_mk (by
    rw [wm_row row_or]
    show (!((xs.length : Int) == 1)) = true
    rw [beq_eq_false_iff_ne.mpr (by omega)]
    rfl) fun t ht => by
  rw [in_row row_or] at ht
  exact h t ht
theorem say_mark {n x : D} (hn : nmB n = true) (hx : leB x = true) : Say (.tup [.str "mark", n, x]) := say_mk (by
    rw [wm_row row_mark]
    show (leB x && nmB n) = true
    rw [hn, hx]; rfl) fun t ht => by rw [in_row row_mark] at ht; cases ht
theorem say_arrow {n x y : D} (hn : nmB n = true) (hx : leB x = true) (hy : leB y = true) : Say (.tup [.str "arrow", n, x, y]) := say_mk (by
    rw [wm_row row_arrow]
    show (leB x && (leB y && nmB n)) = true
    rw [hn, hx, hy]; rfl) fun t ht => by rw [in_row row_arrow] at ht; cases ht
theorem say_same {x y : D} (hx : leB x = true) (hy : leB y = true) : Say (.tup [.str "same", x, y]) := say_mk (by
    rw [wm_row row_same]
    show (leB x && leB y) = true
    rw [hx, hy]; rfl) fun t ht => by rw [in_row row_same] at ht; cases ht
theorem w_len : Str.length "mark" = 4 ∧ Str.length "arrow" = 5 ∧ Str.length "same" = 4 ∧ Str.length "not" = 3 ∧ Str.length "and" = 3 ∧ Str.length "or" = 2 ∧ Str.length "some" = 4 ∧ Str.length "every" = 5 ∧ Str.length "least" = 5 := by decide +kernel
/-- a letter, a name: how large -/
def Let (d : D) : Prop := leB d = true ∧ nod d = 2 ∧ dep d = 0
def Nam (d : D) : Prop := nmB d = true ∧ nod d ≤ 9 ∧ dep d = 0
theorem nam_of {x : Str} (h : nmS x = true) : Nam (.str x) := ⟨h, by have := nmS_len h; simp [nod]; omega, rfl⟩
theorem let_abc : ∀ k : Fin 26, leB (.str ⟨#[97 + k.val]⟩) = true := by decide +kernel
theorem let_of {k : Nat} (h : k < 26) : Let (.str ⟨#[97 + k]⟩) := ⟨let_abc ⟨k, h⟩, rfl, rfl⟩
theorem E_letters (c : Int) : ∃ ls : List D, F_law_letters [.d (.int c)] = .ok (.l .fresh ls) ∧ ls.length = 4 ∧ ∀ d ∈ ls, Let d := by
  have cr := comp_rng (cap := [0]) (gi := gRng1 (gCons (gC (.int 4)) gNil)) (ge := g2 fIx (gC (.str "abcdefghijklmnopqrstuvwxyz")) (g2 fMod (g2 fPlus (gVar 1) (g2 fTimes (gC (.int 7)) (gVar 0))) (gC (.int 26)))) (env := [some (.d (.int c))]) (tl := [some (.d (.int c))]) (m := 4) (by omega) (fun k => .str ⟨#[97 + ((c + 7 * (k : Int)) % 26).toNat]⟩) (rngI (m := 4) (by omega) (by simp [gSeq, gIfS, gOr, gAnd, gNot, gTr, gIs, gVar, startE, S.rd, R.dat, tyD, subT, g2, gN, gCons, gNil, gC, gNx, gRet, gAndV, gNotV, gCall, toA, frR, rF, fin, fI0, len_tup, eq_int, gDCons, gDNil, toD, toS, gSet, ix0, ix1, ix2])) rfl (fun k hk => by
    have ea := ix_abc ((c + 7 * (k : Int)) % 26) (by omega) (by omega)
    simp [gSeq, gIfS, gOr, gAnd, gNot, gTr, gIs, gVar, startE, S.rd, R.dat, tyD, subT, g2, gN, gCons, gNil, gC, gNx, gRet, gAndV, gNotV, gCall, toA, frR, rF, fin, fI0, len_tup, eq_int, gDCons, gDNil, toD, toS, gSet, ix0, ix1, ix2, t_timesL, t_plus, t_mod, ea])
  refine ⟨(List.range 4).map fun (k : Nat) => .str ⟨#[97 + ((c + 7 * (k : Int)) % 26).toNat]⟩, ?_, ?_, fun d hd => ?_⟩
  · unfold F_law_letters g_law_letters
    show fin (gRet _ [some (.d (.int c))]) = _
    rw [ret_eq cr rfl]
    rfl
  · simp
  · obtain ⟨k, hk, rfl⟩ := List.mem_map.mp hd
    exact let_of (by omega)
theorem ix_mem {m : Md} {xs : List D} {i : Int} (h0 : 0 ≤ i) (hi : i < xs.length) : ∃ d ∈ xs, fIx (.l m xs) (.d (.int i)) = .ok (.d d) := by
  obtain ⟨d, hd, e⟩ := at_mem h0 hi
  exact ⟨d, hd, e m⟩
theorem ix_memT {xs : List D} {i : Int} (h0 : 0 ≤ i) (hi : i < xs.length) : ∃ d ∈ xs, fIx (.d (.tup xs)) (.d (.int i)) = .ok (.d d) := by
  have hk : i.toNat < xs.length := by omega
  have q := fIx_tup (List.getElem?_eq_getElem hk)
  have e : ((i.toNat : Nat) : Int) = i := by omega
  rw [e] at q
  exact ⟨_, List.getElem_mem _, q⟩
/-- the tongue -/
def TngD (A B : List D) : Prop := (∀ d ∈ A, Nam d) ∧ (∀ d ∈ B, Nam d) ∧ A.length ≤ 3 ∧ B.length ≤ 3
theorem ne_unit (A : List D) (hA : A.length ≤ 3) (h : ∀ d ∈ A, Nam d) : fEq true (.d (.tup A)) (.d (.tup [])) = .ok (.d (.bl (!A.isEmpty))) := by
  have dA : dep (.tup A) ≤ 60 := by
    have := deps_le (n := 0) (xs := A) fun d hd => Nat.le_of_eq (h d hd).2.2
    show deps A + 1 ≤ 60
    omega
  unfold fEq
  rw [if_pos ⟨dA, by show 0 + 1 ≤ 60; decide⟩]
  cases A with
  | nil => rfl
  | cons a t => rfl
theorem E_leaf (n : Int) (n0 : 0 ≤ n) (A B ls : List D) (ht : TngD A B) (hl : ls.length = 4) (hL : ∀ d ∈ ls, Let d) : ∃ s, F_law_leaf [.d (.int n), .d (.tup [.tup A, .tup B]), .bor ls] = .ok (.d s) ∧ Say s ∧ nod s ≤ 20 ∧ dep s ≤ 1 := by
  obtain ⟨hA, hB, lA, lB⟩ := ht
  have z3 : 3 ≤ sizeLine := by decide
  have z4 : 4 ≤ sizeLine := by decide
  have z0 : 0 ≤ sizeLine := by decide
  obtain ⟨x, hx, ex⟩ := ix_mem (m := .bor) (xs := ls) (i := n / 3 % 4) (by omega) (by omega)
  obtain ⟨y, hy, ey⟩ := ix_mem (m := .bor) (xs := ls) (i := n / 12 % 4) (by omega) (by omega)
  obtain ⟨x1, x2, x3⟩ := hL x hx
  obtain ⟨y1, y2, y3⟩ := hL y hy
  have wl := w_len
  unfold F_law_leaf g_law_leaf
  show ∃ s, fin (gSeq _ _ [some (.d (.int n)), some (.d (.tup [.tup A, .tup B])), some (.bor ls), none, none]) = _ ∧ _
  rw [seq_nx (e := [some (.d (.int n)), some (.d (.tup [.tup A, .tup B])), some (.bor ls), some (.d x), none]) (by simp [gSeq, gIfS, gOr, gAnd, gNot, gTr, gIs, gVar, startE, S.rd, R.dat, tyD, subT, g2, gN, gCons, gNil, gC, gNx, gRet, gAndV, gNotV, gCall, toA, frR, rF, fin, fI0, len_tup, eq_int, gDCons, gDNil, toD, toS, gSet, ix0, ix1, ix2, t_div, t_mod, ex])]
  rw [seq_nx (e := [some (.d (.int n)), some (.d (.tup [.tup A, .tup B])), some (.bor ls), some (.d x), some (.d y)]) (by simp [gSeq, gIfS, gOr, gAnd, gNot, gTr, gIs, gVar, startE, S.rd, R.dat, tyD, subT, g2, gN, gCons, gNil, gC, gNx, gRet, gAndV, gNotV, gCall, toA, frR, rF, fin, fI0, len_tup, eq_int, gDCons, gDNil, toD, toS, gSet, ix0, ix1, ix2, t_div, t_mod, ey])]
  have uA := ne_unit A lA hA
  have uB := ne_unit B lB hB
  have same : ∃ s, fin (gRet (gTup (gDCons (gC (.str "same")) (gDCons (gVar 3) (gDCons (gVar 4) gDNil)))) [some (.d (.int n)), some (.d (.tup [.tup A, .tup B])), some (.bor ls), some (.d x), some (.d y)]) = .ok (.d s) ∧ Say s ∧ nod s ≤ 20 ∧ dep s ≤ 1 :=
    ⟨.tup [.str "same", x, y], by simp [gSeq, gIfS, gOr, gAnd, gNot, gTr, gIs, gVar, startE, S.rd, R.dat, tyD, subT, g2, gN, gCons, gNil, gC, gNx, gRet, gAndV, gNotV, gCall, toA, frR, rF, fin, fI0, len_tup, eq_int, gDCons, gDNil, toD, toS, gSet, ix0, ix1, ix2, gTup, z3], say_same x1 y1, by simp [nod, nods]; omega, by simp [dep, deps]; omega⟩
  have second : ∃ s, fin (gSeq (gIfS (gAnd (gTr (g2 (fEq false) (g2 fMod (gVar 0) (gC (.int 3))) (gC (.int 1)))) (gTr (g2 (fEq true) (g2 fIx (gVar 1) (gC (.int 1))) (gTup gDNil)))) (gRet (gTup (gDCons (gC (.str "arrow")) (gDCons (g2 fIx (g2 fIx (gVar 1) (gC (.int 1))) (g2 fMod (g2 fDiv (gVar 0) (gC (.int 48))) (gN fLen (gCons (g2 fIx (gVar 1) (gC (.int 1))) gNil)))) (gDCons (gVar 3) (gDCons (gVar 4) gDNil)))))) gNx) (gRet (gTup (gDCons (gC (.str "same")) (gDCons (gVar 3) (gDCons (gVar 4) gDNil))))) [some (.d (.int n)), some (.d (.tup [.tup A, .tup B])), some (.bor ls), some (.d x), some (.d y)]) = .ok (.d s) ∧ Say s ∧ nod s ≤ 20 ∧ dep s ≤ 1 := by
    by_cases c : n % 3 = 1 ∧ B ≠ []
    · have hb : 0 < (B.length : Int) := by
        have := List.length_pos_iff.mpr c.2
        omega
      obtain ⟨q, hq, eq⟩ := ix_memT (xs := B) (i := n / 48 % B.length) (Int.emod_nonneg _ (by omega)) (Int.emod_lt_of_pos _ hb)
      obtain ⟨q1, q2, q3⟩ := hB q hq
      have be : B.isEmpty = false := by cases B <;> simp_all
      rw [be] at uB
      refine ⟨.tup [.str "arrow", q, x, y], ?_, say_arrow q1 x1 y1, by simp [nod, nods]; omega, by simp [dep, deps]; omega⟩
      rw [seq_rt (r := .d (.tup [.str "arrow", q, x, y])) ((ifs_yes (by simp [gSeq, gIfS, gOr, gAnd, gNot, gTr, gIs, gVar, startE, S.rd, R.dat, tyD, subT, g2, gN, gCons, gNil, gC, gNx, gRet, gAndV, gNotV, gCall, toA, frR, rF, fin, fI0, len_tup, eq_int, gDCons, gDNil, toD, toS, gSet, ix0, ix1, ix2, t_mod, gTup, z0, uB, c.1])).trans (by have tm := t_mod (n / 48) B.length hb; simp [gSeq, gIfS, gOr, gAnd, gNot, gTr, gIs, gVar, startE, S.rd, R.dat, tyD, subT, g2, gN, gCons, gNil, gC, gNx, gRet, gAndV, gNotV, gCall, toA, frR, rF, fin, fI0, len_tup, eq_int, gDCons, gDNil, toD, toS, gSet, ix0, ix1, ix2, gTup, t_div, tm, eq, z4]))]
      rfl
    · rw [seq_nx (e := [some (.d (.int n)), some (.d (.tup [.tup A, .tup B])), some (.bor ls), some (.d x), some (.d y)]) ((ifs_no (by
        by_cases c1 : n % 3 = 1
        · have be : B.isEmpty = true := by
            cases B with
            | nil => rfl
            | cons a t => exact absurd ⟨c1, by simp⟩ c
          rw [be] at uB
          simp [gSeq, gIfS, gOr, gAnd, gNot, gTr, gIs, gVar, startE, S.rd, R.dat, tyD, subT, g2, gN, gCons, gNil, gC, gNx, gRet, gAndV, gNotV, gCall, toA, frR, rF, fin, fI0, len_tup, eq_int, gDCons, gDNil, toD, toS, gSet, ix0, ix1, ix2, t_mod, gTup, z0, uB, c1]
        · simp [gSeq, gIfS, gOr, gAnd, gNot, gTr, gIs, gVar, startE, S.rd, R.dat, tyD, subT, g2, gN, gCons, gNil, gC, gNx, gRet, gAndV, gNotV, gCall, toA, frR, rF, fin, fI0, len_tup, eq_int, gDCons, gDNil, toD, toS, gSet, ix0, ix1, ix2, t_mod, c1])).trans rfl)]
      exact same
  by_cases c : n % 3 = 0 ∧ A ≠ []
  · have hb : 0 < (A.length : Int) := by
      have := List.length_pos_iff.mpr c.2
      omega
    obtain ⟨q, hq, eq⟩ := ix_memT (xs := A) (i := n / 48 % A.length) (Int.emod_nonneg _ (by omega)) (Int.emod_lt_of_pos _ hb)
    obtain ⟨q1, q2, q3⟩ := hA q hq
    have be : A.isEmpty = false := by cases A <;> simp_all
    rw [be] at uA
    refine ⟨.tup [.str "mark", q, x], ?_, say_mark q1 x1, by simp [nod, nods]; omega, by simp [dep, deps]; omega⟩
    rw [seq_rt (r := .d (.tup [.str "mark", q, x])) ((ifs_yes (by simp [gSeq, gIfS, gOr, gAnd, gNot, gTr, gIs, gVar, startE, S.rd, R.dat, tyD, subT, g2, gN, gCons, gNil, gC, gNx, gRet, gAndV, gNotV, gCall, toA, frR, rF, fin, fI0, len_tup, eq_int, gDCons, gDNil, toD, toS, gSet, ix0, ix1, ix2, t_mod, gTup, z0, uA, c.1])).trans (by have tm := t_mod (n / 48) A.length hb; simp [gSeq, gIfS, gOr, gAnd, gNot, gTr, gIs, gVar, startE, S.rd, R.dat, tyD, subT, g2, gN, gCons, gNil, gC, gNx, gRet, gAndV, gNotV, gCall, toA, frR, rF, fin, fI0, len_tup, eq_int, gDCons, gDNil, toD, toS, gSet, ix0, ix1, ix2, gTup, t_div, tm, eq, z3]))]
    rfl
  · rw [seq_nx (e := [some (.d (.int n)), some (.d (.tup [.tup A, .tup B])), some (.bor ls), some (.d x), some (.d y)]) ((ifs_no (by
      by_cases c1 : n % 3 = 0
      · have be : A.isEmpty = true := by
          cases A with
          | nil => rfl
          | cons a t => exact absurd ⟨c1, by simp⟩ c
        rw [be] at uA
        simp [gSeq, gIfS, gOr, gAnd, gNot, gTr, gIs, gVar, startE, S.rd, R.dat, tyD, subT, g2, gN, gCons, gNil, gC, gNx, gRet, gAndV, gNotV, gCall, toA, frR, rF, fin, fI0, len_tup, eq_int, gDCons, gDNil, toD, toS, gSet, ix0, ix1, ix2, t_mod, gTup, z0, uA, c1]
      · simp [gSeq, gIfS, gOr, gAnd, gNot, gTr, gIs, gVar, startE, S.rd, R.dat, tyD, subT, g2, gN, gCons, gNil, gC, gNx, gRet, gAndV, gNotV, gCall, toA, frR, rF, fin, fI0, len_tup, eq_int, gDCons, gDNil, toD, toS, gSet, ix0, ix1, ix2, t_mod, c1])).trans rfl)]
    exact second
end K11
set_option Elab.async false
set_option linter.all false
set_option maxRecDepth 100000
set_option maxHeartbeats 4000000
namespace K11
open PySem DL K01
abbrev Ent := D × Int × Int
abbrev ent (p : Ent) : D := .tup [p.1, .int p.2.1, .int p.2.2]
def sumN (st : List Ent) : Nat := nods (st.map (·.1))
theorem E_wrapped (n : Int) (n0 : 0 ≤ n) (ls : List D) (hl : ls.length = 4) (hL : ∀ d ∈ ls, Let d) (p : Ent) (hp : Say p.1) : ∃ q : Ent, F_law_wrapped [.d (.int n), .bor ls, .d (ent p)] = .ok (.d (ent q)) ∧ Say q.1 ∧ nod q.1 ≤ nod p.1 + 10 ∧ dep q.1 ≤ dep p.1 + 1 := by
  obtain ⟨s, a, b⟩ := p
  have wl := w_len
  have z2 : 2 ≤ sizeLine := by decide
  have z3 : 3 ≤ sizeLine := by decide
  have z4 : 4 ≤ sizeLine := by decide
  obtain ⟨x, hx, ex⟩ := ix_mem (m := .bor) (xs := ls) (i := n / 5 % 4) (by omega) (by omega)
  obtain ⟨x1, x2, x3⟩ := hL x hx
  simp only at hp
  unfold F_law_wrapped g_law_wrapped
  show ∃ q : Ent, fin (gSeq _ _ [some (.d (.int n)), some (.bor ls), some (.d (.tup [s, .int a, .int b])), none, none, none, none]) = _ ∧ _
  rw [seq_nx (e := [some (.d (.int n)), some (.bor ls), some (.d (.tup [s, .int a, .int b])), some (.d s), some (.d (.int a)), some (.d (.int b)), none]) (by simp [gSeq, gIfS, gOr, gAnd, gNot, gTr, gIs, gVar, startE, S.rd, R.dat, tyD, subT, g2, gN, gCons, gNil, gC, gNx, gRet, gAndV, gNotV, gCall, toA, frR, rF, fin, fI0, len_tup, eq_int, gDCons, gDNil, toD, toS, gSet, ix0, ix1, ix2, gAsg, tgTup, tgCons, tgNil, tgName])]
  rw [seq_nx (e := [some (.d (.int n)), some (.bor ls), some (.d (.tup [s, .int a, .int b])), some (.d s), some (.d (.int a)), some (.d (.int b)), some (.d x)]) (by simp [gSeq, gIfS, gOr, gAnd, gNot, gTr, gIs, gVar, startE, S.rd, R.dat, tyD, subT, g2, gN, gCons, gNil, gC, gNx, gRet, gAndV, gNotV, gCall, toA, frR, rF, fin, fI0, len_tup, eq_int, gDCons, gDNil, toD, toS, gSet, ix0, ix1, ix2, t_div, t_mod, ex])]
  by_cases c1 : n % 5 = 0 ∨ 2 < a
  · refine ⟨(.tup [.str "not", s], a, b + 1), ?_, say_not hp, by simp [nod, nods]; omega, by simp [dep, deps]⟩
    rw [seq_rt (r := .d (.tup [.tup [.str "not", s], .int a, .int (b + 1)])) ((ifs_yes (by
      by_cases c0 : n % 5 = 0
      · simp [gSeq, gIfS, gOr, gAnd, gNot, gTr, gIs, gVar, startE, S.rd, R.dat, tyD, subT, g2, gN, gCons, gNil, gC, gNx, gRet, gAndV, gNotV, gCall, toA, frR, rF, fin, fI0, len_tup, eq_int, gDCons, gDNil, toD, toS, gSet, ix0, ix1, ix2, t_mod, c0]
      · have ca : 2 < a := c1.resolve_left c0
        simp [gSeq, gIfS, gOr, gAnd, gNot, gTr, gIs, gVar, startE, S.rd, R.dat, tyD, subT, g2, gN, gCons, gNil, gC, gNx, gRet, gAndV, gNotV, gCall, toA, frR, rF, fin, fI0, len_tup, eq_int, gDCons, gDNil, toD, toS, gSet, ix0, ix1, ix2, t_mod, c0, ca])).trans (by simp [gSeq, gIfS, gOr, gAnd, gNot, gTr, gIs, gVar, startE, S.rd, R.dat, tyD, subT, g2, gN, gCons, gNil, gC, gNx, gRet, gAndV, gNotV, gCall, toA, frR, rF, fin, fI0, len_tup, eq_int, gDCons, gDNil, toD, toS, gSet, ix0, ix1, ix2, gTup, z2, z3, t_plus]))]
    rfl
  · have c0 : ¬ n % 5 = 0 := fun z => c1 (.inl z)
    have ca : ¬ 2 < a := fun z => c1 (.inr z)
    rw [seq_nx (e := [some (.d (.int n)), some (.bor ls), some (.d (.tup [s, .int a, .int b])), some (.d s), some (.d (.int a)), some (.d (.int b)), some (.d x)]) ((ifs_no (by simp [gSeq, gIfS, gOr, gAnd, gNot, gTr, gIs, gVar, startE, S.rd, R.dat, tyD, subT, g2, gN, gCons, gNil, gC, gNx, gRet, gAndV, gNotV, gCall, toA, frR, rF, fin, fI0, len_tup, eq_int, gDCons, gDNil, toD, toS, gSet, ix0, ix1, ix2, t_mod, c0, ca])).trans rfl)]
    by_cases c4 : n % 5 = 4
    · obtain ⟨v, hv, ev⟩ := ix_mem (m := .fresh) (xs := [.int 9, .int 3]) (i := n / 200 % 2) (by omega) (by show _ < 2; omega)
      have hv' : ∃ k : Int, v = .int k ∧ 1 ≤ k ∧ k ≤ 9 := by
        simp only [List.mem_cons, List.not_mem_nil, or_false] at hv
        rcases hv with rfl | rfl
        · exact ⟨9, rfl, by decide, by decide⟩
        · exact ⟨3, rfl, by decide, by decide⟩
      obtain ⟨k, rfl, k1, k9⟩ := hv'
      have m0 := Int.emod_nonneg (n / 20) (by omega : k ≠ 0)
      have m1 := Int.emod_lt_of_pos (n / 20) (by omega : 0 < k)
      have tk := t_mod (n / 20) k (by omega)
      refine ⟨(.tup [.str "least", .int (1 + n / 20 % k), x, s], a + 1, b + 1), ?_, say_least (by omega) (by omega) x1 hp, by simp [nod, nods]; omega, by simp [dep, deps]; omega⟩
      have lst : gLst (gDCons (gC (.int 9)) (gDCons (gC (.int 3)) gDNil)) = fun _ => .ok (.l .fresh [.int 9, .int 3]) := by funext env; rfl
      rw [lst]
      rw [seq_rt (r := .d (.tup [.tup [.str "least", .int (1 + n / 20 % k), x, s], .int (a + 1), .int (b + 1)])) ((ifs_yes (by simp [gSeq, gIfS, gOr, gAnd, gNot, gTr, gIs, gVar, startE, S.rd, R.dat, tyD, subT, g2, gN, gCons, gNil, gC, gNx, gRet, gAndV, gNotV, gCall, toA, frR, rF, fin, fI0, len_tup, eq_int, gDCons, gDNil, toD, toS, gSet, ix0, ix1, ix2, t_mod, c4])).trans (by simp [gSeq, gIfS, gOr, gAnd, gNot, gTr, gIs, gVar, startE, S.rd, R.dat, tyD, subT, g2, gN, gCons, gNil, gC, gNx, gRet, gAndV, gNotV, gCall, toA, frR, rF, fin, fI0, len_tup, eq_int, gDCons, gDNil, toD, toS, gSet, ix0, ix1, ix2, gTup, z3, z4, t_plus, t_div, t_mod, ev, tk]))]
      rfl
    · rw [seq_nx (e := [some (.d (.int n)), some (.bor ls), some (.d (.tup [s, .int a, .int b])), some (.d s), some (.d (.int a)), some (.d (.int b)), some (.d x)]) ((ifs_no (by simp [gSeq, gIfS, gOr, gAnd, gNot, gTr, gIs, gVar, startE, S.rd, R.dat, tyD, subT, g2, gN, gCons, gNil, gC, gNx, gRet, gAndV, gNotV, gCall, toA, frR, rF, fin, fI0, len_tup, eq_int, gDCons, gDNil, toD, toS, gSet, ix0, ix1, ix2, t_mod, c4])).trans rfl)]
      obtain ⟨v, hv, ev⟩ := ix_mem (m := .fresh) (xs := [.str "some", .str "every"]) (i := n % 2) (by omega) (by show _ < 2; omega)
      have lst : gLst (gDCons (gC (.str "some")) (gDCons (gC (.str "every")) gDNil)) = fun _ => .ok (.l .fresh [.str "some", .str "every"]) := by funext env; rfl
      rw [lst]
      refine ⟨(.tup [v, x, s], a + 1, b + 1), ?_, ?_, ?_, ?_⟩
      · simp [gSeq, gIfS, gOr, gAnd, gNot, gTr, gIs, gVar, startE, S.rd, R.dat, tyD, subT, g2, gN, gCons, gNil, gC, gNx, gRet, gAndV, gNotV, gCall, toA, frR, rF, fin, fI0, len_tup, eq_int, gDCons, gDNil, toD, toS, gSet, ix0, ix1, ix2, gTup, z3, t_plus, t_mod, ev]
      · simp only [List.mem_cons, List.not_mem_nil, or_false] at hv
        rcases hv with rfl | rfl
        · exact say_some x1 hp
        · exact say_every x1 hp
      · simp only [List.mem_cons, List.not_mem_nil, or_false] at hv
        rcases hv with rfl | rfl <;> (simp [nod, nods]; omega)
      · simp only [List.mem_cons, List.not_mem_nil, or_false] at hv
        rcases hv with rfl | rfl <;> (simp [dep, deps]; omega)
theorem comp_ent {j : Int} (f : Ent → D) (hf : ∀ p : Ent, fIx (.d (ent p)) (.d (.int j)) = .ok (.d (f p))) (st : List Ent) (hl : st.length ≤ 1000) (env : Ev) (h1 : env[1]? = some (some (.bor (st.map ent)))) :
    gComp 1 [] (gItQ (gVar 1)) (tgName 0) gTt (g2 fIx (gVar 0) (gC (.int j))) env = .ok (.l .fresh (st.map f)) := by
  have e := compG1 (ge := g2 fIx (gVar 0) (gC (.int j))) (f := fun d => match d with | .tup [s, .int a, .int b] => f (s, a, b) | _ => .non) [] (st.map ent) none fun d hd => by
    obtain ⟨p, _, rfl⟩ := List.mem_map.mp hd
    simp [gSeq, gIfS, gOr, gAnd, gNot, gTr, gIs, gVar, startE, S.rd, R.dat, tyD, subT, g2, gN, gCons, gNil, gC, gNx, gRet, gAndV, gNotV, gCall, toA, frR, rF, fin, fI0, len_tup, eq_int, gDCons, gDNil, toD, toS, gSet, ix0, ix1, ix2, hf p]
  unfold gComp
  have i : gItQ (gVar 1) env = .ok (st.map ent) := by simp [gItQ, gSeq, gIfS, gOr, gAnd, gNot, gTr, gIs, gVar, startE, S.rd, R.dat, tyD, subT, g2, gN, gCons, gNil, gC, gNx, gRet, gAndV, gNotV, gCall, toA, frR, rF, fin, fI0, len_tup, eq_int, gDCons, gDNil, toD, toS, gSet, ix0, ix1, ix2, h1, asQ]
  rw [i, bind_ok, if_pos (line1000 (by rw [List.length_map]; exact hl))]
  show (compG _ _ _ _ [none] >>= _) = _
  rw [e, bind_ok, List.map_map]
  rfl
theorem ints_map {α : Type} (f : α → Int) : ∀ (xs : List α), intsOf (xs.map fun p => .int (f p)) = some (xs.map f)
  | [] => rfl
  | x :: r => by
    simp only [List.map_cons, intsOf, ints_map f r]
    rfl
theorem E_joined (n : Int) (n0 : 0 ≤ n) (st : List Ent) (hl : st.length ≤ 900) (hs : ∀ p ∈ st, Say p.1) (H : Nat) (hH : ∀ p ∈ st, dep p.1 ≤ H) : ∃ q : Ent, F_law_joined [.d (.int n), .bor (st.map ent)] = .ok (.d (ent q)) ∧ Say q.1 ∧ nod q.1 ≤ sumN st + 6 ∧ dep q.1 ≤ H + 2 := by
  have wl := w_len
  have z2 : 2 ≤ sizeLine := by decide
  have z3 : 3 ≤ sizeLine := by decide
  have c0 := comp_ent (j := 0) (fun p => p.1) (fun p => ix0 _ _) st (by omega)
  have c1 := comp_ent (j := 1) (fun p => .int p.2.1) (fun p => ix1 _ _ _) st (by omega)
  have c2 := comp_ent (j := 2) (fun p => .int p.2.2) (fun p => ix2 _ _ _ _) st (by omega)
  unfold F_law_joined g_law_joined
  show ∃ q : Ent, fin (gSeq _ _ [some (.d (.int n)), some (.bor (st.map ent)), none, none, none]) = _ ∧ _
  have s1 : gSet 2 (gN fTuple (gCons (gComp 1 [] (gItQ (gVar 1)) (tgName 0) gTt (g2 fIx (gVar 0) (gC (.int 0)))) gNil)) [some (.d (.int n)), some (.bor (st.map ent)), none, none, none] = .ok (.nx [some (.d (.int n)), some (.bor (st.map ent)), some (.d (.tup (st.map (·.1)))), none, none]) := by
    unfold gSet
    rw [n1_eq (c0 _ rfl) (tuple_l _ _)]
    rfl
  rw [seq_nx s1]
  have s2 : ∀ y3, gSet 3 (gMaxD 0 (gComp 1 [] (gItQ (gVar 1)) (tgName 0) gTt (g2 fIx (gVar 0) (gC (.int 1))))) [some (.d (.int n)), some (.bor (st.map ent)), some (.d (.tup (st.map (·.1)))), y3, none] = .ok (.nx [some (.d (.int n)), some (.bor (st.map ent)), some (.d (.tup (st.map (·.1)))), some (.d (.int (maxO 0 (st.map (·.2.1))))), none]) := fun y3 => by
    unfold gSet gMaxD
    rw [c1 _ rfl, bind_ok]
    show ((match intsOf (st.map fun p => D.int p.2.1) with | some ns => M.ok (R.d (D.int (maxO 0 ns))) | none => M.bad) >>= _) = _
    rw [ints_map]
    rfl
  rw [seq_nx (s2 none)]
  have s3 : gSet 4 (gMaxD 0 (gComp 1 [] (gItQ (gVar 1)) (tgName 0) gTt (g2 fIx (gVar 0) (gC (.int 2))))) [some (.d (.int n)), some (.bor (st.map ent)), some (.d (.tup (st.map (·.1)))), some (.d (.int (maxO 0 (st.map (·.2.1))))), none] = .ok (.nx [some (.d (.int n)), some (.bor (st.map ent)), some (.d (.tup (st.map (·.1)))), some (.d (.int (maxO 0 (st.map (·.2.1))))), some (.d (.int (maxO 0 (st.map (·.2.2)))))]) := by
    unfold gSet gMaxD
    rw [c2 _ rfl, bind_ok]
    show ((match intsOf (st.map fun p => D.int p.2.2) with | some ns => M.ok (R.d (D.int (maxO 0 ns))) | none => M.bad) >>= _) = _
    rw [ints_map]
    rfl
  rw [seq_nx s3]
  generalize maxO 0 (st.map (·.2.1)) = a
  generalize maxO 0 (st.map (·.2.2)) = b
  by_cases h1 : st.length = 1
  · obtain ⟨p, rfl⟩ := List.length_eq_one_iff.mp h1
    refine ⟨p, ?_, hs p (by simp), ?_, ?_⟩
    · have e0 : fIx (.l .bor [ent p]) (.d (.int 0)) = .ok (.d (ent p)) := fIx_l (k := 0) rfl
      rw [seq_rt (r := .d (ent p)) ((ifs_yes (by simp [gSeq, gIfS, gOr, gAnd, gNot, gTr, gIs, gVar, startE, S.rd, R.dat, tyD, subT, g2, gN, gCons, gNil, gC, gNx, gRet, gAndV, gNotV, gCall, toA, frR, rF, fin, fI0, len_tup, eq_int, gDCons, gDNil, toD, toS, gSet, ix0, ix1, ix2, len_l])).trans (ret_eq (r := .d (ent p)) (by
        unfold g2
        show (M.ok (R.l .bor [ent p]) >>= _) = _
        rw [bind_ok]
        exact e0) rfl))]
      rfl
    · unfold sumN
      simp [nods] <;> omega
    · have := hH p (by simp)
      omega
  · have hq : ((st.length : Int) == 1) = false := beq_eq_false_iff_ne.mpr (by omega)
    rw [seq_nx (e := [some (.d (.int n)), some (.bor (st.map ent)), some (.d (.tup (st.map (·.1)))), some (.d (.int a)), some (.d (.int b))]) ((ifs_no (by simp [gSeq, gIfS, gOr, gAnd, gNot, gTr, gIs, gVar, startE, S.rd, R.dat, tyD, subT, g2, gN, gCons, gNil, gC, gNx, gRet, gAndV, gNotV, gCall, toA, frR, rF, fin, fI0, len_tup, eq_int, gDCons, gDNil, toD, toS, gSet, ix0, ix1, ix2, len_l, hq])).trans rfl)]
    obtain ⟨v, hv, ev⟩ := ix_mem (m := .fresh) (xs := [.str "and", .str "or"]) (i := n % 2) (by omega) (by show _ < 2; omega)
    have lst : gLst (gDCons (gC (.str "and")) (gDCons (gC (.str "or")) gDNil)) = fun _ => .ok (.l .fresh [.str "and", .str "or"]) := by funext env; rfl
    rw [lst]
    have hS : ∀ s ∈ st.map (·.1), Say s := fun s h => by
      obtain ⟨p, hp, rfl⟩ := List.mem_map.mp h
      exact hs p hp
    have hD : deps (st.map (·.1)) ≤ H := deps_le fun s h => by
      obtain ⟨p, hp, rfl⟩ := List.mem_map.mp h
      exact hH p hp
    have hl1 : (st.map (·.1)).length ≠ 1 := by rw [List.length_map]; exact h1
    refine ⟨(.tup [v, .tup (st.map (·.1))], a, b + 1), ?_, ?_, ?_, ?_⟩
    · generalize st.map (·.1) = ps
      simp [gSeq, gIfS, gOr, gAnd, gNot, gTr, gIs, gVar, startE, S.rd, R.dat, tyD, subT, g2, gN, gCons, gNil, gC, gNx, gRet, gAndV, gNotV, gCall, toA, frR, rF, fin, fI0, len_tup, eq_int, gDCons, gDNil, toD, toS, gSet, ix0, ix1, ix2, gTup, z2, z3, t_plus, t_mod, ev]
    · simp only [List.mem_cons, List.not_mem_nil, or_false] at hv
      rcases hv with rfl | rfl
      · exact say_and hl1 hS
      · exact say_or hl1 hS
    · unfold sumN
      simp only [List.mem_cons, List.not_mem_nil, or_false] at hv
      generalize st.map (·.1) = ps
      rcases hv with rfl | rfl <;> (simp [nod, nods]; omega)
    · simp only [List.mem_cons, List.not_mem_nil, or_false] at hv
      generalize st.map (·.1) = ps at hD ⊢
      rcases hv with rfl | rfl <;> (simp [dep, deps]; omega)
end K11
set_option Elab.async false
set_option linter.all false
set_option maxRecDepth 100000
set_option maxHeartbeats 4000000
namespace K11
open PySem DL K01
theorem cut_head (xs : List D) (m : Nat) (hm : 0 < m) : cutD xs none (some (-(m : Int))) = xs.take (xs.length - m) := by
  unfold cutD
  rw [HT.sIx_none]
  have e : HT.sIx xs.length xs.length (some (-(m : Int))) = xs.length - m := by
    show (if -(m : Int) < 0 then (-(m : Int) + (xs.length : Int)).toNat else min (-(m : Int)).toNat xs.length) = _
    rw [if_pos (by omega)]
    omega
  rw [e, List.drop_zero, Nat.sub_zero]
theorem cut_tail (xs : List D) (m : Nat) (hm : 0 < m) : cutD xs (some (-(m : Int))) none = xs.drop (xs.length - m) := by
  unfold cutD
  rw [HT.sIx_none]
  have e : HT.sIx xs.length 0 (some (-(m : Int))) = xs.length - m := by
    show (if -(m : Int) < 0 then (-(m : Int) + (xs.length : Int)).toNat else min (-(m : Int)).toNat xs.length) = _
    rw [if_pos (by omega)]
    omega
  rw [e]
  exact List.take_of_length_le (by rw [List.length_drop]; omega)
theorem ix_last (m : Md) (ys : List D) (z : D) : fIx (.l m (ys ++ [z])) (.d (.int (-1))) = .ok (.d z) := by
  have e : L2.atI (ys ++ [z]) (-1) = some z := by
    unfold L2.atI L2.ixN
    simp
    rw [if_pos (by omega), show (-1 + ((ys.length : Int) + 1)).toNat = ys.length by omega]
    simp
  unfold fIx
  simp only [asQ, bind_ok, e]
theorem eq_empty (xs : List D) (h : deps xs ≤ 59) : fEq false (.l .own xs) (.l .fresh []) = .ok (.d (.bl xs.isEmpty)) := by
  unfold fEq
  rw [if_pos ⟨by show deps xs + 1 ≤ 60; omega, by show 0 + 1 ≤ 60; decide⟩]
  cases xs with
  | nil => rfl
  | cons a t => rfl
theorem sumN_app (xs ys : List Ent) : sumN (xs ++ ys) = sumN xs + sumN ys := by
  unfold sumN
  rw [List.map_append, nods_app]
theorem sumN_one (p : Ent) : sumN [p] = nod p.1 := by
  unfold sumN
  simp [nods]
theorem sumN_split (st : List Ent) (k : Nat) : sumN (st.take k) + sumN (st.drop k) = sumN st := by
  rw [← sumN_app, List.take_append_drop]
structure StOk (k : Nat) (st : List Ent) : Prop where
  say : ∀ p ∈ st, Say p.1
  sum : sumN st ≤ 20 * k
  dep : ∀ p ∈ st, dep p.1 ≤ 2 * k + 1
  len : st.length ≤ k
theorem StOk.deps {k : Nat} {st : List Ent} (h : StOk k st) : deps (st.map ent) ≤ 2 * k + 2 := deps_le fun d hd => by
  obtain ⟨p, hp, rfl⟩ := List.mem_map.mp hd
  have := h.dep p hp
  simp [DL.dep, DL.deps]
  omega
theorem StOk.push {k : Nat} {st : List Ent} (h : StOk k st) {p : Ent} (hp : Say p.1) (hn : nod p.1 ≤ 20) (hd : DL.dep p.1 ≤ 2 * k + 3) : StOk (k + 1) (st ++ [p]) where
  say := fun q hq => by
    rcases List.mem_append.mp hq with hq | hq
    · exact h.say q hq
    · rw [List.mem_singleton.mp hq]; exact hp
  sum := by
    have := h.sum
    rw [sumN_app, sumN_one]
    omega
  dep := fun q hq => by
    rcases List.mem_append.mp hq with hq | hq
    · have := h.dep q hq; omega
    · rw [List.mem_singleton.mp hq]; omega
  len := by
    have := h.len
    simp
    exact this
theorem StOk.swap {k c : Nat} {st : List Ent} (h : StOk k st) {p : Ent} (hp : Say p.1) (hn : nod p.1 ≤ sumN (st.drop c) + 20) (hd : DL.dep p.1 ≤ 2 * k + 3) : StOk (k + 1) (st.take c ++ [p]) where
  say := fun q hq => by
    rcases List.mem_append.mp hq with hq | hq
    · exact h.say q (List.mem_of_mem_take hq)
    · rw [List.mem_singleton.mp hq]; exact hp
  sum := by
    have h1 := h.sum
    have h2 := sumN_split st c
    rw [sumN_app, sumN_one]
    omega
  dep := fun q hq => by
    rcases List.mem_append.mp hq with hq | hq
    · have := h.dep q (List.mem_of_mem_take hq); omega
    · rw [List.mem_singleton.mp hq]; omega
  len := by
    have := h.len
    simp
    omega
abbrev gT : G O := (gSeq (gSet 5 (g2 fMod (g2 fTimes (g2 fPlus (g2 fMod (g2 fIx (gVar 0) (gVar 4)) (g2 fPow (gC (.int 2)) (gC (.int 64)))) (g2 fTimes (gC (.int 613)) (gVar 4))) (gC (.int 71993))) (gC (.int 998244353))))
 (gSeq (gSet 6 (g2 fMod (gVar 5) (gC (.int 7))))
 (gSeq (gSet 7 (g2 fDiv (gVar 5) (gC (.int 7))))
 (gIfS (gOr (gTr (g2 (fEq false) (gVar 3) (gLst gDNil))) (gOr (gTr (g2 (fI0 fun i j => .bl (decide (i < j))) (gVar 6) (gC (.int 3)))) (gTr (g2 (fI0 fun i j => .bl (decide (j < i))) (g2 fIx (g2 fIx (gVar 3) (gNeg (gC (.int 1)))) (gC (.int 2))) (gC (.int 11)))))) (gApp 3 (gTup (gDCons (gN (gCall 3 K11.F_law_leaf) (gCons (gVar 7) (gCons (gVar 1) (gCons (gVar 2) gNil)))) (gDCons (gC (.int 0)) (gDCons (gC (.int 0)) gDNil))))) (gIfS (gAnd (gTr (g2 (fEq false) (gVar 6) (gC (.int 3)))) (gTr (g2 (fI0 fun i j => .bl (decide (j < i))) (gN fLen (gCons (gVar 3) gNil)) (gC (.int 1))))) (gSeq (gSet 8 (g2 fPlus (gC (.int 2)) (g2 fMod (g2 fDiv (gVar 7) (gC (.int 2))) (gC (.int 2)))))
 (gSet 3 (g2 fPlus (gSl fSl2 (gVar 3) gNo (gPt (gNeg (gVar 8)))) (gLst (gDCons (gN (gCall 2 K11.F_law_joined) (gCons (gVar 7) (gCons (gSl fSl2 (gVar 3) (gPt (gNeg (gVar 8))) gNo) gNil))) gDNil))))) (gIfS (gAnd (gTr (g2 (fEq false) (gVar 6) (gC (.int 4)))) (gTr (g2 (fEq false) (g2 fMod (gVar 7) (gC (.int 4))) (gC (.int 0))))) (gApp 3 (gTup (gDCons (gTup (gDCons (g2 fIx (gLst (gDCons (gC (.str "and")) (gDCons (gC (.str "or")) gDNil))) (g2 fMod (g2 fDiv (gVar 7) (gC (.int 4))) (gC (.int 2)))) (gDCons (gTup gDNil) gDNil))) (gDCons (gC (.int 0)) (gDCons (gC (.int 0)) gDNil))))) (gSet 3 (g2 fPlus (gSl fSl2 (gVar 3) gNo (gPt (gNeg (gC (.int 1))))) (gLst (gDCons (gN (gCall 3 K11.F_law_wrapped) (gCons (gVar 7) (gCons (gVar 2) (gCons (g2 fIx (gVar 3) (gNeg (gC (.int 1)))) gNil)))) gDNil))))))))))
theorem cat_made (xs ys : List D) (h : xs.length + ys.length ≤ 1000) : fPlus (.l .fresh xs) (.l .fresh ys) = .ok (.l .fresh (xs ++ ys)) := by
  show (if xs.length + ys.length ≤ sizeLine then M.ok (R.l Md.fresh (xs ++ ys)) else M.bad) = _
  rw [if_pos (line1000 h)]
section
variable (X0 X1 X2 X4 X5 y8 : Option S) (w r : Int) (SE : List D)
abbrev gC1 : G Bool := (gOr (gTr (g2 (fEq false) (gVar 3) (gLst gDNil))) (gOr (gTr (g2 (fI0 fun i j => .bl (decide (i < j))) (gVar 6) (gC (.int 3)))) (gTr (g2 (fI0 fun i j => .bl (decide (j < i))) (g2 fIx (g2 fIx (gVar 3) (gNeg (gC (.int 1)))) (gC (.int 2))) (gC (.int 11))))))
abbrev gC2 : G Bool := (gAnd (gTr (g2 (fEq false) (gVar 6) (gC (.int 3)))) (gTr (g2 (fI0 fun i j => .bl (decide (j < i))) (gN fLen (gCons (gVar 3) gNil)) (gC (.int 1)))))
abbrev gC3 : G Bool := (gAnd (gTr (g2 (fEq false) (gVar 6) (gC (.int 4)))) (gTr (g2 (fEq false) (g2 fMod (gVar 7) (gC (.int 4))) (gC (.int 0)))))
theorem c1_nil : gC1 [X0, X1, X2, some (.own []), X4, X5, some (.d (.int w)), some (.d (.int r)), y8] = .ok true := by
  have e0 : fEq false (.l .own []) (.l .fresh []) = .ok (.d (.bl true)) := rfl
  simp [gSeq, gIfS, gOr, gAnd, gNot, gTr, gIs, gVar, startE, S.rd, R.dat, tyD, subT, g2, gN, gCons, gNil, gC, gNx, gRet, gAndV, gNotV, gCall, toA, frR, rF, fin, fI0, len_tup, eq_int, gDCons, gDNil, toD, toS, gSet, ix0, ix1, ix2, gLst, e0]
theorem c1_any (EP : D) (b : Int) (ee : fEq false (.l .own SE) (.l .fresh []) = .ok (.d (.bl false))) (il : fIx (.l .own SE) (.d (.int (-1))) = .ok (.d EP)) (i2 : fIx (.d EP) (.d (.int 2)) = .ok (.d (.int b))) : gC1 [X0, X1, X2, some (.own SE), X4, X5, some (.d (.int w)), some (.d (.int r)), y8] = .ok (decide (w < 3) || decide (11 < b)) := by
  by_cases c : w < 3
  · simp [gSeq, gIfS, gOr, gAnd, gNot, gTr, gIs, gVar, startE, S.rd, R.dat, tyD, subT, g2, gN, gCons, gNil, gC, gNx, gRet, gAndV, gNotV, gCall, toA, frR, rF, fin, fI0, len_tup, eq_int, gDCons, gDNil, toD, toS, gSet, ix0, ix1, ix2, gLst, ee, c]
  · simp [gSeq, gIfS, gOr, gAnd, gNot, gTr, gIs, gVar, startE, S.rd, R.dat, tyD, subT, g2, gN, gCons, gNil, gC, gNx, gRet, gAndV, gNotV, gCall, toA, frR, rF, fin, fI0, len_tup, eq_int, gDCons, gDNil, toD, toS, gSet, ix0, ix1, ix2, gLst, gNeg, ee, c, il, i2]
theorem c2_any : gC2 [X0, X1, X2, some (.own SE), X4, X5, some (.d (.int w)), some (.d (.int r)), y8] = .ok (decide (w = 3) && decide ((1 : Int) < SE.length)) := by
  by_cases c : w = 3
  · simp [gSeq, gIfS, gOr, gAnd, gNot, gTr, gIs, gVar, startE, S.rd, R.dat, tyD, subT, g2, gN, gCons, gNil, gC, gNx, gRet, gAndV, gNotV, gCall, toA, frR, rF, fin, fI0, len_tup, eq_int, gDCons, gDNil, toD, toS, gSet, ix0, ix1, ix2, c, len_l]
  · simp [gSeq, gIfS, gOr, gAnd, gNot, gTr, gIs, gVar, startE, S.rd, R.dat, tyD, subT, g2, gN, gCons, gNil, gC, gNx, gRet, gAndV, gNotV, gCall, toA, frR, rF, fin, fI0, len_tup, eq_int, gDCons, gDNil, toD, toS, gSet, ix0, ix1, ix2, c]
theorem c3_any : gC3 [X0, X1, X2, some (.own SE), X4, X5, some (.d (.int w)), some (.d (.int r)), y8] = .ok (decide (w = 4) && decide (r % 4 = 0)) := by
  by_cases c : w = 4
  · simp [gSeq, gIfS, gOr, gAnd, gNot, gTr, gIs, gVar, startE, S.rd, R.dat, tyD, subT, g2, gN, gCons, gNil, gC, gNx, gRet, gAndV, gNotV, gCall, toA, frR, rF, fin, fI0, len_tup, eq_int, gDCons, gDNil, toD, toS, gSet, ix0, ix1, ix2, c, t_mod]
    by_cases c2 : r % 4 = 0 <;> simp [c2]
  · simp [gSeq, gIfS, gOr, gAnd, gNot, gTr, gIs, gVar, startE, S.rd, R.dat, tyD, subT, g2, gN, gCons, gNil, gC, gNx, gRet, gAndV, gNotV, gCall, toA, frR, rF, fin, fI0, len_tup, eq_int, gDCons, gDNil, toD, toS, gSet, ix0, ix1, ix2, c]
end
section
variable (X0 X4 X5 y8 : Option S) (T : D) (ls : List D) (w r : Int) (SE : List D)
theorem st_leaf (Fl : List S → M R) (s : D) (e : Fl [.d (.int r), .d T, .bor ls] = .ok (.d s)) (h : SE.length < sizeLine) : gApp 3 (gTup (gDCons (gN (gCall 3 Fl) (gCons (gVar 7) (gCons (gVar 1) (gCons (gVar 2) gNil)))) (gDCons (gC (.int 0)) (gDCons (gC (.int 0)) gDNil)))) [X0, some (.d T), some (.bor ls), some (.own SE), X4, X5, some (.d (.int w)), some (.d (.int r)), y8] = .ok (.nx [X0, some (.d T), some (.bor ls), some (.own (SE ++ [.tup [s, .int 0, .int 0]])), X4, X5, some (.d (.int w)), some (.d (.int r)), y8]) := by
  have z3 : 3 ≤ sizeLine := by decide
  simp [gSeq, gIfS, gOr, gAnd, gNot, gTr, gIs, gVar, startE, S.rd, R.dat, tyD, subT, g2, gN, gCons, gNil, gC, gNx, gRet, gAndV, gNotV, gCall, toA, frR, rF, fin, fI0, len_tup, eq_int, gDCons, gDNil, toD, toS, gSet, ix0, ix1, ix2, gApp, gTup, e, z3, h]
theorem st_unit (v : D) (ev : fIx (.l .fresh [.str "and", .str "or"]) (.d (.int (r / 4 % 2))) = .ok (.d v)) (h : SE.length < sizeLine) : gApp 3 (gTup (gDCons (gTup (gDCons (g2 fIx (gLst (gDCons (gC (.str "and")) (gDCons (gC (.str "or")) gDNil))) (g2 fMod (g2 fDiv (gVar 7) (gC (.int 4))) (gC (.int 2)))) (gDCons (gTup gDNil) gDNil))) (gDCons (gC (.int 0)) (gDCons (gC (.int 0)) gDNil)))) [X0, some (.d T), some (.bor ls), some (.own SE), X4, X5, some (.d (.int w)), some (.d (.int r)), y8] = .ok (.nx [X0, some (.d T), some (.bor ls), some (.own (SE ++ [.tup [.tup [v, .tup []], .int 0, .int 0]])), X4, X5, some (.d (.int w)), some (.d (.int r)), y8]) := by
  have z2 : 2 ≤ sizeLine := by decide
  have z3 : 3 ≤ sizeLine := by decide
  have z0 : 0 ≤ sizeLine := by decide
  have lst : gLst (gDCons (gC (.str "and")) (gDCons (gC (.str "or")) gDNil)) = fun _ => .ok (.l .fresh [.str "and", .str "or"]) := by funext env; rfl
  rw [lst]
  generalize R.l Md.fresh [D.str "and", D.str "or"] = L2w at ev ⊢
  simp [gSeq, gIfS, gOr, gAnd, gNot, gTr, gIs, gVar, startE, S.rd, R.dat, tyD, subT, g2, gN, gCons, gNil, gC, gNx, gRet, gAndV, gNotV, gCall, toA, frR, rF, fin, fI0, len_tup, eq_int, gDCons, gDNil, toD, toS, gSet, ix0, ix1, ix2, gApp, gTup, t_div, t_mod, ev, z2, z3, z0, h]
theorem st_join (Fj : List S → M R) (m : Int) (TK DR : List D) (EQ : D) (ch : cutD SE none (some (-m)) = TK) (ct : cutD SE (some (-m)) none = DR) (eq : Fj [.d (.int r), .bor DR] = .ok (.d EQ)) (cm : fPlus (.l .fresh TK) (.l .fresh [EQ]) = .ok (.l .fresh (TK ++ [EQ]))) (hm : 2 + r / 2 % 2 = m) :
    gSeq (gSet 8 (g2 fPlus (gC (.int 2)) (g2 fMod (g2 fDiv (gVar 7) (gC (.int 2))) (gC (.int 2))))) (gSet 3 (g2 fPlus (gSl fSl2 (gVar 3) gNo (gPt (gNeg (gVar 8)))) (gLst (gDCons (gN (gCall 2 Fj) (gCons (gVar 7) (gCons (gSl fSl2 (gVar 3) (gPt (gNeg (gVar 8))) gNo) gNil))) gDNil)))) [X0, some (.d T), some (.bor ls), some (.own SE), X4, X5, some (.d (.int w)), some (.d (.int r)), y8]
      = .ok (.nx [X0, some (.d T), some (.bor ls), some (.own (TK ++ [EQ])), X4, X5, some (.d (.int w)), some (.d (.int r)), some (.d (.int m))]) := by
  have z1 : 1 ≤ sizeLine := by decide
  rw [seq_nx (e := [X0, some (.d T), some (.bor ls), some (.own SE), X4, X5, some (.d (.int w)), some (.d (.int r)), some (.d (.int m))]) (by simp [gSeq, gIfS, gOr, gAnd, gNot, gTr, gIs, gVar, startE, S.rd, R.dat, tyD, subT, g2, gN, gCons, gNil, gC, gNx, gRet, gAndV, gNotV, gCall, toA, frR, rF, fin, fI0, len_tup, eq_int, gDCons, gDNil, toD, toS, gSet, ix0, ix1, ix2, t_div, t_mod, t_plus, hm])]
  simp [gSeq, gIfS, gOr, gAnd, gNot, gTr, gIs, gVar, startE, S.rd, R.dat, tyD, subT, g2, gN, gCons, gNil, gC, gNx, gRet, gAndV, gNotV, gCall, toA, frR, rF, fin, fI0, len_tup, eq_int, gDCons, gDNil, toD, toS, gSet, ix0, ix1, ix2, gSl, gNo, gPt, gNeg, gLst, sl_own, ch, ct, eq, z1, cm]
theorem st_wrap (Fw : List S → M R) (TK : List D) (EP EQ : D) (ch : cutD SE none (some (-1)) = TK) (il : fIx (.l .own SE) (.d (.int (-1))) = .ok (.d EP)) (eq : Fw [.d (.int r), .bor ls, .d EP] = .ok (.d EQ)) (cm : fPlus (.l .fresh TK) (.l .fresh [EQ]) = .ok (.l .fresh (TK ++ [EQ]))) :
    gSet 3 (g2 fPlus (gSl fSl2 (gVar 3) gNo (gPt (gNeg (gC (.int 1))))) (gLst (gDCons (gN (gCall 3 Fw) (gCons (gVar 7) (gCons (gVar 2) (gCons (g2 fIx (gVar 3) (gNeg (gC (.int 1)))) gNil)))) gDNil))) [X0, some (.d T), some (.bor ls), some (.own SE), X4, X5, some (.d (.int w)), some (.d (.int r)), y8]
      = .ok (.nx [X0, some (.d T), some (.bor ls), some (.own (TK ++ [EQ])), X4, X5, some (.d (.int w)), some (.d (.int r)), y8]) := by
  have z1 : 1 ≤ sizeLine := by decide
  simp [gSeq, gIfS, gOr, gAnd, gNot, gTr, gIs, gVar, startE, S.rd, R.dat, tyD, subT, g2, gN, gCons, gNil, gC, gNx, gRet, gAndV, gNotV, gCall, toA, frR, rF, fin, fI0, len_tup, eq_int, gDCons, gDNil, toD, toS, gSet, ix0, ix1, ix2, gSl, gNo, gPt, gNeg, gLst, sl_own, ch, il, eq, z1, cm]
end
theorem map_snoc (xs : List Ent) (q : Ent) : (xs ++ [q]).map ent = xs.map ent ++ [ent q] := by rw [List.map_append]; rfl
theorem unit_ok (v : D) (hv : v ∈ [D.str "and", D.str "or"]) : Say (.tup [v, .tup []]) ∧ nod (.tup [v, .tup []]) ≤ 20 ∧ dep (.tup [v, .tup []]) ≤ 2 := by
  have wl := w_len
  simp only [List.mem_cons, List.not_mem_nil, or_false] at hv
  rcases hv with rfl | rfl
  · refine ⟨say_and (xs := []) (by simp) (fun s h => by cases h), ?_, ?_⟩
    · simp only [nod, nods, wl.2.2.2.2.1]
      decide
    · simp [dep, deps]
  · refine ⟨say_or (xs := []) (by simp) (fun s h => by cases h), ?_, ?_⟩
    · simp only [nod, nods, wl.2.2.2.2.2.1]
      decide
    · simp [dep, deps]
/-- a turn of growing -/
theorem grow_turn (cs : List Int) (A B ls : List D) (ht : TngD A B) (hl : ls.length = 4) (hL : ∀ d ∈ ls, Let d) (k : Nat) (hk : k < cs.length) (k20 : k ≤ 20) (st : List Ent) (ok : StOk k st) (y5 y6 y7 y8 : Option S) : ∃ st' : List Ent, StOk (k + 1) st' ∧ ∃ z5 z6 z7 z8,
    gT [some (.bor (cs.map D.int)), some (.d (.tup [.tup A, .tup B])), some (.bor ls), some (.own (st.map ent)), some (.d (.int k)), y5, y6, y7, y8] = .ok (.nx [some (.bor (cs.map D.int)), some (.d (.tup [.tup A, .tup B])), some (.bor ls), some (.own (st'.map ent)), some (.d (.int k)), z5, z6, z7, z8]) := by
  have HLf := fun n h0 => E_leaf n h0 A B ls ht hl hL
  have HWr := fun n h0 p hp => E_wrapped n h0 ls hl hL p hp
  have HJn := E_joined
  obtain ⟨n, hn⟩ : ∃ n, (cs[k] % 18446744073709551616 + 613 * (k : Int)) * 71993 % 998244353 = n := ⟨_, rfl⟩
  have n0 : 0 ≤ n := hn ▸ Int.emod_nonneg _ (by decide)
  have ec : fIx (.l .bor (cs.map D.int)) (.d (.int k)) = .ok (.d (.int cs[k])) := fIx_l (by rw [List.getElem?_map, List.getElem?_eq_getElem hk]; rfl)
  have dp := ok.deps
  have sl := ok.len
  have ee := eq_empty (st.map ent) (by omega)
  have zs : (st.map ent).length < sizeLine := by
    rw [List.length_map]
    exact Nat.lt_of_lt_of_le (by omega : st.length < 1000) (by decide)
  unfold gT
  generalize K11.F_law_leaf = Fl at HLf ⊢
  generalize K11.F_law_wrapped = Fw at HWr ⊢
  generalize K11.F_law_joined = Fj at HJn ⊢
  generalize cs.map D.int = CS at ec ⊢
  rw [seq_nx (e := [some (.bor CS), some (.d (.tup [.tup A, .tup B])), some (.bor ls), some (.own (st.map ent)), some (.d (.int k)), some (.d (.int n)), y6, y7, y8]) (by
    have t1 := t_timesL 613 (k : Int) (by decide) (by decide)
    simp [gSeq, gIfS, gOr, gAnd, gNot, gTr, gIs, gVar, startE, S.rd, R.dat, tyD, subT, g2, gN, gCons, gNil, gC, gNx, gRet, gAndV, gNotV, gCall, toA, frR, rF, fin, fI0, len_tup, eq_int, gDCons, gDNil, toD, toS, gSet, ix0, ix1, ix2, ec, t_pow64, t_mod, t_plus, t1, t_times, hn])]
  rw [seq_nx (e := [some (.bor CS), some (.d (.tup [.tup A, .tup B])), some (.bor ls), some (.own (st.map ent)), some (.d (.int k)), some (.d (.int n)), some (.d (.int (n % 7))), y7, y8]) (by simp [gSeq, gIfS, gOr, gAnd, gNot, gTr, gIs, gVar, startE, S.rd, R.dat, tyD, subT, g2, gN, gCons, gNil, gC, gNx, gRet, gAndV, gNotV, gCall, toA, frR, rF, fin, fI0, len_tup, eq_int, gDCons, gDNil, toD, toS, gSet, ix0, ix1, ix2, t_mod])]
  rw [seq_nx (e := [some (.bor CS), some (.d (.tup [.tup A, .tup B])), some (.bor ls), some (.own (st.map ent)), some (.d (.int k)), some (.d (.int n)), some (.d (.int (n % 7))), some (.d (.int (n / 7))), y8]) (by simp [gSeq, gIfS, gOr, gAnd, gNot, gTr, gIs, gVar, startE, S.rd, R.dat, tyD, subT, g2, gN, gCons, gNil, gC, gNx, gRet, gAndV, gNotV, gCall, toA, frR, rF, fin, fI0, len_tup, eq_int, gDCons, gDNil, toD, toS, gSet, ix0, ix1, ix2, t_div])]
  obtain ⟨r, hr⟩ : ∃ r, n / 7 = r := ⟨_, rfl⟩
  obtain ⟨w, hw⟩ : ∃ w, n % 7 = w := ⟨_, rfl⟩
  have r0 : 0 ≤ r := by omega
  rw [hr, hw]
  generalize hT : D.tup [D.tup A, D.tup B] = T at HLf ⊢
  obtain ⟨s, es, s1, s2, s3⟩ := HLf r r0
  have leaf := st_leaf (some (.bor CS)) (some (.d (.int k))) (some (.d (.int n))) y8 T ls w r (st.map ent) Fl s es zs
  have ok1 : StOk (k + 1) (st ++ [(s, 0, 0)]) := ok.push s1 s2 (by show dep s ≤ _; omega)
  rw [show st.map ent ++ [D.tup [s, D.int 0, D.int 0]] = (st ++ [(s, 0, 0)]).map ent from (map_snoc st (s, 0, 0)).symm] at leaf
  rcases List.eq_nil_or_concat st with rfl | ⟨ys, p, rfl⟩
  · exact ⟨_, ok1, _, _, _, _, (ifs_yes (c1_nil _ _ _ _ _ _ w r)).trans leaf⟩
  · rw [List.concat_eq_append] at *
    have hp : Say p.1 := ok.say p (by simp)
    have em : ((ys ++ [p]).map ent).isEmpty = false := by cases ys <;> rfl
    rw [em] at ee
    have il := ix_last .own (ys.map ent) (ent p)
    rw [← map_snoc] at il
    have cc1 := c1_any (some (.bor CS)) (some (.d T)) (some (.bor ls)) (some (.d (.int k))) (some (.d (.int n))) y8 w r ((ys ++ [p]).map ent) (ent p) p.2.2 ee il (ix2 _ _ _ _)
    have cc2 := c2_any (some (.bor CS)) (some (.d T)) (some (.bor ls)) (some (.d (.int k))) (some (.d (.int n))) y8 w r ((ys ++ [p]).map ent)
    have cc3 := c3_any (some (.bor CS)) (some (.d T)) (some (.bor ls)) (some (.d (.int k))) (some (.d (.int n))) y8 w r ((ys ++ [p]).map ent)
    rw [List.length_map] at cc2
    cases q1 : (decide (w < 3) || decide (11 < p.2.2)) with
    | true =>
      rw [q1] at cc1
      exact ⟨_, ok1, _, _, _, _, (ifs_yes cc1).trans leaf⟩
    | false =>
      rw [q1] at cc1
      cases q2 : (decide (w = 3) && decide ((1 : Int) < ((ys ++ [p]).length : Int))) with
      | true =>
        rw [q2] at cc2
        obtain ⟨m, hm⟩ : ∃ m : Nat, 2 + r / 2 % 2 = m := ⟨(2 + r / 2 % 2).toNat, by omega⟩
        have m2 : 0 < m := by omega
        have ch := cut_head ((ys ++ [p]).map ent) m m2
        have ct := cut_tail ((ys ++ [p]).map ent) m m2
        rw [List.length_map, ← List.map_take] at ch
        rw [List.length_map, ← List.map_drop] at ct
        obtain ⟨q, eq, g1, g2, g3⟩ := HJn r r0 ((ys ++ [p]).drop ((ys ++ [p]).length - m)) (by rw [List.length_drop]; omega) (fun p hp => ok.say p (List.mem_of_mem_drop hp)) (2 * k + 1) (fun p hp => ok.dep p (List.mem_of_mem_drop hp))
        have lt : (((ys ++ [p]).take ((ys ++ [p]).length - m)).map ent).length ≤ 900 := by rw [List.length_map, List.length_take]; omega
        have cm := cat_made (((ys ++ [p]).take ((ys ++ [p]).length - m)).map ent) [ent q] (by rw [List.length_singleton]; omega)
        have sj := st_join (some (.bor CS)) (some (.d (.int k))) (some (.d (.int n))) y8 T ls w r ((ys ++ [p]).map ent) Fj m _ _ _ ch ct eq cm hm
        rw [← map_snoc] at sj
        exact ⟨_, ok.swap g1 (by omega) (by omega), _, _, _, _, (ifs_no cc1).trans ((ifs_yes cc2).trans sj)⟩
      | false =>
        rw [q2] at cc2
        cases q3 : (decide (w = 4) && decide (r % 4 = 0)) with
        | true =>
          rw [q3] at cc3
          obtain ⟨v, hv, ev⟩ := ix_mem (m := .fresh) (xs := [.str "and", .str "or"]) (i := r / 4 % 2) (by omega) (by show _ < 2; omega)
          obtain ⟨v1, v2, v3⟩ := unit_ok v hv
          have su := st_unit (some (.bor CS)) (some (.d (.int k))) (some (.d (.int n))) y8 T ls w r ((ys ++ [p]).map ent) v ev zs
          rw [show (ys ++ [p]).map ent ++ [D.tup [D.tup [v, D.tup []], D.int 0, D.int 0]] = ((ys ++ [p]) ++ [(D.tup [v, D.tup []], 0, 0)]).map ent from (map_snoc (ys ++ [p]) (D.tup [v, D.tup []], 0, 0)).symm] at su
          exact ⟨_, ok.push v1 v2 (by show dep (.tup [v, .tup []]) ≤ _; omega), _, _, _, _, (ifs_no cc1).trans ((ifs_no cc2).trans ((ifs_yes cc3).trans su))⟩
        | false =>
          rw [q3] at cc3
          obtain ⟨q, eq, g1, g2, g3⟩ := HWr r r0 p hp
          have dr : (ys ++ [p]).drop ((ys ++ [p]).length - 1) = [p] := by simp
          have ch : cutD ((ys ++ [p]).map ent) none (some (-1)) = _ := cut_head ((ys ++ [p]).map ent) 1 (by decide)
          rw [List.length_map, ← List.map_take] at ch
          have pd := ok.dep p (by simp)
          have lt : (((ys ++ [p]).take ((ys ++ [p]).length - 1)).map ent).length ≤ 900 := by rw [List.length_map, List.length_take]; omega
          have cm := cat_made (((ys ++ [p]).take ((ys ++ [p]).length - 1)).map ent) [ent q] (by rw [List.length_singleton]; omega)
          have sw := st_wrap (some (.bor CS)) (some (.d (.int k))) (some (.d (.int n))) y8 T ls w r ((ys ++ [p]).map ent) Fw _ _ _ ch il eq cm
          rw [← map_snoc] at sw
          exact ⟨_, ok.swap g1 (by rw [dr, sumN_one]; omega) (by omega), _, _, _, _, (ifs_no cc1).trans ((ifs_no cc2).trans ((ifs_no cc3).trans sw))⟩
end K11
set_option Elab.async false
set_option linter.all false
set_option maxRecDepth 100000
set_option maxHeartbeats 4000000
namespace K11
open PySem DL K01
theorem E_grown (cs : List Int) (h7 : cs.length ≤ 7) (A B ls : List D) (ht : TngD A B) (hl : ls.length = 4) (hL : ∀ d ∈ ls, Let d) : ∃ s, F_law_grown [.bor (cs.map D.int), .d (.tup [.tup A, .tup B]), .bor ls] = .ok (.d s) ∧ Say s ∧ nod s ≤ 146 ∧ dep s ≤ 17 := by
  have HT := grow_turn cs A B ls ht hl hL
  have HJ := E_joined
  unfold F_law_grown g_law_grown
  show ∃ s, fin (gSeq _ (gSeq (gFor _ _ gT) _) [some (.bor (cs.map D.int)), some (.d (.tup [.tup A, .tup B])), some (.bor ls), none, none, none, none, none, none]) = _ ∧ _
  generalize gT = U at HT ⊢
  generalize K11.F_law_joined = Fj at HJ ⊢
  generalize D.tup [.tup A, .tup B] = T at HT ⊢
  rw [seq_nx (e := [some (.bor (cs.map D.int)), some (.d T), some (.bor ls), some (.own []), none, none, none, none, none]) (by simp [gSeq, gIfS, gOr, gAnd, gNot, gTr, gIs, gVar, startE, S.rd, R.dat, tyD, subT, g2, gN, gCons, gNil, gC, gNx, gRet, gAndV, gNotV, gCall, toA, frR, rF, fin, fI0, len_tup, eq_int, gDCons, gDNil, toD, toS, gSet, ix0, ix1, ix2, gLst])]
  obtain ⟨e, h1, st, y4, y5, y6, y7, y8, rfl, ok⟩ := loop_inv (t := tgName 4) (u := U) (fun k env => ∃ (st : List Ent) (y4 y5 y6 y7 y8 : Option S), env = [some (.bor (cs.map D.int)), some (.d T), some (.bor ls), some (.own (st.map ent)), y4, y5, y6, y7, y8] ∧ StOk k st) cs.length (fun k hk env ⟨st, y4, y5, y6, y7, y8, he, ok⟩ => by
    subst he
    obtain ⟨st', ok', z5, z6, z7, z8, ez⟩ := HT k hk (by omega) st ok y5 y6 y7 y8
    exact ⟨_, _, rfl, ez, st', _, _, _, _, _, rfl, ok'⟩) [some (.bor (cs.map D.int)), some (.d T), some (.bor ls), some (.own []), none, none, none, none, none] ⟨[], none, none, none, none, none, rfl, ⟨(fun p h => by cases h), Nat.zero_le _, (fun p h => by cases h), Nat.le_refl _⟩⟩
  have ll := ok.len
  rw [seq_nx ((for_eq (rngI (m := cs.length) (by omega) (by simp [gSeq, gIfS, gOr, gAnd, gNot, gTr, gIs, gVar, startE, S.rd, R.dat, tyD, subT, g2, gN, gCons, gNil, gC, gNx, gRet, gAndV, gNotV, gCall, toA, frR, rF, fin, fI0, len_tup, eq_int, gDCons, gDNil, toD, toS, gSet, ix0, ix1, ix2, len_l]))).trans h1)]
  obtain ⟨q, eq, j1, j2, j3⟩ := HJ (cs.length : Int) (by omega) st (by omega) ok.say (2 * cs.length + 1) ok.dep
  have := ok.sum
  refine ⟨q.1, ?_, j1, by omega, by omega⟩
  simp [gSeq, gIfS, gOr, gAnd, gNot, gTr, gIs, gVar, startE, S.rd, R.dat, tyD, subT, g2, gN, gCons, gNil, gC, gNx, gRet, gAndV, gNotV, gCall, toA, frR, rF, fin, fI0, len_tup, eq_int, gDCons, gDNil, toD, toS, gSet, ix0, ix1, ix2, len_l, eq]
end K11
set_option Elab.async false
set_option linter.all false
set_option maxRecDepth 100000
set_option maxHeartbeats 4000000
namespace K11
open PySem DL K01
theorem nods_drop : ∀ (k : Nat) (xs : List D), nods (xs.drop k) ≤ nods xs
  | 0, xs => by simp
  | k + 1, [] => by simp
  | k + 1, x :: r => by
    have := nods_drop k r
    simp [nods]
    omega
theorem nods_take : ∀ (k : Nat) (xs : List D), nods (xs.take k) ≤ nods xs
  | 0, xs => by simp [nods]
  | k + 1, [] => by simp
  | k + 1, x :: r => by
    have := nods_take k r
    simp [nods]
    omega
theorem nods_cut (xs : List D) (l u : Option Int) : nods (cutD xs l u) ≤ nods xs := by
  unfold cutD
  exact Nat.le_trans (nods_take _ _) (nods_drop _ _)
theorem deps_cut (xs : List D) (l u : Option Int) : deps (cutD xs l u) ≤ deps xs := by
  unfold cutD
  exact deps_le fun d hd => dep_mem (List.mem_of_mem_drop (List.mem_of_mem_take hd))
theorem deps_app (xs ys : List D) (n : Nat) (h1 : deps xs ≤ n) (h2 : deps ys ≤ n) : deps (xs ++ ys) ≤ n := deps_le fun d hd => by
  rcases List.mem_append.mp hd with h | h
  · exact Nat.le_trans (dep_mem h) h1
  · exact Nat.le_trans (dep_mem h) h2
theorem len_cut (xs : List D) (l u : Option Int) : (cutD xs l u).length ≤ xs.length := by
  unfold cutD
  rw [List.length_take, List.length_drop]
  omega
theorem w_len2 : Str.length "zz" = 2 ∧ Str.length "x" = 1 ∧ Str.length "y" = 1 ∧ Str.length "Some" = 4 ∧ Str.length "most" = 4 ∧ Str.length "ab" = 2 ∧ Str.length "" = 0 ∧ Str.length "A" = 1 ∧ Str.length "1" = 1 ∧ Str.length "_" = 1 := by decide +kernel
theorem set_lst {env : Ev} {gs : G (List D)} {j : Nat} {ds : List D} (h : gs env = .ok ds) (hl : ds.length ≤ 1000) : gSet j (gLst gs) env = .ok (.nx (env.set j (some (.own ds)))) := by
  unfold gSet gLst
  rw [h, bind_ok, if_pos (line1000 hl)]
  rfl
theorem set_add {env : Ev} {gs : G (List D)} {j : Nat} {xs ds : List D} (e : env[j]? = some (some (.own xs))) (h : gs env = .ok ds) (hl : xs.length + ds.length ≤ 1000) : gSet j (g2 fAdd4 (gVar j) (gLst gs)) env = .ok (.nx (env.set j (some (.own (xs ++ ds))))) := by
  unfold gSet g2 gVar gLst
  rw [e]
  show (M.ok (R.l .own xs) >>= _) >>= _ = _
  rw [bind_ok, h, bind_ok, if_pos (line1000 (by omega)), bind_ok]
  show ((if xs.length + ds.length ≤ sizeLine then M.ok (R.l Md.fresh (xs ++ ds)) else M.bad) >>= _) = _
  rw [if_pos (line1000 hl)]
  rfl
def Bd (N H : Nat) (d : D) : Prop := nod d ≤ N ∧ dep d ≤ H
abbrev oddL : List D := [(.str ""), (.str "ab"), (.str "A"), (.str "1"), (.int 1), D.non, (.bl true), (.str "x"), (D.tup [(.str "x")]), (.str "or"), (.str "zz"), (.str "_")]
theorem odd_bd : ∀ d ∈ oddL, Bd 4 1 d := by
  have wl := w_len
  have w2 := w_len2
  simp only [oddL, Bd, List.forall_mem_cons, nod, nods, dep, deps, wl.1, wl.2.1, wl.2.2.1, wl.2.2.2.1, wl.2.2.2.2.1, wl.2.2.2.2.2.1, wl.2.2.2.2.2.2.1, wl.2.2.2.2.2.2.2.1, wl.2.2.2.2.2.2.2.2, w2.1, w2.2.1, w2.2.2.1, w2.2.2.2.1, w2.2.2.2.2.1, w2.2.2.2.2.2.1, w2.2.2.2.2.2.2.1, w2.2.2.2.2.2.2.2.1, w2.2.2.2.2.2.2.2.2.1, w2.2.2.2.2.2.2.2.2.2]
  simp
abbrev tl0 (xs : List D) (x : D) : List D := [(D.lst xs), (D.tup (xs ++ [x])), (D.tup (cutD xs none (some (-1)))), (D.tup (cutD xs none (some 1))), (D.tup (x :: cutD xs (some 1) none)), (D.tup []), x, (D.tup [(D.tup xs)])]
theorem tb0 (xs : List D) (x : D) (N H : Nat) (hs : nods xs + 1 ≤ N) (hh : deps xs + 1 ≤ H) (hx : nod x ≤ 4 ∧ dep x ≤ 1) : ∀ d ∈ tl0 xs x, Bd (2 * N + 20) (H + 3) d := by
  have wl := w_len
  have w2 := w_len2
  obtain ⟨hx1, hx2⟩ := hx
  have c1 := nods_cut xs none (some (-1))
  have c2 := nods_cut xs none (some 1)
  have c3 := nods_cut xs (some 1) none
  have d1 := deps_cut xs none (some (-1))
  have d2 := deps_cut xs none (some 1)
  have d3 := deps_cut xs (some 1) none
  have d4 := deps_app xs [x] (H + 1) (by omega) (by simp [deps]; omega)
  simp only [tl0, Bd, List.forall_mem_cons, nod, nods, nods_app, dep, deps, wl.1, wl.2.1, wl.2.2.1, wl.2.2.2.1, wl.2.2.2.2.1, wl.2.2.2.2.2.1, wl.2.2.2.2.2.2.1, wl.2.2.2.2.2.2.2.1, wl.2.2.2.2.2.2.2.2, w2.1, w2.2.1, w2.2.2.1, w2.2.2.2.1, w2.2.2.2.2.1]
  refine ⟨⟨by omega, by omega⟩, ⟨by omega, by omega⟩, ⟨by omega, by omega⟩, ⟨by omega, by omega⟩, ⟨by omega, by omega⟩, ⟨by omega, by omega⟩, ⟨by omega, by omega⟩, ⟨by omega, by omega⟩, fun d h => by cases h⟩
theorem te0 (n : Int) (xs : List D) (x : D) (hl : xs.length ≤ 900) (y3 y4 y5 : Option S) : (gDCons (gN fList (gCons (gVar 0) gNil)) (gDCons (g2 fAdd4 (gVar 0) (gTup (gDCons (gVar 2) gDNil))) (gDCons (gSl fSl2 (gVar 0) gNo (gPt (gNeg (gC (.int 1))))) (gDCons (gSl fSl2 (gVar 0) gNo (gPt (gC (.int 1)))) (gDCons (g2 fAdd4 (gTup (gDCons (gVar 2) gDNil)) (gSl fSl2 (gVar 0) (gPt (gC (.int 1))) gNo)) (gDCons (gTup gDNil) (gDCons (gVar 2) (gDCons (gTup (gDCons (gVar 0) gDNil)) gDNil)))))))) [some (.d (.tup xs)), some (.d (.int n)), some (.d x), y3, y4, y5] = .ok (tl0 xs x) := by
  have z0 : 0 ≤ sizeLine := by decide
  have z1 : 1 ≤ sizeLine := by decide
  have z2 : 2 ≤ sizeLine := by decide
  have z3 : 3 ≤ sizeLine := by decide
  have z4 : 4 ≤ sizeLine := by decide
  have a1 : fAdd4 (.d (.tup xs)) (.d (.tup [x])) = .ok (.d (.tup (xs ++ [x]))) := by
    show (if xs.length + 1 ≤ sizeLine then M.ok (R.d (D.tup (xs ++ [x]))) else M.bad) = _
    rw [if_pos (line1000 (by omega))]
  have lc := len_cut xs (some 1) none
  have a2 : fAdd4 (.d (.tup [x])) (.d (.tup (cutD xs (some 1) none))) = .ok (.d (.tup (x :: cutD xs (some 1) none))) := by
    show (if 1 + (cutD xs (some 1) none).length ≤ sizeLine then M.ok (R.d (D.tup (x :: cutD xs (some 1) none))) else M.bad) = _
    rw [if_pos (line1000 (by omega))]
  have s1 : ∀ l u, fSl2 (.d (.tup xs)) l u = .ok (.d (.tup (cutD xs l u))) := fun _ _ => rfl
  have f1 : fList [.d (.tup xs)] = .ok (.l .fresh xs) := rfl
  simp [gSeq, gIfS, gOr, gAnd, gNot, gTr, gIs, gVar, startE, S.rd, R.dat, tyD, subT, g2, gN, gCons, gNil, gC, gNx, gRet, gAndV, gNotV, gCall, toA, frR, rF, fin, fI0, len_tup, eq_int, gDCons, gDNil, toD, toS, gSet, ix0, ix1, ix2, gTup, gLst, gSl, gNo, gPt, gNeg, z0, z1, z2, z3, z4, a1, a2, s1, f1]
abbrev tl1 (xs : List D) (x : D) : List D := [(D.tup [(.str "mark"), x, (.str "x")]), (D.tup [(.str "mark"), (.str "zz"), x]), (D.tup [(.str "arrow"), x, (.str "x"), (.str "y")]), (D.tup [(.str "arrow"), (.str "zz"), x, (.str "y")])]
theorem tb1 (xs : List D) (x : D) (N H : Nat) (hs : nods xs + 1 ≤ N) (hh : deps xs + 1 ≤ H) (hx : nod x ≤ 4 ∧ dep x ≤ 1) : ∀ d ∈ tl1 xs x, Bd (2 * N + 20) (H + 3) d := by
  have wl := w_len
  have w2 := w_len2
  obtain ⟨hx1, hx2⟩ := hx
  have c1 := nods_cut xs none (some (-1))
  have c2 := nods_cut xs none (some 1)
  have c3 := nods_cut xs (some 1) none
  have d1 := deps_cut xs none (some (-1))
  have d2 := deps_cut xs none (some 1)
  have d3 := deps_cut xs (some 1) none
  have d4 := deps_app xs [x] (H + 1) (by omega) (by simp [deps]; omega)
  simp only [tl1, Bd, List.forall_mem_cons, nod, nods, nods_app, dep, deps, wl.1, wl.2.1, wl.2.2.1, wl.2.2.2.1, wl.2.2.2.2.1, wl.2.2.2.2.2.1, wl.2.2.2.2.2.2.1, wl.2.2.2.2.2.2.2.1, wl.2.2.2.2.2.2.2.2, w2.1, w2.2.1, w2.2.2.1, w2.2.2.2.1, w2.2.2.2.2.1]
  refine ⟨⟨by omega, by omega⟩, ⟨by omega, by omega⟩, ⟨by omega, by omega⟩, ⟨by omega, by omega⟩, fun d h => by cases h⟩
theorem te1 (n : Int) (xs : List D) (x : D) (hl : xs.length ≤ 900) (y3 y4 y5 : Option S) : (gDCons (gTup (gDCons (gC (.str "mark")) (gDCons (gVar 2) (gDCons (gC (.str "x")) gDNil)))) (gDCons (gTup (gDCons (gC (.str "mark")) (gDCons (gC (.str "zz")) (gDCons (gVar 2) gDNil)))) (gDCons (gTup (gDCons (gC (.str "arrow")) (gDCons (gVar 2) (gDCons (gC (.str "x")) (gDCons (gC (.str "y")) gDNil))))) (gDCons (gTup (gDCons (gC (.str "arrow")) (gDCons (gC (.str "zz")) (gDCons (gVar 2) (gDCons (gC (.str "y")) gDNil))))) gDNil)))) [some (.d (.tup xs)), some (.d (.int n)), some (.d x), y3, y4, y5] = .ok (tl1 xs x) := by
  have z0 : 0 ≤ sizeLine := by decide
  have z1 : 1 ≤ sizeLine := by decide
  have z2 : 2 ≤ sizeLine := by decide
  have z3 : 3 ≤ sizeLine := by decide
  have z4 : 4 ≤ sizeLine := by decide
  have a1 : fAdd4 (.d (.tup xs)) (.d (.tup [x])) = .ok (.d (.tup (xs ++ [x]))) := by
    show (if xs.length + 1 ≤ sizeLine then M.ok (R.d (D.tup (xs ++ [x]))) else M.bad) = _
    rw [if_pos (line1000 (by omega))]
  have lc := len_cut xs (some 1) none
  have a2 : fAdd4 (.d (.tup [x])) (.d (.tup (cutD xs (some 1) none))) = .ok (.d (.tup (x :: cutD xs (some 1) none))) := by
    show (if 1 + (cutD xs (some 1) none).length ≤ sizeLine then M.ok (R.d (D.tup (x :: cutD xs (some 1) none))) else M.bad) = _
    rw [if_pos (line1000 (by omega))]
  have s1 : ∀ l u, fSl2 (.d (.tup xs)) l u = .ok (.d (.tup (cutD xs l u))) := fun _ _ => rfl
  have f1 : fList [.d (.tup xs)] = .ok (.l .fresh xs) := rfl
  simp [gSeq, gIfS, gOr, gAnd, gNot, gTr, gIs, gVar, startE, S.rd, R.dat, tyD, subT, g2, gN, gCons, gNil, gC, gNx, gRet, gAndV, gNotV, gCall, toA, frR, rF, fin, fI0, len_tup, eq_int, gDCons, gDNil, toD, toS, gSet, ix0, ix1, ix2, gTup, gLst, gSl, gNo, gPt, gNeg, z0, z1, z2, z3, z4, a1, a2, s1, f1]
abbrev tl2 (xs : List D) (x : D) : List D := [(D.tup [(.str "arrow"), (.str "zz"), (.str "x"), x]), (D.tup [(.str "same"), x, (.str "x")]), (D.tup [(.str "same"), (.str "x"), x]), (D.tup [(.str "mark"), (.str "zz"), (.str "x"), (.str "y")])]
theorem tb2 (xs : List D) (x : D) (N H : Nat) (hs : nods xs + 1 ≤ N) (hh : deps xs + 1 ≤ H) (hx : nod x ≤ 4 ∧ dep x ≤ 1) : ∀ d ∈ tl2 xs x, Bd (2 * N + 20) (H + 3) d := by
  have wl := w_len
  have w2 := w_len2
  obtain ⟨hx1, hx2⟩ := hx
  have c1 := nods_cut xs none (some (-1))
  have c2 := nods_cut xs none (some 1)
  have c3 := nods_cut xs (some 1) none
  have d1 := deps_cut xs none (some (-1))
  have d2 := deps_cut xs none (some 1)
  have d3 := deps_cut xs (some 1) none
  have d4 := deps_app xs [x] (H + 1) (by omega) (by simp [deps]; omega)
  simp only [tl2, Bd, List.forall_mem_cons, nod, nods, nods_app, dep, deps, wl.1, wl.2.1, wl.2.2.1, wl.2.2.2.1, wl.2.2.2.2.1, wl.2.2.2.2.2.1, wl.2.2.2.2.2.2.1, wl.2.2.2.2.2.2.2.1, wl.2.2.2.2.2.2.2.2, w2.1, w2.2.1, w2.2.2.1, w2.2.2.2.1, w2.2.2.2.2.1]
  refine ⟨⟨by omega, by omega⟩, ⟨by omega, by omega⟩, ⟨by omega, by omega⟩, ⟨by omega, by omega⟩, fun d h => by cases h⟩
theorem te2 (n : Int) (xs : List D) (x : D) (hl : xs.length ≤ 900) (y3 y4 y5 : Option S) : (gDCons (gTup (gDCons (gC (.str "arrow")) (gDCons (gC (.str "zz")) (gDCons (gC (.str "x")) (gDCons (gVar 2) gDNil))))) (gDCons (gTup (gDCons (gC (.str "same")) (gDCons (gVar 2) (gDCons (gC (.str "x")) gDNil)))) (gDCons (gTup (gDCons (gC (.str "same")) (gDCons (gC (.str "x")) (gDCons (gVar 2) gDNil)))) (gDCons (gTup (gDCons (gC (.str "mark")) (gDCons (gC (.str "zz")) (gDCons (gC (.str "x")) (gDCons (gC (.str "y")) gDNil))))) gDNil)))) [some (.d (.tup xs)), some (.d (.int n)), some (.d x), y3, y4, y5] = .ok (tl2 xs x) := by
  have z0 : 0 ≤ sizeLine := by decide
  have z1 : 1 ≤ sizeLine := by decide
  have z2 : 2 ≤ sizeLine := by decide
  have z3 : 3 ≤ sizeLine := by decide
  have z4 : 4 ≤ sizeLine := by decide
  have a1 : fAdd4 (.d (.tup xs)) (.d (.tup [x])) = .ok (.d (.tup (xs ++ [x]))) := by
    show (if xs.length + 1 ≤ sizeLine then M.ok (R.d (D.tup (xs ++ [x]))) else M.bad) = _
    rw [if_pos (line1000 (by omega))]
  have lc := len_cut xs (some 1) none
  have a2 : fAdd4 (.d (.tup [x])) (.d (.tup (cutD xs (some 1) none))) = .ok (.d (.tup (x :: cutD xs (some 1) none))) := by
    show (if 1 + (cutD xs (some 1) none).length ≤ sizeLine then M.ok (R.d (D.tup (x :: cutD xs (some 1) none))) else M.bad) = _
    rw [if_pos (line1000 (by omega))]
  have s1 : ∀ l u, fSl2 (.d (.tup xs)) l u = .ok (.d (.tup (cutD xs l u))) := fun _ _ => rfl
  have f1 : fList [.d (.tup xs)] = .ok (.l .fresh xs) := rfl
  simp [gSeq, gIfS, gOr, gAnd, gNot, gTr, gIs, gVar, startE, S.rd, R.dat, tyD, subT, g2, gN, gCons, gNil, gC, gNx, gRet, gAndV, gNotV, gCall, toA, frR, rF, fin, fI0, len_tup, eq_int, gDCons, gDNil, toD, toS, gSet, ix0, ix1, ix2, gTup, gLst, gSl, gNo, gPt, gNeg, z0, z1, z2, z3, z4, a1, a2, s1, f1]
abbrev tl3 (xs : List D) (x : D) : List D := [(D.tup [(.str "not"), x]), (D.tup [(.str "not"), (D.tup xs), (D.tup xs)]), (D.tup [(.str "and"), (D.tup [(D.tup xs)])]), (D.tup [(.str "or"), (D.lst [(D.tup xs), (D.tup xs)])]), (D.tup [(.str "or"), (D.tup xs)])]
theorem tb3 (xs : List D) (x : D) (N H : Nat) (hs : nods xs + 1 ≤ N) (hh : deps xs + 1 ≤ H) (hx : nod x ≤ 4 ∧ dep x ≤ 1) : ∀ d ∈ tl3 xs x, Bd (2 * N + 20) (H + 3) d := by
  have wl := w_len
  have w2 := w_len2
  obtain ⟨hx1, hx2⟩ := hx
  have c1 := nods_cut xs none (some (-1))
  have c2 := nods_cut xs none (some 1)
  have c3 := nods_cut xs (some 1) none
  have d1 := deps_cut xs none (some (-1))
  have d2 := deps_cut xs none (some 1)
  have d3 := deps_cut xs (some 1) none
  have d4 := deps_app xs [x] (H + 1) (by omega) (by simp [deps]; omega)
  simp only [tl3, Bd, List.forall_mem_cons, nod, nods, nods_app, dep, deps, wl.1, wl.2.1, wl.2.2.1, wl.2.2.2.1, wl.2.2.2.2.1, wl.2.2.2.2.2.1, wl.2.2.2.2.2.2.1, wl.2.2.2.2.2.2.2.1, wl.2.2.2.2.2.2.2.2, w2.1, w2.2.1, w2.2.2.1, w2.2.2.2.1, w2.2.2.2.2.1]
  refine ⟨⟨by omega, by omega⟩, ⟨by omega, by omega⟩, ⟨by omega, by omega⟩, ⟨by omega, by omega⟩, ⟨by omega, by omega⟩, fun d h => by cases h⟩
theorem te3 (n : Int) (xs : List D) (x : D) (hl : xs.length ≤ 900) (y3 y4 y5 : Option S) : (gDCons (gTup (gDCons (gC (.str "not")) (gDCons (gVar 2) gDNil))) (gDCons (gTup (gDCons (gC (.str "not")) (gDCons (gVar 0) (gDCons (gVar 0) gDNil)))) (gDCons (gTup (gDCons (gC (.str "and")) (gDCons (gTup (gDCons (gVar 0) gDNil)) gDNil))) (gDCons (gTup (gDCons (gC (.str "or")) (gDCons (gLst (gDCons (gVar 0) (gDCons (gVar 0) gDNil))) gDNil))) (gDCons (gTup (gDCons (gC (.str "or")) (gDCons (gVar 0) gDNil))) gDNil))))) [some (.d (.tup xs)), some (.d (.int n)), some (.d x), y3, y4, y5] = .ok (tl3 xs x) := by
  have z0 : 0 ≤ sizeLine := by decide
  have z1 : 1 ≤ sizeLine := by decide
  have z2 : 2 ≤ sizeLine := by decide
  have z3 : 3 ≤ sizeLine := by decide
  have z4 : 4 ≤ sizeLine := by decide
  have a1 : fAdd4 (.d (.tup xs)) (.d (.tup [x])) = .ok (.d (.tup (xs ++ [x]))) := by
    show (if xs.length + 1 ≤ sizeLine then M.ok (R.d (D.tup (xs ++ [x]))) else M.bad) = _
    rw [if_pos (line1000 (by omega))]
  have lc := len_cut xs (some 1) none
  have a2 : fAdd4 (.d (.tup [x])) (.d (.tup (cutD xs (some 1) none))) = .ok (.d (.tup (x :: cutD xs (some 1) none))) := by
    show (if 1 + (cutD xs (some 1) none).length ≤ sizeLine then M.ok (R.d (D.tup (x :: cutD xs (some 1) none))) else M.bad) = _
    rw [if_pos (line1000 (by omega))]
  have s1 : ∀ l u, fSl2 (.d (.tup xs)) l u = .ok (.d (.tup (cutD xs l u))) := fun _ _ => rfl
  have f1 : fList [.d (.tup xs)] = .ok (.l .fresh xs) := rfl
  simp [gSeq, gIfS, gOr, gAnd, gNot, gTr, gIs, gVar, startE, S.rd, R.dat, tyD, subT, g2, gN, gCons, gNil, gC, gNx, gRet, gAndV, gNotV, gCall, toA, frR, rF, fin, fI0, len_tup, eq_int, gDCons, gDNil, toD, toS, gSet, ix0, ix1, ix2, gTup, gLst, gSl, gNo, gPt, gNeg, z0, z1, z2, z3, z4, a1, a2, s1, f1]
abbrev tl4 (xs : List D) (x : D) : List D := [(D.tup [(.str "and"), (D.tup [(D.tup xs), x])]), (D.tup [(.str "or"), (D.tup [x, (D.tup xs)])]), (D.tup [(.str "some"), x, (D.tup xs)]), (D.tup [(.str "every"), (.str "x"), x])]
theorem tb4 (xs : List D) (x : D) (N H : Nat) (hs : nods xs + 1 ≤ N) (hh : deps xs + 1 ≤ H) (hx : nod x ≤ 4 ∧ dep x ≤ 1) : ∀ d ∈ tl4 xs x, Bd (2 * N + 20) (H + 3) d := by
  have wl := w_len
  have w2 := w_len2
  obtain ⟨hx1, hx2⟩ := hx
  have c1 := nods_cut xs none (some (-1))
  have c2 := nods_cut xs none (some 1)
  have c3 := nods_cut xs (some 1) none
  have d1 := deps_cut xs none (some (-1))
  have d2 := deps_cut xs none (some 1)
  have d3 := deps_cut xs (some 1) none
  have d4 := deps_app xs [x] (H + 1) (by omega) (by simp [deps]; omega)
  simp only [tl4, Bd, List.forall_mem_cons, nod, nods, nods_app, dep, deps, wl.1, wl.2.1, wl.2.2.1, wl.2.2.2.1, wl.2.2.2.2.1, wl.2.2.2.2.2.1, wl.2.2.2.2.2.2.1, wl.2.2.2.2.2.2.2.1, wl.2.2.2.2.2.2.2.2, w2.1, w2.2.1, w2.2.2.1, w2.2.2.2.1, w2.2.2.2.2.1]
  refine ⟨⟨by omega, by omega⟩, ⟨by omega, by omega⟩, ⟨by omega, by omega⟩, ⟨by omega, by omega⟩, fun d h => by cases h⟩
theorem te4 (n : Int) (xs : List D) (x : D) (hl : xs.length ≤ 900) (y3 y4 y5 : Option S) : (gDCons (gTup (gDCons (gC (.str "and")) (gDCons (gTup (gDCons (gVar 0) (gDCons (gVar 2) gDNil))) gDNil))) (gDCons (gTup (gDCons (gC (.str "or")) (gDCons (gTup (gDCons (gVar 2) (gDCons (gVar 0) gDNil))) gDNil))) (gDCons (gTup (gDCons (gC (.str "some")) (gDCons (gVar 2) (gDCons (gVar 0) gDNil)))) (gDCons (gTup (gDCons (gC (.str "every")) (gDCons (gC (.str "x")) (gDCons (gVar 2) gDNil)))) gDNil)))) [some (.d (.tup xs)), some (.d (.int n)), some (.d x), y3, y4, y5] = .ok (tl4 xs x) := by
  have z0 : 0 ≤ sizeLine := by decide
  have z1 : 1 ≤ sizeLine := by decide
  have z2 : 2 ≤ sizeLine := by decide
  have z3 : 3 ≤ sizeLine := by decide
  have z4 : 4 ≤ sizeLine := by decide
  have a1 : fAdd4 (.d (.tup xs)) (.d (.tup [x])) = .ok (.d (.tup (xs ++ [x]))) := by
    show (if xs.length + 1 ≤ sizeLine then M.ok (R.d (D.tup (xs ++ [x]))) else M.bad) = _
    rw [if_pos (line1000 (by omega))]
  have lc := len_cut xs (some 1) none
  have a2 : fAdd4 (.d (.tup [x])) (.d (.tup (cutD xs (some 1) none))) = .ok (.d (.tup (x :: cutD xs (some 1) none))) := by
    show (if 1 + (cutD xs (some 1) none).length ≤ sizeLine then M.ok (R.d (D.tup (x :: cutD xs (some 1) none))) else M.bad) = _
    rw [if_pos (line1000 (by omega))]
  have s1 : ∀ l u, fSl2 (.d (.tup xs)) l u = .ok (.d (.tup (cutD xs l u))) := fun _ _ => rfl
  have f1 : fList [.d (.tup xs)] = .ok (.l .fresh xs) := rfl
  simp [gSeq, gIfS, gOr, gAnd, gNot, gTr, gIs, gVar, startE, S.rd, R.dat, tyD, subT, g2, gN, gCons, gNil, gC, gNx, gRet, gAndV, gNotV, gCall, toA, frR, rF, fin, fI0, len_tup, eq_int, gDCons, gDNil, toD, toS, gSet, ix0, ix1, ix2, gTup, gLst, gSl, gNo, gPt, gNeg, z0, z1, z2, z3, z4, a1, a2, s1, f1]
abbrev tl5 (xs : List D) (x : D) : List D := [(D.tup [(.str "least"), (.int 0), (.str "x"), (D.tup xs)]), (D.tup [(.str "least"), (.int 10), (.str "x"), (D.tup xs)]), (D.tup [(.str "least"), x, (.str "x"), (D.tup xs)])]
theorem tb5 (xs : List D) (x : D) (N H : Nat) (hs : nods xs + 1 ≤ N) (hh : deps xs + 1 ≤ H) (hx : nod x ≤ 4 ∧ dep x ≤ 1) : ∀ d ∈ tl5 xs x, Bd (2 * N + 20) (H + 3) d := by
  have wl := w_len
  have w2 := w_len2
  obtain ⟨hx1, hx2⟩ := hx
  have c1 := nods_cut xs none (some (-1))
  have c2 := nods_cut xs none (some 1)
  have c3 := nods_cut xs (some 1) none
  have d1 := deps_cut xs none (some (-1))
  have d2 := deps_cut xs none (some 1)
  have d3 := deps_cut xs (some 1) none
  have d4 := deps_app xs [x] (H + 1) (by omega) (by simp [deps]; omega)
  simp only [tl5, Bd, List.forall_mem_cons, nod, nods, nods_app, dep, deps, wl.1, wl.2.1, wl.2.2.1, wl.2.2.2.1, wl.2.2.2.2.1, wl.2.2.2.2.2.1, wl.2.2.2.2.2.2.1, wl.2.2.2.2.2.2.2.1, wl.2.2.2.2.2.2.2.2, w2.1, w2.2.1, w2.2.2.1, w2.2.2.2.1, w2.2.2.2.2.1]
  refine ⟨⟨by omega, by omega⟩, ⟨by omega, by omega⟩, ⟨by omega, by omega⟩, fun d h => by cases h⟩
theorem te5 (n : Int) (xs : List D) (x : D) (hl : xs.length ≤ 900) (y3 y4 y5 : Option S) : (gDCons (gTup (gDCons (gC (.str "least")) (gDCons (gC (.int 0)) (gDCons (gC (.str "x")) (gDCons (gVar 0) gDNil))))) (gDCons (gTup (gDCons (gC (.str "least")) (gDCons (gC (.int 10)) (gDCons (gC (.str "x")) (gDCons (gVar 0) gDNil))))) (gDCons (gTup (gDCons (gC (.str "least")) (gDCons (gVar 2) (gDCons (gC (.str "x")) (gDCons (gVar 0) gDNil))))) gDNil))) [some (.d (.tup xs)), some (.d (.int n)), some (.d x), y3, y4, y5] = .ok (tl5 xs x) := by
  have z0 : 0 ≤ sizeLine := by decide
  have z1 : 1 ≤ sizeLine := by decide
  have z2 : 2 ≤ sizeLine := by decide
  have z3 : 3 ≤ sizeLine := by decide
  have z4 : 4 ≤ sizeLine := by decide
  have a1 : fAdd4 (.d (.tup xs)) (.d (.tup [x])) = .ok (.d (.tup (xs ++ [x]))) := by
    show (if xs.length + 1 ≤ sizeLine then M.ok (R.d (D.tup (xs ++ [x]))) else M.bad) = _
    rw [if_pos (line1000 (by omega))]
  have lc := len_cut xs (some 1) none
  have a2 : fAdd4 (.d (.tup [x])) (.d (.tup (cutD xs (some 1) none))) = .ok (.d (.tup (x :: cutD xs (some 1) none))) := by
    show (if 1 + (cutD xs (some 1) none).length ≤ sizeLine then M.ok (R.d (D.tup (x :: cutD xs (some 1) none))) else M.bad) = _
    rw [if_pos (line1000 (by omega))]
  have s1 : ∀ l u, fSl2 (.d (.tup xs)) l u = .ok (.d (.tup (cutD xs l u))) := fun _ _ => rfl
  have f1 : fList [.d (.tup xs)] = .ok (.l .fresh xs) := rfl
  simp [gSeq, gIfS, gOr, gAnd, gNot, gTr, gIs, gVar, startE, S.rd, R.dat, tyD, subT, g2, gN, gCons, gNil, gC, gNx, gRet, gAndV, gNotV, gCall, toA, frR, rF, fin, fI0, len_tup, eq_int, gDCons, gDNil, toD, toS, gSet, ix0, ix1, ix2, gTup, gLst, gSl, gNo, gPt, gNeg, z0, z1, z2, z3, z4, a1, a2, s1, f1]
abbrev tl6 (xs : List D) (x : D) : List D := [(D.tup [(.str "least"), (.int 2), x, (D.tup xs)]), (D.tup [(.str "least"), (.int 9), (.str "x"), x]), (D.tup [(.str "Some"), (.str "x"), (D.tup xs)]), (D.tup [(.str "most"), (.int 2), (.str "x"), (D.tup xs)])]
theorem tb6 (xs : List D) (x : D) (N H : Nat) (hs : nods xs + 1 ≤ N) (hh : deps xs + 1 ≤ H) (hx : nod x ≤ 4 ∧ dep x ≤ 1) : ∀ d ∈ tl6 xs x, Bd (2 * N + 20) (H + 3) d := by
  have wl := w_len
  have w2 := w_len2
  obtain ⟨hx1, hx2⟩ := hx
  have c1 := nods_cut xs none (some (-1))
  have c2 := nods_cut xs none (some 1)
  have c3 := nods_cut xs (some 1) none
  have d1 := deps_cut xs none (some (-1))
  have d2 := deps_cut xs none (some 1)
  have d3 := deps_cut xs (some 1) none
  have d4 := deps_app xs [x] (H + 1) (by omega) (by simp [deps]; omega)
  simp only [tl6, Bd, List.forall_mem_cons, nod, nods, nods_app, dep, deps, wl.1, wl.2.1, wl.2.2.1, wl.2.2.2.1, wl.2.2.2.2.1, wl.2.2.2.2.2.1, wl.2.2.2.2.2.2.1, wl.2.2.2.2.2.2.2.1, wl.2.2.2.2.2.2.2.2, w2.1, w2.2.1, w2.2.2.1, w2.2.2.2.1, w2.2.2.2.2.1]
  refine ⟨⟨by omega, by omega⟩, ⟨by omega, by omega⟩, ⟨by omega, by omega⟩, ⟨by omega, by omega⟩, fun d h => by cases h⟩
theorem te6 (n : Int) (xs : List D) (x : D) (hl : xs.length ≤ 900) (y3 y4 y5 : Option S) : (gDCons (gTup (gDCons (gC (.str "least")) (gDCons (gC (.int 2)) (gDCons (gVar 2) (gDCons (gVar 0) gDNil))))) (gDCons (gTup (gDCons (gC (.str "least")) (gDCons (gC (.int 9)) (gDCons (gC (.str "x")) (gDCons (gVar 2) gDNil))))) (gDCons (gTup (gDCons (gC (.str "Some")) (gDCons (gC (.str "x")) (gDCons (gVar 0) gDNil)))) (gDCons (gTup (gDCons (gC (.str "most")) (gDCons (gC (.int 2)) (gDCons (gC (.str "x")) (gDCons (gVar 0) gDNil))))) gDNil)))) [some (.d (.tup xs)), some (.d (.int n)), some (.d x), y3, y4, y5] = .ok (tl6 xs x) := by
  have z0 : 0 ≤ sizeLine := by decide
  have z1 : 1 ≤ sizeLine := by decide
  have z2 : 2 ≤ sizeLine := by decide
  have z3 : 3 ≤ sizeLine := by decide
  have z4 : 4 ≤ sizeLine := by decide
  have a1 : fAdd4 (.d (.tup xs)) (.d (.tup [x])) = .ok (.d (.tup (xs ++ [x]))) := by
    show (if xs.length + 1 ≤ sizeLine then M.ok (R.d (D.tup (xs ++ [x]))) else M.bad) = _
    rw [if_pos (line1000 (by omega))]
  have lc := len_cut xs (some 1) none
  have a2 : fAdd4 (.d (.tup [x])) (.d (.tup (cutD xs (some 1) none))) = .ok (.d (.tup (x :: cutD xs (some 1) none))) := by
    show (if 1 + (cutD xs (some 1) none).length ≤ sizeLine then M.ok (R.d (D.tup (x :: cutD xs (some 1) none))) else M.bad) = _
    rw [if_pos (line1000 (by omega))]
  have s1 : ∀ l u, fSl2 (.d (.tup xs)) l u = .ok (.d (.tup (cutD xs l u))) := fun _ _ => rfl
  have f1 : fList [.d (.tup xs)] = .ok (.l .fresh xs) := rfl
  simp [gSeq, gIfS, gOr, gAnd, gNot, gTr, gIs, gVar, startE, S.rd, R.dat, tyD, subT, g2, gN, gCons, gNil, gC, gNx, gRet, gAndV, gNotV, gCall, toA, frR, rF, fin, fI0, len_tup, eq_int, gDCons, gDNil, toD, toS, gSet, ix0, ix1, ix2, gTup, gLst, gSl, gNo, gPt, gNeg, z0, z1, z2, z3, z4, a1, a2, s1, f1]
theorem E_turned (n : Int) (n0 : 0 ≤ n) (xs : List D) (N H : Nat) (hs : nods xs + 1 ≤ N) (hh : deps xs + 1 ≤ H) (hN : N ≤ 300) : ∃ d, F_law_turned [.d (.tup xs), .d (.int n)] = .ok (.d d) ∧ Bd (3 * N + 50) (H + 8) d := by
  have hl : xs.length ≤ 900 := by have := len_nods xs; omega
  have wl := w_len
  have w2 := w_len2
  have z2 : 2 ≤ sizeLine := by decide
  have z3 : 3 ≤ sizeLine := by decide
  unfold F_law_turned g_law_turned
  show ∃ d, fin (gSeq _ _ [some (.d (.tup xs)), some (.d (.int n)), none, none, none, none]) = _ ∧ _
  have lst : gLst (gDCons (gC (.str "")) (gDCons (gC (.str "ab")) (gDCons (gC (.str "A")) (gDCons (gC (.str "1")) (gDCons (gC (.int 1)) (gDCons (gC .non) (gDCons (gC (.bl true)) (gDCons (gC (.str "x")) (gDCons (gTup (gDCons (gC (.str "x")) gDNil)) (gDCons (gC (.str "or")) (gDCons (gC (.str "zz")) (gDCons (gC (.str "_")) gDNil)))))))))))) = fun _ => .ok (.l .fresh oddL) := by funext env; rfl
  rw [lst]
  obtain ⟨x, hx, ex⟩ := ix_mem (m := .fresh) (xs := oddL) (i := n % 12) (by omega) (by show _ < (12 : Int); omega)
  have bx := odd_bd x hx
  generalize oddL = OL at ex ⊢
  rw [seq_nx (e := [some (.d (.tup xs)), some (.d (.int n)), some (.d x), none, none, none]) (by simp [gSeq, gIfS, gOr, gAnd, gNot, gTr, gIs, gVar, startE, S.rd, R.dat, tyD, subT, g2, gN, gCons, gNil, gC, gNx, gRet, gAndV, gNotV, gCall, toA, frR, rF, fin, fI0, len_tup, eq_int, gDCons, gDNil, toD, toS, gSet, ix0, ix1, ix2, t_mod, ex])]
  rw [seq_nx (set_lst (te0 n xs x hl none none none) (by simp))]
  have b0 := tb0 xs x N H hs hh bx
  have l0 : (tl0 xs x).length = 8 := rfl
  generalize hU0 : tl0 xs x = U0 at b0 l0 ⊢
  show ∃ d, fin (gSeq _ _ [some (.d (.tup xs)), some (.d (.int n)), some (.d x), some (.own U0), none, none]) = _ ∧ _
  rw [seq_nx (set_add (xs := U0) rfl (te1 n xs x hl _ none none) (by rw [l0]; show 8 + 4 ≤ 1000; decide))]
  obtain ⟨U1, hU1⟩ : ∃ U, U0 ++ tl1 xs x = U := ⟨_, rfl⟩
  have b1 : ∀ d ∈ U1, Bd (2 * N + 20) (H + 3) d := fun d hd => by
    rw [← hU1] at hd
    rcases List.mem_append.mp hd with h | h
    · exact b0 d h
    · exact tb1 xs x N H hs hh bx d h
  have l1 : U1.length = 12 := by rw [← hU1, List.length_append, l0]; rfl
  rw [hU1]
  show ∃ d, fin (gSeq _ _ [some (.d (.tup xs)), some (.d (.int n)), some (.d x), some (.own U1), none, none]) = _ ∧ _
  rw [seq_nx (set_add (xs := U1) rfl (te2 n xs x hl _ none none) (by rw [l1]; show 12 + 4 ≤ 1000; decide))]
  obtain ⟨U2, hU2⟩ : ∃ U, U1 ++ tl2 xs x = U := ⟨_, rfl⟩
  have b2 : ∀ d ∈ U2, Bd (2 * N + 20) (H + 3) d := fun d hd => by
    rw [← hU2] at hd
    rcases List.mem_append.mp hd with h | h
    · exact b1 d h
    · exact tb2 xs x N H hs hh bx d h
  have l2 : U2.length = 16 := by rw [← hU2, List.length_append, l1]; rfl
  rw [hU2]
  show ∃ d, fin (gSeq _ _ [some (.d (.tup xs)), some (.d (.int n)), some (.d x), some (.own U2), none, none]) = _ ∧ _
  rw [seq_nx (set_add (xs := U2) rfl (te3 n xs x hl _ none none) (by rw [l2]; show 16 + 5 ≤ 1000; decide))]
  obtain ⟨U3, hU3⟩ : ∃ U, U2 ++ tl3 xs x = U := ⟨_, rfl⟩
  have b3 : ∀ d ∈ U3, Bd (2 * N + 20) (H + 3) d := fun d hd => by
    rw [← hU3] at hd
    rcases List.mem_append.mp hd with h | h
    · exact b2 d h
    · exact tb3 xs x N H hs hh bx d h
  have l3 : U3.length = 21 := by rw [← hU3, List.length_append, l2]; rfl
  rw [hU3]
  show ∃ d, fin (gSeq _ _ [some (.d (.tup xs)), some (.d (.int n)), some (.d x), some (.own U3), none, none]) = _ ∧ _
  rw [seq_nx (set_add (xs := U3) rfl (te4 n xs x hl _ none none) (by rw [l3]; show 21 + 4 ≤ 1000; decide))]
  obtain ⟨U4, hU4⟩ : ∃ U, U3 ++ tl4 xs x = U := ⟨_, rfl⟩
  have b4 : ∀ d ∈ U4, Bd (2 * N + 20) (H + 3) d := fun d hd => by
    rw [← hU4] at hd
    rcases List.mem_append.mp hd with h | h
    · exact b3 d h
    · exact tb4 xs x N H hs hh bx d h
  have l4 : U4.length = 25 := by rw [← hU4, List.length_append, l3]; rfl
  rw [hU4]
  show ∃ d, fin (gSeq _ _ [some (.d (.tup xs)), some (.d (.int n)), some (.d x), some (.own U4), none, none]) = _ ∧ _
  rw [seq_nx (set_add (xs := U4) rfl (te5 n xs x hl _ none none) (by rw [l4]; show 25 + 3 ≤ 1000; decide))]
  obtain ⟨U5, hU5⟩ : ∃ U, U4 ++ tl5 xs x = U := ⟨_, rfl⟩
  have b5 : ∀ d ∈ U5, Bd (2 * N + 20) (H + 3) d := fun d hd => by
    rw [← hU5] at hd
    rcases List.mem_append.mp hd with h | h
    · exact b4 d h
    · exact tb5 xs x N H hs hh bx d h
  have l5 : U5.length = 28 := by rw [← hU5, List.length_append, l4]; rfl
  rw [hU5]
  show ∃ d, fin (gSeq _ _ [some (.d (.tup xs)), some (.d (.int n)), some (.d x), some (.own U5), none, none]) = _ ∧ _
  rw [seq_nx (set_add (xs := U5) rfl (te6 n xs x hl _ none none) (by rw [l5]; show 28 + 4 ≤ 1000; decide))]
  obtain ⟨U6, hU6⟩ : ∃ U, U5 ++ tl6 xs x = U := ⟨_, rfl⟩
  have b6 : ∀ d ∈ U6, Bd (2 * N + 20) (H + 3) d := fun d hd => by
    rw [← hU6] at hd
    rcases List.mem_append.mp hd with h | h
    · exact b5 d h
    · exact tb6 xs x N H hs hh bx d h
  have l6 : U6.length = 32 := by rw [← hU6, List.length_append, l5]; rfl
  rw [hU6]
  show ∃ d, fin (gSeq _ _ [some (.d (.tup xs)), some (.d (.int n)), some (.d x), some (.own U6), none, none]) = _ ∧ _
  obtain ⟨v, hv, ev⟩ := ix_mem (m := .own) (xs := U6) (i := n / 12 % 32) (by omega) (by rw [l6]; show _ < (32 : Int); omega)
  obtain ⟨v1, v2⟩ := b6 v hv
  have ul : fLen [.l .own U6] = .ok (.d (.int 32)) := by rw [len_l, l6]; rfl
  rw [seq_nx (e := [some (.d (.tup xs)), some (.d (.int n)), some (.d x), some (.own U6), some (.d v), none]) (by simp [gSeq, gIfS, gOr, gAnd, gNot, gTr, gIs, gVar, startE, S.rd, R.dat, tyD, subT, g2, gN, gCons, gNil, gC, gNx, gRet, gAndV, gNotV, gCall, toA, frR, rF, fin, fI0, len_tup, eq_int, gDCons, gDNil, toD, toS, gSet, ix0, ix1, ix2, ul, t_div, t_mod, ev])]
  rw [seq_nx (e := [some (.d (.tup xs)), some (.d (.int n)), some (.d x), some (.own U6), some (.d v), some (.d (.int (n / 1200 % 5)))]) (by simp [gSeq, gIfS, gOr, gAnd, gNot, gTr, gIs, gVar, startE, S.rd, R.dat, tyD, subT, g2, gN, gCons, gNil, gC, gNx, gRet, gAndV, gNotV, gCall, toA, frR, rF, fin, fI0, len_tup, eq_int, gDCons, gDNil, toD, toS, gSet, ix0, ix1, ix2, t_div, t_mod])]
  obtain ⟨w, hw⟩ : ∃ w, n / 1200 % 5 = w := ⟨_, rfl⟩
  rw [hw]
  by_cases c1 : w = 1
  · refine ⟨.tup [.str "not", v], ?_, ?_, ?_⟩
    · rw [seq_rt (r := .d (.tup [.str "not", v])) ((ifs_yes (by simp [gSeq, gIfS, gOr, gAnd, gNot, gTr, gIs, gVar, startE, S.rd, R.dat, tyD, subT, g2, gN, gCons, gNil, gC, gNx, gRet, gAndV, gNotV, gCall, toA, frR, rF, fin, fI0, len_tup, eq_int, gDCons, gDNil, toD, toS, gSet, ix0, ix1, ix2, c1])).trans (by simp [gSeq, gIfS, gOr, gAnd, gNot, gTr, gIs, gVar, startE, S.rd, R.dat, tyD, subT, g2, gN, gCons, gNil, gC, gNx, gRet, gAndV, gNotV, gCall, toA, frR, rF, fin, fI0, len_tup, eq_int, gDCons, gDNil, toD, toS, gSet, ix0, ix1, ix2, gTup, z2, z3]))]
      rfl
    · simp only [nod, nods, wl.2.2.2.1, wl.2.2.2.2.2.1, wl.2.2.2.2.2.2.1, w2.2.1]
      omega
    · simp only [dep, deps]
      omega
  rw [seq_nx (e := [some (.d (.tup xs)), some (.d (.int n)), some (.d x), some (.own U6), some (.d v), some (.d (.int w))]) ((ifs_no (by simp [gSeq, gIfS, gOr, gAnd, gNot, gTr, gIs, gVar, startE, S.rd, R.dat, tyD, subT, g2, gN, gCons, gNil, gC, gNx, gRet, gAndV, gNotV, gCall, toA, frR, rF, fin, fI0, len_tup, eq_int, gDCons, gDNil, toD, toS, gSet, ix0, ix1, ix2, c1])).trans rfl)]
  by_cases c2 : w = 2
  · refine ⟨.tup [.str "some", .str "x", .tup [.str "not", v]], ?_, ?_, ?_⟩
    · rw [seq_rt (r := .d (.tup [.str "some", .str "x", .tup [.str "not", v]])) ((ifs_yes (by simp [gSeq, gIfS, gOr, gAnd, gNot, gTr, gIs, gVar, startE, S.rd, R.dat, tyD, subT, g2, gN, gCons, gNil, gC, gNx, gRet, gAndV, gNotV, gCall, toA, frR, rF, fin, fI0, len_tup, eq_int, gDCons, gDNil, toD, toS, gSet, ix0, ix1, ix2, c2])).trans (by simp [gSeq, gIfS, gOr, gAnd, gNot, gTr, gIs, gVar, startE, S.rd, R.dat, tyD, subT, g2, gN, gCons, gNil, gC, gNx, gRet, gAndV, gNotV, gCall, toA, frR, rF, fin, fI0, len_tup, eq_int, gDCons, gDNil, toD, toS, gSet, ix0, ix1, ix2, gTup, z2, z3]))]
      rfl
    · simp only [nod, nods, wl.2.2.2.1, wl.2.2.2.2.2.1, wl.2.2.2.2.2.2.1, w2.2.1]
      omega
    · simp only [dep, deps]
      omega
  rw [seq_nx (e := [some (.d (.tup xs)), some (.d (.int n)), some (.d x), some (.own U6), some (.d v), some (.d (.int w))]) ((ifs_no (by simp [gSeq, gIfS, gOr, gAnd, gNot, gTr, gIs, gVar, startE, S.rd, R.dat, tyD, subT, g2, gN, gCons, gNil, gC, gNx, gRet, gAndV, gNotV, gCall, toA, frR, rF, fin, fI0, len_tup, eq_int, gDCons, gDNil, toD, toS, gSet, ix0, ix1, ix2, c2])).trans rfl)]
  by_cases c3 : w = 3
  · refine ⟨.tup [.str "or", .tup [.tup xs, v]], ?_, ?_, ?_⟩
    · rw [seq_rt (r := .d (.tup [.str "or", .tup [.tup xs, v]])) ((ifs_yes (by simp [gSeq, gIfS, gOr, gAnd, gNot, gTr, gIs, gVar, startE, S.rd, R.dat, tyD, subT, g2, gN, gCons, gNil, gC, gNx, gRet, gAndV, gNotV, gCall, toA, frR, rF, fin, fI0, len_tup, eq_int, gDCons, gDNil, toD, toS, gSet, ix0, ix1, ix2, c3])).trans (by simp [gSeq, gIfS, gOr, gAnd, gNot, gTr, gIs, gVar, startE, S.rd, R.dat, tyD, subT, g2, gN, gCons, gNil, gC, gNx, gRet, gAndV, gNotV, gCall, toA, frR, rF, fin, fI0, len_tup, eq_int, gDCons, gDNil, toD, toS, gSet, ix0, ix1, ix2, gTup, z2, z3]))]
      rfl
    · simp only [nod, nods, wl.2.2.2.1, wl.2.2.2.2.2.1, wl.2.2.2.2.2.2.1, w2.2.1]
      omega
    · simp only [dep, deps]
      omega
  rw [seq_nx (e := [some (.d (.tup xs)), some (.d (.int n)), some (.d x), some (.own U6), some (.d v), some (.d (.int w))]) ((ifs_no (by simp [gSeq, gIfS, gOr, gAnd, gNot, gTr, gIs, gVar, startE, S.rd, R.dat, tyD, subT, g2, gN, gCons, gNil, gC, gNx, gRet, gAndV, gNotV, gCall, toA, frR, rF, fin, fI0, len_tup, eq_int, gDCons, gDNil, toD, toS, gSet, ix0, ix1, ix2, c3])).trans rfl)]
  refine ⟨v, ?_, by omega, by omega⟩
  simp [gSeq, gIfS, gOr, gAnd, gNot, gTr, gIs, gVar, startE, S.rd, R.dat, tyD, subT, g2, gN, gCons, gNil, gC, gNx, gRet, gAndV, gNotV, gCall, toA, frR, rF, fin, fI0, len_tup, eq_int, gDCons, gDNil, toD, toS, gSet, ix0, ix1, ix2]
end K11
set_option Elab.async false
set_option linter.all false
set_option maxRecDepth 100000
set_option maxHeartbeats 4000000
namespace K11
open PySem DL K01
theorem say_tup {s : D} (h : Say s) : ∃ xs, s = .tup xs := by
  have e := h (dep s + 1) (by omega)
  cases s with
  | tup xs => exact ⟨xs, rfl⟩
  | non => cases e
  | bl b => cases e
  | int i => cases e
  | str x => cases e
  | emp => cases e
  | lst xs => cases e
abbrev gU (Fc Ft Fs Fj : List S → M R) : G O := (gSeq (gSet 6 (g2 fMod (g2 fTimes (g2 fPlus (gN (gCall 2 Fc) (gCons (gVar 0) (gCons (g2 fPlus (gVar 3) (gVar 5)) gNil))) (g2 fTimes (gC (.int 97)) (gVar 5))) (gC (.int 64123))) (gC (.int 998244353))))
 (gSeq (gSet 7 (gN (gCall 2 Ft) (gCons (gVar 4) (gCons (gVar 6) gNil))))
 (gSeq (gSet 8 (gN (gCall 1 Fs) (gCons (gVar 7) gNil)))
 (gIfS (gOr (gNot (gTr (gIs "bool" (gVar 8)))) (gTr (g2 (fEq true) (gVar 8) (gN (gCall 1 Fj) (gCons (gVar 7) gNil))))) (gRet (gC (.bl false))) gNx))))
theorem say_turn (Fc Ft Fs Fj : List S → M R) (CS : List D) (x1 x2 y6 y7 y8 : Option S) (s t : D) (k j v n : Int) (b : Bool) (hc : Fc [.bor CS, .d (.int (k + j))] = .ok (.d (.int v))) (hn : (v + 97 * j) * 64123 % 998244353 = n) (ht : Ft [.d s, .d (.int n)] = .ok (.d t)) (hs : Fs [.d t] = .ok (.d (.bl b))) (hj : Fj [.d t] = .ok (.d (.bl b))) :
    gU Fc Ft Fs Fj [some (.bor CS), x1, x2, some (.d (.int k)), some (.d s), some (.d (.int j)), y6, y7, y8] = .ok (.nx [some (.bor CS), x1, x2, some (.d (.int k)), some (.d s), some (.d (.int j)), some (.d (.int n)), some (.d t), some (.d (.bl b))]) := by
  unfold gU
  rw [seq_nx (e := [some (.bor CS), x1, x2, some (.d (.int k)), some (.d s), some (.d (.int j)), some (.d (.int n)), y7, y8]) (by simp [gSeq, gIfS, gOr, gAnd, gNot, gTr, gIs, gVar, startE, S.rd, R.dat, tyD, subT, g2, gN, gCons, gNil, gC, gNx, gRet, gAndV, gNotV, gCall, toA, frR, rF, fin, fI0, len_tup, eq_int, gDCons, gDNil, toD, toS, gSet, ix0, ix1, ix2, t_plus, hc, t_times, t_timesL, t_mod, hn])]
  rw [seq_nx (e := [some (.bor CS), x1, x2, some (.d (.int k)), some (.d s), some (.d (.int j)), some (.d (.int n)), some (.d t), y8]) (by simp [gSeq, gIfS, gOr, gAnd, gNot, gTr, gIs, gVar, startE, S.rd, R.dat, tyD, subT, g2, gN, gCons, gNil, gC, gNx, gRet, gAndV, gNotV, gCall, toA, frR, rF, fin, fI0, len_tup, eq_int, gDCons, gDNil, toD, toS, gSet, ix0, ix1, ix2, ht])]
  rw [seq_nx (e := [some (.bor CS), x1, x2, some (.d (.int k)), some (.d s), some (.d (.int j)), some (.d (.int n)), some (.d t), some (.d (.bl b))]) (by simp [gSeq, gIfS, gOr, gAnd, gNot, gTr, gIs, gVar, startE, S.rd, R.dat, tyD, subT, g2, gN, gCons, gNil, gC, gNx, gRet, gAndV, gNotV, gCall, toA, frR, rF, fin, fI0, len_tup, eq_int, gDCons, gDNil, toD, toS, gSet, ix0, ix1, ix2, hs])]
  simp [gSeq, gIfS, gOr, gAnd, gNot, gTr, gIs, gVar, startE, S.rd, R.dat, tyD, subT, g2, gN, gCons, gNil, gC, gNx, gRet, gAndV, gNotV, gCall, toA, frR, rF, fin, fI0, len_tup, eq_int, gDCons, gDNil, toD, toS, gSet, ix0, ix1, ix2, hj, eq_bl]
theorem cut_seven (ns : List Int) (k : Nat) : ∃ cs : List Int, cutD (ns.map D.int) (some (k : Int)) (some ((k : Int) + 7)) = cs.map D.int ∧ cs.length ≤ 7 := by
  unfold cutD
  refine ⟨(ns.drop (HT.sIx (ns.map D.int).length 0 (some (k : Int)))).take (HT.sIx (ns.map D.int).length (ns.map D.int).length (some ((k : Int) + 7)) - HT.sIx (ns.map D.int).length 0 (some (k : Int))), by rw [List.map_take, List.map_drop], ?_⟩
  rw [List.length_take]
  have e1 : HT.sIx (ns.map D.int).length 0 (some (k : Int)) = min k (ns.map D.int).length := by
    show (if (k : Int) < 0 then ((k : Int) + ((ns.map D.int).length : Int)).toNat else min (k : Int).toNat (ns.map D.int).length) = _
    rw [if_neg (by omega)]
    rfl
  have e2 : HT.sIx (ns.map D.int).length (ns.map D.int).length (some ((k : Int) + 7)) = min (k + 7) (ns.map D.int).length := by
    show (if (k : Int) + 7 < 0 then ((k : Int) + 7 + ((ns.map D.int).length : Int)).toNat else min ((k : Int) + 7).toNat (ns.map D.int).length) = _
    rw [if_neg (by omega)]
    congr 1
  rw [e1, e2]
  omega
abbrev badL : List D := [.non, .int 5, .str "true", .emp, .lst [], .tup [.str "and"], .tup [.str "true"]]
theorem E_bad (d : D) (hw : wmB d = false) (hn : nod d ≤ 890) : Fis_saying [.d d] = .ok (.d (.bl false)) := by
  obtain ⟨e, he⟩ := stack_loop (dep d + 3) d 900 [d] none (by simp [nods]; omega) (by simp [nods]; omega) (fun x hx => by
    have e : x = d := by simpa using hx
    subst e
    omega)
  unfold Fis_saying gis_saying
  show fin (gSeq _ _ [some (.d d), none, none]) = _
  rw [seq_nx (e := [some (.d d), some (.own [d]), none]) (by simp [gSeq, gIfS, gOr, gAnd, gNot, gTr, gIs, gVar, startE, S.rd, R.dat, tyD, subT, g2, gN, gCons, gNil, gC, gNx, gRet, gAndV, gNotV, gCall, toA, frR, rF, fin, fI0, len_tup, eq_int, gDCons, gDNil, toD, toS, gSet, ix0, ix1, ix2, gLst, one_z])]
  have e1 : ([d] : List D).all (sB (dep d + 3)) = false := by
    show ((wmB d && (insD d).all (sB (dep d + 2))) && _) = false
    rw [hw]
    rfl
  rw [e1] at he
  rw [seq_rt (show gWhile 900 _ _ _ = _ from he)]
  rfl
theorem bad_ok : ∀ d ∈ badL, wmB d = false ∧ nod d ≤ 890 := by
  have h1 : wmB (.tup [.str "and"]) = false := by decide +kernel
  have h2 : wmB (.tup [.str "true"]) = false := by decide +kernel
  have h3 : Str.length "true" = 4 := by decide +kernel
  have wl := w_len
  simp only [badL, List.forall_mem_cons]
  refine ⟨⟨rfl, ?_⟩, ⟨rfl, ?_⟩, ⟨rfl, ?_⟩, ⟨rfl, ?_⟩, ⟨rfl, ?_⟩, ⟨h1, ?_⟩, ⟨h2, ?_⟩, fun d h => by cases h⟩ <;> simp only [nod, nods, h3, wl.2.2.2.2.1] <;> decide
theorem main_ok (ns : List Int) (hl : ns.length ≤ 63) : Flaw [.bor (ns.map D.int)] = .ok (.d (.bl true)) := by
  obtain ⟨A, B, ht, tA, tB⟩ := E_tongue (cellV ns 1)
  have tn : TngD (A.map D.str) (B.map D.str) := ⟨fun d hd => by
      obtain ⟨x, hx, rfl⟩ := List.mem_map.mp hd
      exact nam_of (tA.2.1 x hx), fun d hd => by
      obtain ⟨x, hx, rfl⟩ := List.mem_map.mp hd
      exact nam_of (tB.2.1 x hx), by rw [List.length_map]; exact tA.1, by rw [List.length_map]; exact tB.1⟩
  obtain ⟨ls, hls, l4, lL⟩ := E_letters (cellV ns 2 % 26)
  have HC := E_cell ns
  have HG := fun cs h7 => E_grown cs h7 (A.map .str) (B.map .str) ls tn l4 lL
  have HT := E_turned
  have HS := E_saying
  have HB := E_bad
  have HJ := E_judged 60
  unfold Flaw glaw
  generalize F_law_cell = Fc at HC ⊢
  generalize F_law_tongue = Fo at ht ⊢
  generalize F_law_letters = Fl at hls ⊢
  generalize F_law_grown = Fg at HG ⊢
  generalize F_law_turned = Ft at HT ⊢
  generalize Fis_saying = Fs at HS HB ⊢
  generalize F_law_judged 60 = Fj at HJ ⊢
  generalize D.tup [.tup (A.map .str), .tup (B.map .str)] = T at ht HG ⊢
  show fin (gSeq _ (gSeq _ (gSeq (gFor _ _ (gSeq _ (gSeq _ (gFor _ _ (gU Fc Ft Fs Fj))))) _)) [some (.bor (ns.map D.int)), none, none, none, none, none, none, none, none]) = _
  have e1 : Fc [.bor (ns.map D.int), .d (.int 1)] = .ok (.d (.int (cellV ns 1))) := HC 1
  have e2 : Fc [.bor (ns.map D.int), .d (.int 2)] = .ok (.d (.int (cellV ns 2))) := HC 2
  have e3 : Fc [.bor (ns.map D.int), .d (.int 3)] = .ok (.d (.int (cellV ns 3))) := HC 3
  rw [seq_nx (e := [some (.bor (ns.map D.int)), some (.d T), none, none, none, none, none, none, none]) (by simp [gSeq, gIfS, gOr, gAnd, gNot, gTr, gIs, gVar, startE, S.rd, R.dat, tyD, subT, g2, gN, gCons, gNil, gC, gNx, gRet, gAndV, gNotV, gCall, toA, frR, rF, fin, fI0, len_tup, eq_int, gDCons, gDNil, toD, toS, gSet, ix0, ix1, ix2, e1, ht])]
  rw [seq_nx (e := [some (.bor (ns.map D.int)), some (.d T), some (.own ls), none, none, none, none, none, none]) (by simp [gSeq, gIfS, gOr, gAnd, gNot, gTr, gIs, gVar, startE, S.rd, R.dat, tyD, subT, g2, gN, gCons, gNil, gC, gNx, gRet, gAndV, gNotV, gCall, toA, frR, rF, fin, fI0, len_tup, eq_int, gDCons, gDNil, toD, toS, gSet, ix0, ix1, ix2, e2, t_mod, hls])]
  have hr : ∃ w, gRng3 (gCons (gC (.int 6)) (gCons (gN fMax (gCons (gC (.int 7)) (gCons (gN fMin (gCons (gN fLen (gCons (gVar 0) gNil)) (gCons (gC (.int 62)) gNil))) gNil))) (gCons (gC (.int 7)) gNil))) [some (.bor (ns.map D.int)), some (.d T), some (.own ls), none, none, none, none, none, none] = .ok (rngS 6 7 w) := by
    have q : (gCons (gC (.int 6)) (gCons (gN fMax (gCons (gC (.int 7)) (gCons (gN fMin (gCons (gN fLen (gCons (gVar 0) gNil)) (gCons (gC (.int 62)) gNil))) gNil))) (gCons (gC (.int 7)) gNil))) [some (.bor (ns.map D.int)), some (.d T), some (.own ls), none, none, none, none, none, none] = .ok [.d (.int 6), .d (.int ((max 7 (min ns.length 62) : Nat) : Int)), .d (.int 7)] := by
      have q1 : (if (62 : Int) < (ns.length : Int) then 62 else (ns.length : Int)) = ((min ns.length 62 : Nat) : Int) := by split <;> omega
      have q2 : (if ((min ns.length 62 : Nat) : Int) > 7 then ((min ns.length 62 : Nat) : Int) else 7) = ((max 7 (min ns.length 62) : Nat) : Int) := by split <;> omega
      show (M.ok [R.d (.int 6), R.d (.int (if (if (62 : Int) < ((ns.map D.int).length : Int) then 62 else ((ns.map D.int).length : Int)) > 7 then (if (62 : Int) < ((ns.map D.int).length : Int) then 62 else ((ns.map D.int).length : Int)) else 7)), R.d (.int 7)]) = _
      rw [List.length_map, q1, q2]
    refine ⟨stepN 6 ((max 7 (min ns.length 62) : Nat) : Int) 7, ?_⟩
    unfold gRng3
    rw [q, bind_ok]
    simp only
    rw [if_pos (by simp only [Bool.and_eq_true]; exact ⟨below_iff.mpr ⟨by omega, by omega⟩, below_iff.mpr ⟨by omega, by omega⟩, below_iff.mpr ⟨by omega, by omega⟩, rfl⟩)]
  obtain ⟨w, hr⟩ := hr
  obtain ⟨e, h1, y3, y4, y5, y6, y7, y8, rfl⟩ := loop_list (t := tgName 3) (u := (gSeq (gSet 4 (gN (gCall 3 Fg) (gCons (gSl fSl2 (gVar 0) (gPt (gVar 3)) (gPt (g2 fPlus (gVar 3) (gC (.int 7))))) (gCons (gVar 1) (gCons (gVar 2) gNil)))))
 (gSeq (gIfS (gOr (gTr (g2 (fIs true) (gN (gCall 1 Fs) (gCons (gVar 4) gNil)) (gC (.bl true)))) (gNot (gTr (gN (gCall 1 Fj) (gCons (gVar 4) gNil))))) (gRet (gC (.bl false))) gNx)
 (gFor (gRng1 (gCons (gC (.int 7)) gNil)) (tgName 5) (gU Fc Ft Fs Fj))))) (fun env => ∃ y3 y4 y5 y6 y7 y8, env = [some (.bor (ns.map D.int)), some (.d T), some (.own ls), y3, y4, y5, y6, y7, y8]) (rngS 6 7 w) (fun d hd env ⟨y3, y4, y5, y6, y7, y8, he⟩ => by
    subst he
    unfold rngS at hd
    obtain ⟨k, hk, rfl⟩ := List.mem_map.mp hd
    have ek : (6 : Int) + (k : Int) * 7 = ((6 + k * 7 : Nat) : Int) := by omega
    rw [ek]
    generalize 6 + k * 7 = k
    obtain ⟨cs, ec, c7⟩ := cut_seven ns k
    obtain ⟨s, hs, s1, s2, s3⟩ := HG cs c7
    obtain ⟨xs, rfl⟩ := say_tup s1
    have n1 : nods xs + 1 ≤ 146 := s2
    have p1 : deps xs + 1 ≤ 17 := s3
    have st := HS (.tup xs) (by omega) (by omega)
    have jt := HJ (.tup xs) (by omega) (by omega) (by omega)
    rw [s1 60 (by omega)] at st jt
    obtain ⟨e, g1, z5, z6, z7, z8, rfl⟩ := loop_inv (t := tgName 5) (u := gU Fc Ft Fs Fj) (fun _ env => ∃ z5 z6 z7 z8, env = [some (.bor (ns.map D.int)), some (.d T), some (.own ls), some (.d (.int k)), some (.d (.tup xs)), z5, z6, z7, z8]) 7 (fun j hj env ⟨z5, z6, z7, z8, he⟩ => by
      subst he
      have hc := HC (k + j)
      rw [Int.natCast_add] at hc
      have n0 : 0 ≤ (cellV ns (k + j) + 97 * (j : Int)) * 64123 % 998244353 := Int.emod_nonneg _ (by decide)
      obtain ⟨t, tt, t1, t2⟩ := HT _ n0 xs 146 17 n1 p1 (by omega)
      have r1 := HS t (by omega) (by omega)
      have r2 := HJ t (by omega) (by omega) (by omega)
      exact ⟨_, _, rfl, say_turn Fc Ft Fs Fj (ns.map D.int) _ _ z6 z7 z8 (.tup xs) t k j _ _ _ hc rfl tt r1 r2, _, _, _, _, rfl⟩) [some (.bor (ns.map D.int)), some (.d T), some (.own ls), some (.d (.int k)), some (.d (.tup xs)), y5, y6, y7, y8] ⟨_, _, _, _, rfl⟩
    have sb : ∀ l u, fSl2 (.l .bor (ns.map D.int)) l u = .ok (.l .fresh (cutD (ns.map D.int) l u)) := fun _ _ => rfl
    refine ⟨[some (.bor (ns.map D.int)), some (.d T), some (.own ls), some (.d (.int k)), y4, y5, y6, y7, y8], [some (.bor (ns.map D.int)), some (.d T), some (.own ls), some (.d (.int k)), some (.d (.tup xs)), z5, z6, z7, z8], rfl, ?_, _, _, _, _, _, _, rfl⟩
    generalize ns.map D.int = CS at *
    rw [seq_nx (e := [some (.bor CS), some (.d T), some (.own ls), some (.d (.int k)), some (.d (.tup xs)), y5, y6, y7, y8]) (by simp [gSeq, gIfS, gOr, gAnd, gNot, gTr, gIs, gVar, startE, S.rd, R.dat, tyD, subT, g2, gN, gCons, gNil, gC, gNx, gRet, gAndV, gNotV, gCall, toA, frR, rF, fin, fI0, len_tup, eq_int, gDCons, gDNil, toD, toS, gSet, ix0, ix1, ix2, gSl, gPt, t_plus, sb, ec, hs])]
    rw [seq_nx (e := [some (.bor CS), some (.d T), some (.own ls), some (.d (.int k)), some (.d (.tup xs)), y5, y6, y7, y8]) ((ifs_no (by simp [gSeq, gIfS, gOr, gAnd, gNot, gTr, gIs, gVar, startE, S.rd, R.dat, tyD, subT, g2, gN, gCons, gNil, gC, gNx, gRet, gAndV, gNotV, gCall, toA, frR, rF, fin, fI0, len_tup, eq_int, gDCons, gDNil, toD, toS, gSet, ix0, ix1, ix2, st, jt, fIs, oneR])).trans rfl)]
    exact (for_eq (rngI (m := 7) (by omega) (by simp [gSeq, gIfS, gOr, gAnd, gNot, gTr, gIs, gVar, startE, S.rd, R.dat, tyD, subT, g2, gN, gCons, gNil, gC, gNx, gRet, gAndV, gNotV, gCall, toA, frR, rF, fin, fI0, len_tup, eq_int, gDCons, gDNil, toD, toS, gSet, ix0, ix1, ix2]))).trans g1) [some (.bor (ns.map D.int)), some (.d T), some (.own ls), none, none, none, none, none, none] ⟨_, _, _, _, _, _, rfl⟩
  rw [seq_nx ((for_eq hr).trans h1)]
  have lst : gLst (gDCons (gC .non) (gDCons (gC (.int 5)) (gDCons (gC (.str "true")) (gDCons (gC .emp) (gDCons (gLst gDNil) (gDCons (gTup (gDCons (gC (.str "and")) gDNil)) (gDCons (gTup (gDCons (gC (.str "true")) gDNil)) gDNil))))))) = fun _ => .ok (.l .fresh badL) := by funext env; rfl
  rw [lst]
  have c3 := cell_pos ns 3
  obtain ⟨v, hv, ev⟩ := ix_mem (m := .fresh) (xs := badL) (i := cellV ns 3 % 7) (by omega) (by show _ < (7 : Int); omega)
  obtain ⟨b1, b2⟩ := bad_ok v hv
  have sv := HB v b1 b2
  generalize badL = BL at ev ⊢
  simp [gSeq, gIfS, gOr, gAnd, gNot, gTr, gIs, gVar, startE, S.rd, R.dat, tyD, subT, g2, gN, gCons, gNil, gC, gNx, gRet, gAndV, gNotV, gCall, toA, frR, rF, fin, fI0, len_tup, eq_int, gDCons, gDNil, toD, toS, gSet, ix0, ix1, ix2, e3, t_mod, ev, sv, fIsB]
end K11
set_option Elab.async false
set_option linter.all false
set_option maxRecDepth 100000
set_option maxHeartbeats 4000000
namespace K11
open PySem PySem.Spec PyProof.Rows L2 DL
def top (i : Nat) : Stmt := PySem.Challenge.pw_pickalike_k11_what_is_a_saying.main.body.getD i (.Pass ⟨0, 0, 0, 0⟩)
structure Blt (w : World) (K : PySem.W.Frag) (mg : Str → Option Value) : Prop where
  all : mg "all" = none
  bool : mg "bool" = none
  int : mg "int" = none
  isinstance : mg "isinstance" = none
  len : mg "len" = none
  list : mg "list" = none
  max : mg "max" = none
  min : mg "min" = none
  range : mg "range" = none
  sorted : mg "sorted" = none
  str : mg "str" = none
  tuple : mg "tuple" = none
  INNER_PLACES : CDict K w mg "INNER_PLACES" [("not", (.int 1)), ("some", (.int 2)), ("every", (.int 2)), ("least", (.int 3))]
  LENGTHS : CDict K w mg "LENGTHS" [("mark", (.int 3)), ("arrow", (.int 4)), ("same", (.int 3)), ("not", (.int 2)), ("and", (.int 2)), ("or", (.int 2)), ("some", (.int 3)), ("every", (.int 3)), ("least", (.int 4))]
  LETTERS : GlobD K mg "LETTERS" (.str "abcdefghijklmnopqrstuvwxyz")
  LETTER_PLACES : CDict K w mg "LETTER_PLACES" [("mark", (.tup [(.int 2)])), ("arrow", (.tup [(.int 2), (.int 3)])), ("same", (.tup [(.int 1), (.int 2)])), ("not", (.tup [])), ("and", (.tup [])), ("or", (.tup [])), ("some", (.tup [(.int 1)])), ("every", (.tup [(.int 1)])), ("least", (.tup [(.int 2)]))]
  MOST_LEAST : GlobD K mg "MOST_LEAST" (.int 9)
  WORDS : GlobD K mg "WORDS" (.tup [(.str "and"), (.str "or"), (.str "not"), (.str "some"), (.str "every"), (.str "least"), (.str "true"), (.str "false")])
end K11
set_option Elab.async false
set_option linter.all false
set_option maxRecDepth 100000
set_option maxHeartbeats 4000000
namespace K11
open PySem PySem.Spec PyProof.Rows L2 DL
section
variable {P : Program} {w : World} {K : PySem.W.Frag} {mg : Str → Option Value} {base : Heap} {f : Addr} {fd : FuncData}
abbrev sis_whole : Stmt := top 3
theorem scis_whole : FnScope ["thing"] ["thing"] (defScope sis_whole) := ⟨rfl, rfl, rfl, by decide +kernel, rfl, by decide +kernel, by decide +kernel⟩
theorem calis_whole (m : Blt w K mg)  (F : Fun K "is_whole" "is_whole" sis_whole f fd) (hm : mg "is_whole" = some (.ref f)) : Cal P w K mg base 1 1 "is_whole" K01.Fis_whole :=
  have sc := scis_whole
  qcal_of (k := 0) (gB := K01.gis_whole) F hm sc (fun _ _ _ _ _ _ us hl => match us, hl with | [_], _ => rfl) (fun cdv A outer s H E J T hr =>
 (qpds_one (qpd1_ret (qpd_and (qpd_isinst kit_int boot_int_ m.int (qpd_var 0) m.isinstance) (qpd_and1 (qpd_not (qpd_isinst kit_bool boot_bool_ m.bool (qpd_var 0) m.isinstance))))))) (fun as r _ h => h)
end
end K11
set_option Elab.async false
set_option linter.all false
set_option maxRecDepth 100000
set_option maxHeartbeats 4000000
namespace K11
open PySem PySem.Spec PyProof.Rows L2 DL
section
variable {P : Program} {w : World} {K : PySem.W.Frag} {mg : Str → Option Value} {base : Heap} {f : Addr} {fd : FuncData}
abbrev sis_name : Stmt := top 4
theorem scis_name : FnScope ["thing"] ["thing"] (defScope sis_name) := ⟨rfl, rfl, rfl, by decide +kernel, rfl, by decide +kernel, by decide +kernel⟩
theorem calis_name (m : Blt w K mg)  (F : Fun K "is_name" "is_name" sis_name f fd) (hm : mg "is_name" = some (.ref f)) : Cal P w K mg base 1 1 "is_name" K01.Fis_name :=
  have sc := scis_name
  qcal_of (k := 0) (gB := K01.gis_name) F hm sc (fun _ _ _ _ _ _ us hl => match us, hl with | [_], _ => rfl) (fun cdv A outer s H E J T hr =>
 (qpds_cons (qpd1_if (qPBw_pb (qpb_or (qpb_not (qpb_val (qpd_isinst kit_str boot_str_ m.str (qpd_var 0) m.isinstance))) (qpb_or (qpb_cmp op_lt (bd_I0 fun _ _ _ => .bl _) (qpd_len (qpa_cons' (qpd_var 0) qpa_nil') m.len) qpd_int) (qpb_or1 (qpb_cmp op_gt (bd_I0 fun _ _ _ => .bl _) (qpd_len (qpa_cons' (qpd_var 0) qpa_nil') m.len) qpd_int))))) (qpds_one (qpd1_ret qpd_bl)) qpds_nil)
 (qpds_one (qpd1_ret (qpd_and (qpd_notin hr.units (qpd_var 0) (qpd_globD m.WORDS)) (qpd_and1 (qpd_all (qpa_cons' (qpd_comp ["sign"] [] (qPIt_pic (qpit_str (qpd_var 0))) (fun _ _ _ _ _ => ⟨(qptg_name 0 (nodS rfl)), qpifs_nil, (qpd_inS (qpd_var 0) (qpd_globD m.LETTERS))⟩)) qpa_nil') m.all))))))) (fun as r _ h => h)
end
end K11
set_option Elab.async false
set_option linter.all false
set_option maxRecDepth 100000
set_option maxHeartbeats 4000000
namespace K11
open PySem PySem.Spec PyProof.Rows L2 DL
section
variable {P : Program} {w : World} {K : PySem.W.Frag} {mg : Str → Option Value} {base : Heap} {f : Addr} {fd : FuncData}
abbrev sis_letter : Stmt := top 10
theorem scis_letter : FnScope ["thing"] ["thing"] (defScope sis_letter) := ⟨rfl, rfl, rfl, by decide +kernel, rfl, by decide +kernel, by decide +kernel⟩
theorem calis_letter (m : Blt w K mg)  (F : Fun K "is_letter" "is_letter" sis_letter f fd) (hm : mg "is_letter" = some (.ref f)) : Cal P w K mg base 1 1 "is_letter" K11.Fis_letter :=
  have sc := scis_letter
  qcal_of (k := 0) (gB := K11.gis_letter) F hm sc (fun _ _ _ _ _ _ us hl => match us, hl with | [_], _ => rfl) (fun cdv A outer s H E J T hr =>
 (qpds_one (qpd1_ret (qpd_and (qpd_isinst kit_str boot_str_ m.str (qpd_var 0) m.isinstance) (qpd_and (qpd_eq hr.units (qpd_len (qpa_cons' (qpd_var 0) qpa_nil') m.len) qpd_int) (qpd_and1 (qpd_inS (qpd_var 0) (qpd_globD m.LETTERS)))))))) (fun as r _ h => h)
end
end K11
set_option Elab.async false
set_option linter.all false
set_option maxRecDepth 100000
set_option maxHeartbeats 4000000
namespace K11
open PySem PySem.Spec PyProof.Rows L2 DL
section
variable {P : Program} {w : World} {K : PySem.W.Frag} {mg : Str → Option Value} {base : Heap} {f : Addr} {fd : FuncData}
abbrev sletters_at : Stmt := top 11
theorem scletters_at : FnScope ["saying"] ["saying"] (defScope sletters_at) := ⟨rfl, rfl, rfl, by decide +kernel, rfl, by decide +kernel, by decide +kernel⟩
theorem calletters_at (m : Blt w K mg)  (F : Fun K "letters_at" "letters_at" sletters_at f fd) (hm : mg "letters_at" = some (.ref f)) : Cal P w K mg base 1 1 "letters_at" K11.Fletters_at :=
  have sc := scletters_at
  qcal_of (k := 0) (gB := K11.gletters_at) F hm sc (fun _ _ _ _ _ _ us hl => match us, hl with | [_], _ => rfl) (fun cdv A outer s H E J T hr =>
 (qpds_cons (qpd1_if (qpb_eq hr.units (qpd_index (qpd_var 0) qpd_int) qpd_str) (qpds_one (qpd1_ret (qpd_list (qpa_cons' (qpd_index (qpd_var 0) qpd_int) qpa_nil') m.list))) qpds_nil)
 (qpds_one (qpd1_ret (qpd_comp ["place"] [0] (qpic_any (qpd_cget m.LETTER_PLACES (qpd_index (qpd_var 0) qpd_int))) (fun _ _ _ _ _ => ⟨(qptg_name 0 (nodS rfl)), qpifs_nil, (qpd_index (qpd_var 1) (qpd_var 0))⟩)))))) (fun as r _ h => h)
end
end K11
set_option Elab.async false
set_option linter.all false
set_option maxRecDepth 100000
set_option maxHeartbeats 4000000
namespace K11
open PySem PySem.Spec PyProof.Rows L2 DL
section
variable {P : Program} {w : World} {K : PySem.W.Frag} {mg : Str → Option Value} {base : Heap} {f : Addr} {fd : FuncData}
abbrev swithin : Stmt := top 12
theorem scwithin : FnScope ["saying", "word"] ["saying"] (defScope swithin) := ⟨rfl, rfl, rfl, by decide +kernel, rfl, by decide +kernel, by decide +kernel⟩
theorem calwithin (m : Blt w K mg)  (F : Fun K "within" "within" swithin f fd) (hm : mg "within" = some (.ref f)) : Cal P w K mg base 1 1 "within" K11.Fwithin :=
  have sc := scwithin
  qcal_of (k := 0) (gB := K11.gwithin) F hm sc (fun _ _ _ _ _ _ us hl => match us, hl with | [_], _ => rfl) (fun cdv A outer s H E J T hr =>
 (qpds_cons (qpd1_set 1 sc.nd (qpd_index (qpd_var 0) qpd_int))
 (qpds_cons (qpd1_if (qpb_in hr.units (qpd_var 1) (qpd_tup (qpad_cons qpd_str (qpad_cons qpd_str qpad_nil)))) (qpds_one (qpd1_ret (qpd_index (qpd_var 0) qpd_int))) qpds_nil)
 (qpds_cons (qpd1_if (qpb_cin m.INNER_PLACES (qpd_var 1)) (qpds_one (qpd1_ret (qpd_tup (qpad_cons (qpd_index (qpd_var 0) (qpd_cget m.INNER_PLACES (qpd_var 1))) qpad_nil)))) qpds_nil)
 (qpds_one (qpd1_ret (qpd_tup qpad_nil))))))) (fun as r _ h => h)
end
end K11
set_option Elab.async false
set_option linter.all false
set_option maxRecDepth 100000
set_option maxHeartbeats 4000000
namespace K11
open PySem PySem.Spec PyProof.Rows L2 DL
section
variable {P : Program} {w : World} {K : PySem.W.Frag} {mg : Str → Option Value} {base : Heap} {f : Addr} {fd : FuncData}
abbrev sis_well_made : Stmt := top 13
theorem scis_well_made : FnScope ["thing", "word"] ["thing"] (defScope sis_well_made) := ⟨rfl, rfl, rfl, by decide +kernel, rfl, by decide +kernel, by decide +kernel⟩
theorem calis_well_made (m : Blt w K mg) (hletters_at : Cal P w K mg base 1 1 "letters_at" K11.Fletters_at) (his_letter : Cal P w K mg base 1 1 "is_letter" K11.Fis_letter) (his_name : Cal P w K mg base 1 1 "is_name" K01.Fis_name) (his_whole : Cal P w K mg base 1 1 "is_whole" K01.Fis_whole) (F : Fun K "is_well_made" "is_well_made" sis_well_made f fd) (hm : mg "is_well_made" = some (.ref f)) : Cal P w K mg base 2 1 "is_well_made" K11.Fis_well_made :=
  have sc := scis_well_made
  qcal_of (k := 1) (gB := K11.gis_well_made) F hm sc (fun _ _ _ _ _ _ us hl => match us, hl with | [_], _ => rfl) (fun cdv A outer s H E J T hr =>
 (qpds_cons (qpd1_if (qPBw_pb (qpb_or (qpb_not (qpb_val (qpd_isinst kit_tuple boot_tuple_ m.tuple (qpd_var 0) m.isinstance))) (qpb_or (qpb_eq hr.units (qpd_len (qpa_cons' (qpd_var 0) qpa_nil') m.len) qpd_int) (qpb_or1 (qpb_not (qpb_val (qpd_isinst kit_str boot_str_ m.str (qpd_index (qpd_var 0) qpd_int) m.isinstance))))))) (qpds_one (qpd1_ret qpd_bl)) qpds_nil)
 (qpds_cons (qpd1_set 1 sc.nd (qpd_index (qpd_var 0) qpd_int))
 (qpds_cons (qpd1_if (qPBw_pb (qpb_or (qpb_cnotin m.LENGTHS (qpd_var 1)) (qpb_or1 (qpb_ne hr.units (qpd_len (qpa_cons' (qpd_var 0) qpa_nil') m.len) (qpd_cget m.LENGTHS (qpd_var 1)))))) (qpds_one (qpd1_ret qpd_bl)) qpds_nil)
 (qpds_cons (qpd1_if (qpb_not (qpb_val (qpd_all (qpa_cons' (qpd_comp ["letter"] [] (qpic_any (qpd_cal hletters_at hr (qpa_cons' (qpd_var 0) qpa_nil'))) (fun _ _ _ _ _ => ⟨(qptg_name 0 (nodS rfl)), qpifs_nil, (qpd_cal his_letter hr (qpa_cons' (qpd_var 0) qpa_nil'))⟩)) qpa_nil') m.all))) (qpds_one (qpd1_ret qpd_bl)) qpds_nil)
 (qpds_cons (qpd1_if (qpb_in hr.units (qpd_var 1) (qpd_tup (qpad_cons qpd_str (qpad_cons qpd_str qpad_nil)))) (qpds_one (qpd1_ret (qpd_cal his_name hr (qpa_cons' (qpd_index (qpd_var 0) qpd_int) qpa_nil')))) qpds_nil)
 (qpds_cons (qpd1_if (qpb_in hr.units (qpd_var 1) (qpd_tup (qpad_cons qpd_str (qpad_cons qpd_str qpad_nil)))) (qpds_one (qpd1_ret (qpd_and (qpd_isinst kit_tuple boot_tuple_ m.tuple (qpd_index (qpd_var 0) qpd_int) m.isinstance) (qpd_and1 (qpd_ne hr.units (qpd_len (qpa_cons' (qpd_index (qpd_var 0) qpd_int) qpa_nil') m.len) qpd_int))))) qpds_nil)
 (qpds_cons (qpd1_if (qpb_eq hr.units (qpd_var 1) qpd_str) (qpds_one (qpd1_ret (qpd_and (qpd_cal his_whole hr (qpa_cons' (qpd_index (qpd_var 0) qpd_int) qpa_nil')) (qpd_and1 (qpd_ch op_le op_le qpd_int (qpd_index (qpd_var 0) qpd_int) (qpd_globD m.MOST_LEAST)))))) qpds_nil)
 (qpds_one (qpd1_ret qpd_bl)))))))))) (fun as r _ h => h)
end
end K11
set_option Elab.async false
set_option linter.all false
set_option maxRecDepth 100000
set_option maxHeartbeats 4000000
namespace K11
open PySem PySem.Spec PyProof.Rows L2 DL
section
variable {P : Program} {w : World} {K : PySem.W.Frag} {mg : Str → Option Value} {base : Heap} {f : Addr} {fd : FuncData}
abbrev sis_saying : Stmt := top 14
theorem scis_saying : FnScope ["thing", "left", "one"] ["thing"] (defScope sis_saying) := ⟨rfl, rfl, rfl, by decide +kernel, rfl, by decide +kernel, by decide +kernel⟩
theorem calis_saying (m : Blt w K mg) (his_well_made : Cal P w K mg base 2 1 "is_well_made" K11.Fis_well_made) (hwithin : Cal P w K mg base 1 1 "within" K11.Fwithin) (F : Fun K "is_saying" "is_saying" sis_saying f fd) (hm : mg "is_saying" = some (.ref f)) : Cal P w K mg base 3 1 "is_saying" K11.Fis_saying :=
  have sc := scis_saying
  qcal_of (k := 2) (gB := K11.gis_saying) F hm sc (fun _ _ _ _ _ _ us hl => match us, hl with | [_], _ => rfl) (fun cdv A outer s H E J T hr =>
 (qpds_cons (qpd1_set 1 sc.nd (qpd_lst (qpad_cons (qpd_var 0) qpad_nil)))
 (qpds_cons (qpd1_while 900 (qpb_tru (qpd_var 1)) (qpds_cons (qpd1_pop 2 1 sc.nd)
 (qpds_cons (qpd1_if (qpb_not (qpb_val (qpd_cal his_well_made hr (qpa_cons' (qpd_var 2) qpa_nil')))) (qpds_one (qpd1_ret qpd_bl)) qpds_nil)
 (qpds_one (qpd1_extend 1 (qpd_cal hwithin hr (qpa_cons' (qpd_var 2) qpa_nil')))))))
 (qpds_one (qpd1_ret qpd_bl))))) (fun as r _ h => h)
end
end K11
set_option Elab.async false
set_option linter.all false
set_option maxRecDepth 100000
set_option maxHeartbeats 4000000
namespace K11
open PySem PySem.Spec PyProof.Rows L2 DL
section
variable {P : Program} {w : World} {K : PySem.W.Frag} {mg : Str → Option Value} {base : Heap} {f : Addr} {fd : FuncData}
abbrev s_law_cell : Stmt := top 16
theorem sc_law_cell : FnScope ["_law_script", "_law_k"] ["_law_script", "_law_k"] (defScope s_law_cell) := ⟨rfl, rfl, rfl, by decide +kernel, rfl, by decide +kernel, by decide +kernel⟩
theorem cal_law_cell (m : Blt w K mg)  (F : Fun K "_law_cell" "_law_cell" s_law_cell f fd) (hm : mg "_law_cell" = some (.ref f)) : Cal P w K mg base 1 2 "_law_cell" K01.F_law_cell :=
  have sc := sc_law_cell
  qcal_of (k := 0) (gB := K01.g_law_cell) F hm sc (fun _ _ _ _ _ _ us hl => match us, hl with | [_, _], _ => rfl) (fun cdv A outer s H E J T hr =>
 (qpds_cons (qpd1_if (qpb_cmp op_lt (bd_I0 fun _ _ _ => .bl _) (qpd_var 1) (qpd_len (qpa_cons' (qpd_var 0) qpa_nil') m.len)) (qpds_one (qpd1_ret (qpd_mod (qpd_index (qpd_var 0) (qpd_var 1)) (qpd_pow qpd_int qpd_int)))) qpds_nil)
 (qpds_one (qpd1_ret qpd_int)))) (fun as r _ h => h)
end
end K11
set_option Elab.async false
set_option linter.all false
set_option maxRecDepth 100000
set_option maxHeartbeats 4000000
namespace K11
open PySem PySem.Spec PyProof.Rows L2 DL
section
variable {P : Program} {w : World} {K : PySem.W.Frag} {mg : Str → Option Value} {base : Heap} {f : Addr} {fd : FuncData}
abbrev s_law_names : Stmt := top 17
theorem sc_law_names : FnScope ["_law_cell_here", "_law_many", "_law_number", "_law_base", "_law_size", "_law_words", "_law_first", "_law_signs", "_law_at", "_law_found", "_law_k", "_law_sign"] ["_law_cell_here", "_law_many"] (defScope s_law_names) := ⟨rfl, rfl, rfl, by decide +kernel, rfl, by decide +kernel, by decide +kernel⟩
theorem cal_law_names (m : Blt w K mg)  (F : Fun K "_law_names" "_law_names" s_law_names f fd) (hm : mg "_law_names" = some (.ref f)) : Cal P w K mg base 1 2 "_law_names" K01.F_law_names :=
  have sc := sc_law_names
  qcal_of (k := 0) (gB := K01.g_law_names) F hm sc (fun _ _ _ _ _ _ us hl => match us, hl with | [_, _], _ => rfl) (fun cdv A outer s H E J T hr =>
 (qpds_cons (qpd1_set 2 sc.nd (qpd_mod (qpd_times (qpd_var 0) qpd_int) qpd_int))
 (qpds_cons (qpd1_set 3 sc.nd (qpd_index qpd_str (qpd_mod (qpd_var 2) qpd_int)))
 (qpds_cons (qpd1_set 4 sc.nd (qpd_plus qpd_int (qpd_mod (qpd_div (qpd_var 2) qpd_int) qpd_int)))
 (qpds_cons (qpd1_if (qpb_eq hr.units (qpd_mod (qpd_div (qpd_var 2) qpd_int) qpd_int) qpd_int) (qpds_one (qpd1_ret (qpd_comp ["_law_k"] [3] (qPIt_pic (qpit_range1 (qpa_cons' (qpd_var 1) qpa_nil') m.range)) (fun _ _ _ _ _ => ⟨(qptg_name 0 (nodS rfl)), qpifs_nil, (qpd_times (qpd_var 1) (qpd_plus qpd_int (qpd_var 0)))⟩)))) qpds_nil)
 (qpds_cons (qpd1_if (qpb_eq hr.units (qpd_mod (qpd_div (qpd_var 2) qpd_int) qpd_int) qpd_int) (qpds_cons (qpd1_set 5 sc.nd (qpd_lst (qpad_cons qpd_str (qpad_cons qpd_str (qpad_cons qpd_str (qpad_cons qpd_str (qpad_cons qpd_str (qpad_cons qpd_str (qpad_cons qpd_str (qpad_cons qpd_str qpad_nil))))))))))
 (qpds_cons (qpd1_set 6 sc.nd (qpd_mod (qpd_div (qpd_var 2) qpd_int) qpd_int))
 (qpds_cons (qpd1_set 7 sc.nd qpd_str)
 (qpds_one (qpd1_ret (qpd_sorted (qpa_cons' (qpd_comp ["_law_k"] [5, 6, 7, 2] (qPIt_pic (qpit_range1 (qpa_cons' (qpd_var 1) qpa_nil') m.range)) (fun _ _ _ _ _ => ⟨(qptg_name 0 (nodS rfl)), qpifs_nil, (qpd_plus (qpd_index (qpd_plus (qpd_var 1) (qpd_var 1)) (qpd_plus (qpd_var 2) (qpd_var 0))) (qpd_index (qpd_var 3) (qpd_mod (qpd_div (qpd_var 4) qpd_int) qpd_int)))⟩)) qpa_nil') m.sorted)))))) qpds_nil)
 (qpds_cons (qpd1_set 8 sc.nd (qpd_mod (qpd_div (qpd_var 2) qpd_int) (qpd_var 4)))
 (qpds_cons (qpd1_set 9 sc.nd (qpd_lst qpad_nil))
 (qpds_cons (qpd1_for (qpit_range1 (qpa_cons' (qpd_var 1) qpa_nil') m.range) (qptg_name 10 sc.nd) (qpds_cons (qpd1_set 11 sc.nd (qpd_index qpd_str (qpd_mod (qpd_plus (qpd_div (qpd_var 2) qpd_int) (qpd_times qpd_int (qpd_var 10))) qpd_int)))
 (qpds_one (qpd1_append 9 (qpd_plus (qpd_plus (qpd_times (qpd_var 3) (qpd_var 8)) (qpd_var 11)) (qpd_times (qpd_var 3) (qpd_sub (qpd_sub (qpd_var 4) qpd_int) (qpd_var 8))))))))
 (qpds_one (qpd1_ret (qpd_sorted (qpa_cons' (qpd_var 9) qpa_nil') m.sorted)))))))))))) (fun as r _ h => h)
end
end K11
set_option Elab.async false
set_option linter.all false
set_option maxRecDepth 100000
set_option maxHeartbeats 4000000
namespace K11
open PySem PySem.Spec PyProof.Rows L2 DL
section
variable {P : Program} {w : World} {K : PySem.W.Frag} {mg : Str → Option Value} {base : Heap} {f : Addr} {fd : FuncData}
abbrev s_law_tongue : Stmt := top 18
theorem sc_law_tongue : FnScope ["_law_cell_here", "_law_names_here", "_law_number", "_law_first"] ["_law_cell_here"] (defScope s_law_tongue) := ⟨rfl, rfl, rfl, by decide +kernel, rfl, by decide +kernel, by decide +kernel⟩
theorem cal_law_tongue (m : Blt w K mg) (h_law_names : Cal P w K mg base 1 2 "_law_names" K01.F_law_names) (F : Fun K "_law_tongue" "_law_tongue" s_law_tongue f fd) (hm : mg "_law_tongue" = some (.ref f)) : Cal P w K mg base 2 1 "_law_tongue" K01.F_law_tongue :=
  have sc := sc_law_tongue
  qcal_of (k := 1) (gB := K01.g_law_tongue) F hm sc (fun _ _ _ _ _ _ us hl => match us, hl with | [_], _ => rfl) (fun cdv A outer s H E J T hr =>
 (qpds_cons (qpd1_set 1 sc.nd (qpd_cal h_law_names hr (qpa_cons' (qpd_var 0) (qpa_cons' qpd_int qpa_nil'))))
 (qpds_cons (qpd1_set 2 sc.nd (qpd_mod (qpd_times (qpd_var 0) qpd_int) qpd_int))
 (qpds_cons (qpd1_set 3 sc.nd (qpd_mod (qpd_div (qpd_var 2) qpd_int) qpd_int))
 (qpds_one (qpd1_ret (qpd_tup (qpad_cons (qpd_tuple (qpa_cons' (qpd_sl2 (qpd_var 1) qpod_none (qpod_some (qpd_mod (qpd_var 2) qpd_int))) qpa_nil') m.tuple) (qpad_cons (qpd_tuple (qpa_cons' (qpd_sl2 (qpd_var 1) (qpod_some (qpd_var 3)) (qpod_some (qpd_plus (qpd_var 3) (qpd_mod (qpd_div (qpd_var 2) qpd_int) qpd_int)))) qpa_nil') m.tuple) qpad_nil))))))))) (fun as r _ h => h)
end
end K11
set_option Elab.async false
set_option linter.all false
set_option maxRecDepth 100000
set_option maxHeartbeats 4000000
namespace K11
open PySem PySem.Spec PyProof.Rows L2 DL
section
variable {P : Program} {w : World} {K : PySem.W.Frag} {mg : Str → Option Value} {base : Heap} {f : Addr} {fd : FuncData}
abbrev s_law_letters : Stmt := top 19
theorem sc_law_letters : FnScope ["_law_cell_here"] ["_law_cell_here"] (defScope s_law_letters) := ⟨rfl, rfl, rfl, by decide +kernel, rfl, by decide +kernel, by decide +kernel⟩
theorem cal_law_letters (m : Blt w K mg)  (F : Fun K "_law_letters" "_law_letters" s_law_letters f fd) (hm : mg "_law_letters" = some (.ref f)) : Cal P w K mg base 1 1 "_law_letters" K11.F_law_letters :=
  have sc := sc_law_letters
  qcal_of (k := 0) (gB := K11.g_law_letters) F hm sc (fun _ _ _ _ _ _ us hl => match us, hl with | [_], _ => rfl) (fun cdv A outer s H E J T hr =>
 (qpds_one (qpd1_ret (qpd_comp ["_law_k"] [0] (qPIt_pic (qpit_range1 (qpa_cons' qpd_int qpa_nil') m.range)) (fun _ _ _ _ _ => ⟨(qptg_name 0 (nodS rfl)), qpifs_nil, (qpd_index qpd_str (qpd_mod (qpd_plus (qpd_var 1) (qpd_times qpd_int (qpd_var 0))) qpd_int))⟩))))) (fun as r _ h => h)
end
end K11
set_option Elab.async false
set_option linter.all false
set_option maxRecDepth 100000
set_option maxHeartbeats 4000000
namespace K11
open PySem PySem.Spec PyProof.Rows L2 DL
section
variable {P : Program} {w : World} {K : PySem.W.Frag} {mg : Str → Option Value} {base : Heap} {f : Addr} {fd : FuncData}
abbrev s_law_leaf : Stmt := top 20
theorem sc_law_leaf : FnScope ["_law_number", "_law_tongue_here", "_law_letters_here", "_law_one", "_law_other"] ["_law_number", "_law_tongue_here", "_law_letters_here"] (defScope s_law_leaf) := ⟨rfl, rfl, rfl, by decide +kernel, rfl, by decide +kernel, by decide +kernel⟩
theorem cal_law_leaf (m : Blt w K mg)  (F : Fun K "_law_leaf" "_law_leaf" s_law_leaf f fd) (hm : mg "_law_leaf" = some (.ref f)) : Cal P w K mg base 1 3 "_law_leaf" K11.F_law_leaf :=
  have sc := sc_law_leaf
  qcal_of (k := 0) (gB := K11.g_law_leaf) F hm sc (fun _ _ _ _ _ _ us hl => match us, hl with | [_, _, _], _ => rfl) (fun cdv A outer s H E J T hr =>
 (qpds_cons (qpd1_set 3 sc.nd (qpd_index (qpd_var 2) (qpd_mod (qpd_div (qpd_var 0) qpd_int) qpd_int)))
 (qpds_cons (qpd1_set 4 sc.nd (qpd_index (qpd_var 2) (qpd_mod (qpd_div (qpd_var 0) qpd_int) qpd_int)))
 (qpds_cons (qpd1_if (qPBw_pb (qpb_and (qpb_eq hr.units (qpd_mod (qpd_var 0) qpd_int) qpd_int) (qpb_and1 (qpb_ne hr.units (qpd_index (qpd_var 1) qpd_int) (qpd_tup qpad_nil))))) (qpds_one (qpd1_ret (qpd_tup (qpad_cons qpd_str (qpad_cons (qpd_index (qpd_index (qpd_var 1) qpd_int) (qpd_mod (qpd_div (qpd_var 0) qpd_int) (qpd_len (qpa_cons' (qpd_index (qpd_var 1) qpd_int) qpa_nil') m.len))) (qpad_cons (qpd_var 3) qpad_nil)))))) qpds_nil)
 (qpds_cons (qpd1_if (qPBw_pb (qpb_and (qpb_eq hr.units (qpd_mod (qpd_var 0) qpd_int) qpd_int) (qpb_and1 (qpb_ne hr.units (qpd_index (qpd_var 1) qpd_int) (qpd_tup qpad_nil))))) (qpds_one (qpd1_ret (qpd_tup (qpad_cons qpd_str (qpad_cons (qpd_index (qpd_index (qpd_var 1) qpd_int) (qpd_mod (qpd_div (qpd_var 0) qpd_int) (qpd_len (qpa_cons' (qpd_index (qpd_var 1) qpd_int) qpa_nil') m.len))) (qpad_cons (qpd_var 3) (qpad_cons (qpd_var 4) qpad_nil))))))) qpds_nil)
 (qpds_one (qpd1_ret (qpd_tup (qpad_cons qpd_str (qpad_cons (qpd_var 3) (qpad_cons (qpd_var 4) qpad_nil))))))))))) (fun as r _ h => h)
end
end K11
set_option Elab.async false
set_option linter.all false
set_option maxRecDepth 100000
set_option maxHeartbeats 4000000
namespace K11
open PySem PySem.Spec PyProof.Rows L2 DL
section
variable {P : Program} {w : World} {K : PySem.W.Frag} {mg : Str → Option Value} {base : Heap} {f : Addr} {fd : FuncData}
abbrev s_law_wrapped : Stmt := top 21
theorem sc_law_wrapped : FnScope ["_law_number", "_law_letters_here", "_law_top", "_law_saying", "_law_deep", "_law_high", "_law_letter_here"] ["_law_number", "_law_letters_here", "_law_top"] (defScope s_law_wrapped) := ⟨rfl, rfl, rfl, by decide +kernel, rfl, by decide +kernel, by decide +kernel⟩
theorem cal_law_wrapped (m : Blt w K mg)  (F : Fun K "_law_wrapped" "_law_wrapped" s_law_wrapped f fd) (hm : mg "_law_wrapped" = some (.ref f)) : Cal P w K mg base 1 3 "_law_wrapped" K11.F_law_wrapped :=
  have sc := sc_law_wrapped
  qcal_of (k := 0) (gB := K11.g_law_wrapped) F hm sc (fun _ _ _ _ _ _ us hl => match us, hl with | [_, _, _], _ => rfl) (fun cdv A outer s H E J T hr =>
 (qpds_cons (qpd1_tup (qpd_var 2) (qptg_tup (qptgs_cons (qptg_name 3 sc.nd) (qptgs_cons (qptg_name 4 sc.nd) (qptgs_cons (qptg_name 5 sc.nd) qptgs_nil)))))
 (qpds_cons (qpd1_set 6 sc.nd (qpd_index (qpd_var 1) (qpd_mod (qpd_div (qpd_var 0) qpd_int) qpd_int)))
 (qpds_cons (qpd1_if (qPBw_pb (qpb_or (qpb_eq hr.units (qpd_mod (qpd_var 0) qpd_int) qpd_int) (qpb_or1 (qpb_cmp op_gt (bd_I0 fun _ _ _ => .bl _) (qpd_var 4) qpd_int)))) (qpds_one (qpd1_ret (qpd_tup (qpad_cons (qpd_tup (qpad_cons qpd_str (qpad_cons (qpd_var 3) qpad_nil))) (qpad_cons (qpd_var 4) (qpad_cons (qpd_plus (qpd_var 5) qpd_int) qpad_nil)))))) qpds_nil)
 (qpds_cons (qpd1_if (qpb_eq hr.units (qpd_mod (qpd_var 0) qpd_int) qpd_int) (qpds_one (qpd1_ret (qpd_tup (qpad_cons (qpd_tup (qpad_cons qpd_str (qpad_cons (qpd_plus qpd_int (qpd_mod (qpd_div (qpd_var 0) qpd_int) (qpd_index (qpd_lst (qpad_cons qpd_int (qpad_cons qpd_int qpad_nil))) (qpd_mod (qpd_div (qpd_var 0) qpd_int) qpd_int)))) (qpad_cons (qpd_var 6) (qpad_cons (qpd_var 3) qpad_nil))))) (qpad_cons (qpd_plus (qpd_var 4) qpd_int) (qpad_cons (qpd_plus (qpd_var 5) qpd_int) qpad_nil)))))) qpds_nil)
 (qpds_one (qpd1_ret (qpd_tup (qpad_cons (qpd_tup (qpad_cons (qpd_index (qpd_lst (qpad_cons qpd_str (qpad_cons qpd_str qpad_nil))) (qpd_mod (qpd_var 0) qpd_int)) (qpad_cons (qpd_var 6) (qpad_cons (qpd_var 3) qpad_nil)))) (qpad_cons (qpd_plus (qpd_var 4) qpd_int) (qpad_cons (qpd_plus (qpd_var 5) qpd_int) qpad_nil))))))))))) (fun as r _ h => h)
end
end K11
set_option Elab.async false
set_option linter.all false
set_option maxRecDepth 100000
set_option maxHeartbeats 4000000
namespace K11
open PySem PySem.Spec PyProof.Rows L2 DL
section
variable {P : Program} {w : World} {K : PySem.W.Frag} {mg : Str → Option Value} {base : Heap} {f : Addr} {fd : FuncData}
abbrev s_law_joined : Stmt := top 22
theorem sc_law_joined : FnScope ["_law_number", "_law_some", "_law_parts", "_law_deep", "_law_high"] ["_law_number", "_law_some"] (defScope s_law_joined) := ⟨rfl, rfl, rfl, by decide +kernel, rfl, by decide +kernel, by decide +kernel⟩
theorem cal_law_joined (m : Blt w K mg)  (F : Fun K "_law_joined" "_law_joined" s_law_joined f fd) (hm : mg "_law_joined" = some (.ref f)) : Cal P w K mg base 1 2 "_law_joined" K11.F_law_joined :=
  have sc := sc_law_joined
  qcal_of (k := 0) (gB := K11.g_law_joined) F hm sc (fun _ _ _ _ _ _ us hl => match us, hl with | [_, _], _ => rfl) (fun cdv A outer s H E J T hr =>
 (qpds_cons (qpd1_set 2 sc.nd (qpd_tuple (qpa_cons' (qpd_comp ["_law_one"] [] (qpic_any (qpd_var 1)) (fun _ _ _ _ _ => ⟨(qptg_name 0 (nodS rfl)), qpifs_nil, (qpd_index (qpd_var 0) qpd_int)⟩)) qpa_nil') m.tuple))
 (qpds_cons (qpd1_set 3 sc.nd (qpd_maxD (qpd_comp ["_law_one"] [] (qpic_any (qpd_var 1)) (fun _ _ _ _ _ => ⟨(qptg_name 0 (nodS rfl)), qpifs_nil, (qpd_index (qpd_var 0) qpd_int)⟩)) m.max))
 (qpds_cons (qpd1_set 4 sc.nd (qpd_maxD (qpd_comp ["_law_one"] [] (qpic_any (qpd_var 1)) (fun _ _ _ _ _ => ⟨(qptg_name 0 (nodS rfl)), qpifs_nil, (qpd_index (qpd_var 0) qpd_int)⟩)) m.max))
 (qpds_cons (qpd1_if (qpb_eq hr.units (qpd_len (qpa_cons' (qpd_var 1) qpa_nil') m.len) qpd_int) (qpds_one (qpd1_ret (qpd_index (qpd_var 1) qpd_int))) qpds_nil)
 (qpds_one (qpd1_ret (qpd_tup (qpad_cons (qpd_tup (qpad_cons (qpd_index (qpd_lst (qpad_cons qpd_str (qpad_cons qpd_str qpad_nil))) (qpd_mod (qpd_var 0) qpd_int)) (qpad_cons (qpd_var 2) qpad_nil))) (qpad_cons (qpd_var 3) (qpad_cons (qpd_plus (qpd_var 4) qpd_int) qpad_nil))))))))))) (fun as r _ h => h)
end
end K11
set_option Elab.async false
set_option linter.all false
set_option maxRecDepth 100000
set_option maxHeartbeats 4000000
namespace K11
open PySem PySem.Spec PyProof.Rows L2 DL
section
variable {P : Program} {w : World} {K : PySem.W.Frag} {mg : Str → Option Value} {base : Heap} {f : Addr} {fd : FuncData}
abbrev s_law_grown : Stmt := top 23
theorem sc_law_grown : FnScope ["_law_cells", "_law_tongue_here", "_law_letters_here", "_law_stack", "_law_k", "_law_number", "_law_way", "_law_rest", "_law_many"] ["_law_cells", "_law_tongue_here", "_law_letters_here"] (defScope s_law_grown) := ⟨rfl, rfl, rfl, by decide +kernel, rfl, by decide +kernel, by decide +kernel⟩
theorem cal_law_grown (m : Blt w K mg) (h_law_leaf : Cal P w K mg base 1 3 "_law_leaf" K11.F_law_leaf) (h_law_joined : Cal P w K mg base 1 2 "_law_joined" K11.F_law_joined) (h_law_wrapped : Cal P w K mg base 1 3 "_law_wrapped" K11.F_law_wrapped) (F : Fun K "_law_grown" "_law_grown" s_law_grown f fd) (hm : mg "_law_grown" = some (.ref f)) : Cal P w K mg base 2 3 "_law_grown" K11.F_law_grown :=
  have sc := sc_law_grown
  qcal_of (k := 1) (gB := K11.g_law_grown) F hm sc (fun _ _ _ _ _ _ us hl => match us, hl with | [_, _, _], _ => rfl) (fun cdv A outer s H E J T hr =>
 (qpds_cons (qpd1_set 3 sc.nd (qpd_lst qpad_nil))
 (qpds_cons (qpd1_for (qpit_range1 (qpa_cons' (qpd_len (qpa_cons' (qpd_var 0) qpa_nil') m.len) qpa_nil') m.range) (qptg_name 4 sc.nd) (qpds_cons (qpd1_set 5 sc.nd (qpd_mod (qpd_times (qpd_plus (qpd_mod (qpd_index (qpd_var 0) (qpd_var 4)) (qpd_pow qpd_int qpd_int)) (qpd_times qpd_int (qpd_var 4))) qpd_int) qpd_int))
 (qpds_cons (qpd1_set 6 sc.nd (qpd_mod (qpd_var 5) qpd_int))
 (qpds_cons (qpd1_set 7 sc.nd (qpd_div (qpd_var 5) qpd_int))
 (qpds_one (qpd1_if (qPBw_pb (qpb_or (qpb_eq hr.units (qpd_var 3) (qpd_lst qpad_nil)) (qpb_or (qpb_cmp op_lt (bd_I0 fun _ _ _ => .bl _) (qpd_var 6) qpd_int) (qpb_or1 (qpb_cmp op_gt (bd_I0 fun _ _ _ => .bl _) (qpd_index (qpd_index (qpd_var 3) (qpd_neg qpd_int)) qpd_int) qpd_int))))) (qpds_one (qpd1_append 3 (qpd_tup (qpad_cons (qpd_cal h_law_leaf hr (qpa_cons' (qpd_var 7) (qpa_cons' (qpd_var 1) (qpa_cons' (qpd_var 2) qpa_nil')))) (qpad_cons qpd_int (qpad_cons qpd_int qpad_nil)))))) (qpds_one (qpd1_if (qPBw_pb (qpb_and (qpb_eq hr.units (qpd_var 6) qpd_int) (qpb_and1 (qpb_cmp op_gt (bd_I0 fun _ _ _ => .bl _) (qpd_len (qpa_cons' (qpd_var 3) qpa_nil') m.len) qpd_int)))) (qpds_cons (qpd1_set 8 sc.nd (qpd_plus qpd_int (qpd_mod (qpd_div (qpd_var 7) qpd_int) qpd_int)))
 (qpds_one (qpd1_set 3 sc.nd (qpd_plus (qpd_sl2 (qpd_var 3) qpod_none (qpod_some (qpd_neg (qpd_var 8)))) (qpd_lst (qpad_cons (qpd_cal h_law_joined hr (qpa_cons' (qpd_var 7) (qpa_cons' (qpd_sl2 (qpd_var 3) (qpod_some (qpd_neg (qpd_var 8))) qpod_none) qpa_nil'))) qpad_nil)))))) (qpds_one (qpd1_if (qPBw_pb (qpb_and (qpb_eq hr.units (qpd_var 6) qpd_int) (qpb_and1 (qpb_eq hr.units (qpd_mod (qpd_var 7) qpd_int) qpd_int)))) (qpds_one (qpd1_append 3 (qpd_tup (qpad_cons (qpd_tup (qpad_cons (qpd_index (qpd_lst (qpad_cons qpd_str (qpad_cons qpd_str qpad_nil))) (qpd_mod (qpd_div (qpd_var 7) qpd_int) qpd_int)) (qpad_cons (qpd_tup qpad_nil) qpad_nil))) (qpad_cons qpd_int (qpad_cons qpd_int qpad_nil)))))) (qpds_one (qpd1_set 3 sc.nd (qpd_plus (qpd_sl2 (qpd_var 3) qpod_none (qpod_some (qpd_neg qpd_int))) (qpd_lst (qpad_cons (qpd_cal h_law_wrapped hr (qpa_cons' (qpd_var 7) (qpa_cons' (qpd_var 2) (qpa_cons' (qpd_index (qpd_var 3) (qpd_neg qpd_int)) qpa_nil')))) qpad_nil)))))))))))))))
 (qpds_one (qpd1_ret (qpd_index (qpd_cal h_law_joined hr (qpa_cons' (qpd_len (qpa_cons' (qpd_var 0) qpa_nil') m.len) (qpa_cons' (qpd_var 3) qpa_nil'))) qpd_int)))))) (fun as r _ h => h)
end
end K11
set_option Elab.async false
set_option linter.all false
set_option maxRecDepth 100000
set_option maxHeartbeats 4000000
namespace K11
open PySem PySem.Spec PyProof.Rows L2 DL
section
variable {P : Program} {w : World} {K : PySem.W.Frag} {mg : Str → Option Value} {base : Heap} {f : Addr} {fd : FuncData}
abbrev s_law_letter : Stmt := top 24
theorem sc_law_letter : FnScope ["_law_thing"] ["_law_thing"] (defScope s_law_letter) := ⟨rfl, rfl, rfl, by decide +kernel, rfl, by decide +kernel, by decide +kernel⟩
theorem cal_law_letter (m : Blt w K mg)  (F : Fun K "_law_letter" "_law_letter" s_law_letter f fd) (hm : mg "_law_letter" = some (.ref f)) : Cal P w K mg base 1 1 "_law_letter" K11.Fis_letter :=
  have sc := sc_law_letter
  qcal_of (k := 0) (gB := K11.gis_letter) F hm sc (fun _ _ _ _ _ _ us hl => match us, hl with | [_], _ => rfl) (fun cdv A outer s H E J T hr =>
 (qpds_one (qpd1_ret (qpd_and (qpd_isinst kit_str boot_str_ m.str (qpd_var 0) m.isinstance) (qpd_and (qpd_eq hr.units (qpd_len (qpa_cons' (qpd_var 0) qpa_nil') m.len) qpd_int) (qpd_and1 (qpd_inS (qpd_var 0) qpd_str))))))) (fun as r _ h => h)
end
end K11
set_option Elab.async false
set_option linter.all false
set_option maxRecDepth 100000
set_option maxHeartbeats 4000000
namespace K11
open PySem PySem.Spec PyProof.Rows L2 DL
section
variable {P : Program} {w : World} {K : PySem.W.Frag} {mg : Str → Option Value} {base : Heap} {f : Addr} {fd : FuncData}
abbrev s_law_name : Stmt := top 25
theorem sc_law_name : FnScope ["_law_thing"] ["_law_thing"] (defScope s_law_name) := ⟨rfl, rfl, rfl, by decide +kernel, rfl, by decide +kernel, by decide +kernel⟩
theorem cal_law_name (m : Blt w K mg)  (F : Fun K "_law_name" "_law_name" s_law_name f fd) (hm : mg "_law_name" = some (.ref f)) : Cal P w K mg base 1 1 "_law_name" K01.F_law_is_name :=
  have sc := sc_law_name
  qcal_of (k := 0) (gB := K01.g_law_is_name) F hm sc (fun _ _ _ _ _ _ us hl => match us, hl with | [_], _ => rfl) (fun cdv A outer s H E J T hr =>
 (qpds_cons (qpd1_if (qPBw_pb (qpb_or (qpb_not (qpb_val (qpd_isinst kit_str boot_str_ m.str (qpd_var 0) m.isinstance))) (qpb_or (qpb_cmp op_lt (bd_I0 fun _ _ _ => .bl _) (qpd_len (qpa_cons' (qpd_var 0) qpa_nil') m.len) qpd_int) (qpb_or1 (qpb_cmp op_gt (bd_I0 fun _ _ _ => .bl _) (qpd_len (qpa_cons' (qpd_var 0) qpa_nil') m.len) qpd_int))))) (qpds_one (qpd1_ret qpd_bl)) qpds_nil)
 (qpds_cons (qpd1_if (qpb_in hr.units (qpd_var 0) (qpd_tup (qpad_cons qpd_str (qpad_cons qpd_str (qpad_cons qpd_str (qpad_cons qpd_str (qpad_cons qpd_str (qpad_cons qpd_str (qpad_cons qpd_str (qpad_cons qpd_str qpad_nil)))))))))) (qpds_one (qpd1_ret qpd_bl)) qpds_nil)
 (qpds_one (qpd1_ret (qpd_all (qpa_cons' (qpd_comp ["_law_sign"] [] (qPIt_pic (qpit_str (qpd_var 0))) (fun _ _ _ _ _ => ⟨(qptg_name 0 (nodS rfl)), qpifs_nil, (qpd_inS (qpd_var 0) qpd_str)⟩)) qpa_nil') m.all)))))) (fun as r _ h => h)
end
end K11
set_option Elab.async false
set_option linter.all false
set_option maxRecDepth 100000
set_option maxHeartbeats 4000000
namespace K11
open PySem PySem.Spec PyProof.Rows L2 DL
section
variable {P : Program} {w : World} {K : PySem.W.Frag} {mg : Str → Option Value} {base : Heap} {f : Addr} {fd : FuncData}
abbrev s_law_judged : Stmt := top 26
theorem sc_law_judged : FnScope ["_law_thing"] ["_law_thing"] (defScope s_law_judged) := ⟨rfl, rfl, rfl, by decide +kernel, rfl, by decide +kernel, by decide +kernel⟩
theorem cal_law_judged (m : Blt w K mg) (h_law_name : Cal P w K mg base 1 1 "_law_name" K01.F_law_is_name) (h_law_letter : Cal P w K mg base 1 1 "_law_letter" K11.Fis_letter) (F : Fun K "_law_judged" "_law_judged" s_law_judged f fd) (hm : mg "_law_judged" = some (.ref f)) : ∀ fu : Nat, Cal P w K mg base (1 + fu) 1 "_law_judged" (K11.F_law_judged fu)
  | 0 => cal_bad (ps := ["_law_thing"]) F hm (fun _ _ _ _ _ _ us hl => match us, hl with | [_], _ => rfl) (fun _ => rfl)
  | fu + 1 =>
    have sc := sc_law_judged
    have hself := cal_law_judged m h_law_name h_law_letter F hm fu
    qcal_of (k := 1 + fu) (gB := K11.g_law_judged (K11.F_law_judged fu)) F hm sc (fun _ _ _ _ _ _ us hl => match us, hl with | [_], _ => rfl) (fun cdv A outer s H E J T hr =>
 (qpds_cons (qpd1_if (qPBw_pb (qpb_or (qpb_not (qpb_val (qpd_isinst kit_tuple boot_tuple_ m.tuple (qpd_var 0) m.isinstance))) (qpb_or1 (qpb_cmp op_lt (bd_I0 fun _ _ _ => .bl _) (qpd_len (qpa_cons' (qpd_var 0) qpa_nil') m.len) qpd_int)))) (qpds_one (qpd1_ret qpd_bl)) qpds_nil)
 (qpds_cons (qpd1_if (qpb_eq hr.units (qpd_index (qpd_var 0) qpd_int) qpd_str) (qpds_one (qpd1_ret (qpd_and (qpd_eq hr.units (qpd_len (qpa_cons' (qpd_var 0) qpa_nil') m.len) qpd_int) (qpd_and (qpd_cal h_law_name hr (qpa_cons' (qpd_index (qpd_var 0) qpd_int) qpa_nil') (by omega)) (qpd_and1 (qpd_cal h_law_letter hr (qpa_cons' (qpd_index (qpd_var 0) qpd_int) qpa_nil') (by omega))))))) qpds_nil)
 (qpds_cons (qpd1_if (qpb_eq hr.units (qpd_index (qpd_var 0) qpd_int) qpd_str) (qpds_one (qpd1_ret (qpd_and (qpd_eq hr.units (qpd_len (qpa_cons' (qpd_var 0) qpa_nil') m.len) qpd_int) (qpd_and (qpd_cal h_law_name hr (qpa_cons' (qpd_index (qpd_var 0) qpd_int) qpa_nil') (by omega)) (qpd_and (qpd_cal h_law_letter hr (qpa_cons' (qpd_index (qpd_var 0) qpd_int) qpa_nil') (by omega)) (qpd_and1 (qpd_cal h_law_letter hr (qpa_cons' (qpd_index (qpd_var 0) qpd_int) qpa_nil') (by omega)))))))) qpds_nil)
 (qpds_cons (qpd1_if (qpb_eq hr.units (qpd_index (qpd_var 0) qpd_int) qpd_str) (qpds_one (qpd1_ret (qpd_and (qpd_eq hr.units (qpd_len (qpa_cons' (qpd_var 0) qpa_nil') m.len) qpd_int) (qpd_and (qpd_cal h_law_letter hr (qpa_cons' (qpd_index (qpd_var 0) qpd_int) qpa_nil') (by omega)) (qpd_and1 (qpd_cal h_law_letter hr (qpa_cons' (qpd_index (qpd_var 0) qpd_int) qpa_nil') (by omega))))))) qpds_nil)
 (qpds_cons (qpd1_if (qpb_eq hr.units (qpd_index (qpd_var 0) qpd_int) qpd_str) (qpds_one (qpd1_ret (qpd_and (qpd_eq hr.units (qpd_len (qpa_cons' (qpd_var 0) qpa_nil') m.len) qpd_int) (qpd_and1 (qpd_cal hself hr (qpa_cons' (qpd_index (qpd_var 0) qpd_int) qpa_nil') (by omega)))))) qpds_nil)
 (qpds_cons (qpd1_if (qPBw_pb (qpb_or (qpb_eq hr.units (qpd_index (qpd_var 0) qpd_int) qpd_str) (qpb_or1 (qpb_eq hr.units (qpd_index (qpd_var 0) qpd_int) qpd_str)))) (qpds_cons (qpd1_if (qPBw_pb (qpb_or (qpb_ne hr.units (qpd_len (qpa_cons' (qpd_var 0) qpa_nil') m.len) qpd_int) (qpb_or (qpb_not (qpb_val (qpd_isinst kit_tuple boot_tuple_ m.tuple (qpd_index (qpd_var 0) qpd_int) m.isinstance))) (qpb_or1 (qpb_eq hr.units (qpd_len (qpa_cons' (qpd_index (qpd_var 0) qpd_int) qpa_nil') m.len) qpd_int))))) (qpds_one (qpd1_ret qpd_bl)) qpds_nil)
 (qpds_one (qpd1_ret (qpd_all (qpa_cons' (qpd_comp ["_law_part"] [] (qpic_any (qpd_index (qpd_var 0) qpd_int)) (fun _ _ _ _ _ => ⟨(qptg_name 0 (nodS rfl)), qpifs_nil, (qpd_cal hself hr (qpa_cons' (qpd_var 0) qpa_nil') (by omega))⟩)) qpa_nil') m.all)))) qpds_nil)
 (qpds_cons (qpd1_if (qPBw_pb (qpb_or (qpb_eq hr.units (qpd_index (qpd_var 0) qpd_int) qpd_str) (qpb_or1 (qpb_eq hr.units (qpd_index (qpd_var 0) qpd_int) qpd_str)))) (qpds_one (qpd1_ret (qpd_and (qpd_eq hr.units (qpd_len (qpa_cons' (qpd_var 0) qpa_nil') m.len) qpd_int) (qpd_and (qpd_cal h_law_letter hr (qpa_cons' (qpd_index (qpd_var 0) qpd_int) qpa_nil') (by omega)) (qpd_and1 (qpd_cal hself hr (qpa_cons' (qpd_index (qpd_var 0) qpd_int) qpa_nil') (by omega))))))) qpds_nil)
 (qpds_cons (qpd1_if (qPBw_pb (qpb_or (qpb_ne hr.units (qpd_index (qpd_var 0) qpd_int) qpd_str) (qpb_or (qpb_ne hr.units (qpd_len (qpa_cons' (qpd_var 0) qpa_nil') m.len) qpd_int) (qpb_or (qpb_not (qpb_val (qpd_isinst kit_int boot_int_ m.int (qpd_index (qpd_var 0) qpd_int) m.isinstance))) (qpb_or1 (qpb_val (qpd_isinst kit_bool boot_bool_ m.bool (qpd_index (qpd_var 0) qpd_int) m.isinstance))))))) (qpds_one (qpd1_ret qpd_bl)) qpds_nil)
 (qpds_one (qpd1_ret (qpd_and (qpd_le qpd_int (qpd_index (qpd_var 0) qpd_int)) (qpd_and (qpd_le (qpd_index (qpd_var 0) qpd_int) qpd_int) (qpd_and (qpd_cal h_law_letter hr (qpa_cons' (qpd_index (qpd_var 0) qpd_int) qpa_nil') (by omega)) (qpd_and1 (qpd_cal hself hr (qpa_cons' (qpd_index (qpd_var 0) qpd_int) qpa_nil') (by omega))))))))))))))))) (fun as r _ h => h)
end
end K11
set_option Elab.async false
set_option linter.all false
set_option maxRecDepth 100000
set_option maxHeartbeats 4000000
namespace K11
open PySem PySem.Spec PyProof.Rows L2 DL
section
variable {P : Program} {w : World} {K : PySem.W.Frag} {mg : Str → Option Value} {base : Heap} {f : Addr} {fd : FuncData}
abbrev s_law_turned : Stmt := top 27
theorem sc_law_turned : FnScope ["_law_saying", "_law_number", "_law_odd", "_law_some", "_law_found", "_law_way"] ["_law_saying", "_law_number"] (defScope s_law_turned) := ⟨rfl, rfl, rfl, by decide +kernel, rfl, by decide +kernel, by decide +kernel⟩
theorem cal_law_turned (m : Blt w K mg)  (F : Fun K "_law_turned" "_law_turned" s_law_turned f fd) (hm : mg "_law_turned" = some (.ref f)) : Cal P w K mg base 1 2 "_law_turned" K11.F_law_turned :=
  have sc := sc_law_turned
  qcal_of (k := 0) (gB := K11.g_law_turned) F hm sc (fun _ _ _ _ _ _ us hl => match us, hl with | [_, _], _ => rfl) (fun cdv A outer s H E J T hr =>
 (qpds_cons (qpd1_set 2 sc.nd (qpd_index (qpd_lst (qpad_cons qpd_str (qpad_cons qpd_str (qpad_cons qpd_str (qpad_cons qpd_str (qpad_cons qpd_int (qpad_cons qpd_non (qpad_cons qpd_bl (qpad_cons qpd_str (qpad_cons (qpd_tup (qpad_cons qpd_str qpad_nil)) (qpad_cons qpd_str (qpad_cons qpd_str (qpad_cons qpd_str qpad_nil))))))))))))) (qpd_mod (qpd_var 1) qpd_int)))
 (qpds_cons (qpd1_set 3 sc.nd (qpd_lst (qpad_cons (qpd_list (qpa_cons' (qpd_var 0) qpa_nil') m.list) (qpad_cons (qpd_add4 (qpd_var 0) (qpd_tup (qpad_cons (qpd_var 2) qpad_nil))) (qpad_cons (qpd_sl2 (qpd_var 0) qpod_none (qpod_some (qpd_neg qpd_int))) (qpad_cons (qpd_sl2 (qpd_var 0) qpod_none (qpod_some qpd_int)) (qpad_cons (qpd_add4 (qpd_tup (qpad_cons (qpd_var 2) qpad_nil)) (qpd_sl2 (qpd_var 0) (qpod_some qpd_int) qpod_none)) (qpad_cons (qpd_tup qpad_nil) (qpad_cons (qpd_var 2) (qpad_cons (qpd_tup (qpad_cons (qpd_var 0) qpad_nil)) qpad_nil))))))))))
 (qpds_cons (qpd1_set 3 sc.nd (qpd_add4 (qpd_var 3) (qpd_lst (qpad_cons (qpd_tup (qpad_cons qpd_str (qpad_cons (qpd_var 2) (qpad_cons qpd_str qpad_nil)))) (qpad_cons (qpd_tup (qpad_cons qpd_str (qpad_cons qpd_str (qpad_cons (qpd_var 2) qpad_nil)))) (qpad_cons (qpd_tup (qpad_cons qpd_str (qpad_cons (qpd_var 2) (qpad_cons qpd_str (qpad_cons qpd_str qpad_nil))))) (qpad_cons (qpd_tup (qpad_cons qpd_str (qpad_cons qpd_str (qpad_cons (qpd_var 2) (qpad_cons qpd_str qpad_nil))))) qpad_nil)))))))
 (qpds_cons (qpd1_set 3 sc.nd (qpd_add4 (qpd_var 3) (qpd_lst (qpad_cons (qpd_tup (qpad_cons qpd_str (qpad_cons qpd_str (qpad_cons qpd_str (qpad_cons (qpd_var 2) qpad_nil))))) (qpad_cons (qpd_tup (qpad_cons qpd_str (qpad_cons (qpd_var 2) (qpad_cons qpd_str qpad_nil)))) (qpad_cons (qpd_tup (qpad_cons qpd_str (qpad_cons qpd_str (qpad_cons (qpd_var 2) qpad_nil)))) (qpad_cons (qpd_tup (qpad_cons qpd_str (qpad_cons qpd_str (qpad_cons qpd_str (qpad_cons qpd_str qpad_nil))))) qpad_nil)))))))
 (qpds_cons (qpd1_set 3 sc.nd (qpd_add4 (qpd_var 3) (qpd_lst (qpad_cons (qpd_tup (qpad_cons qpd_str (qpad_cons (qpd_var 2) qpad_nil))) (qpad_cons (qpd_tup (qpad_cons qpd_str (qpad_cons (qpd_var 0) (qpad_cons (qpd_var 0) qpad_nil)))) (qpad_cons (qpd_tup (qpad_cons qpd_str (qpad_cons (qpd_tup (qpad_cons (qpd_var 0) qpad_nil)) qpad_nil))) (qpad_cons (qpd_tup (qpad_cons qpd_str (qpad_cons (qpd_lst (qpad_cons (qpd_var 0) (qpad_cons (qpd_var 0) qpad_nil))) qpad_nil))) (qpad_cons (qpd_tup (qpad_cons qpd_str (qpad_cons (qpd_var 0) qpad_nil))) qpad_nil))))))))
 (qpds_cons (qpd1_set 3 sc.nd (qpd_add4 (qpd_var 3) (qpd_lst (qpad_cons (qpd_tup (qpad_cons qpd_str (qpad_cons (qpd_tup (qpad_cons (qpd_var 0) (qpad_cons (qpd_var 2) qpad_nil))) qpad_nil))) (qpad_cons (qpd_tup (qpad_cons qpd_str (qpad_cons (qpd_tup (qpad_cons (qpd_var 2) (qpad_cons (qpd_var 0) qpad_nil))) qpad_nil))) (qpad_cons (qpd_tup (qpad_cons qpd_str (qpad_cons (qpd_var 2) (qpad_cons (qpd_var 0) qpad_nil)))) (qpad_cons (qpd_tup (qpad_cons qpd_str (qpad_cons qpd_str (qpad_cons (qpd_var 2) qpad_nil)))) qpad_nil)))))))
 (qpds_cons (qpd1_set 3 sc.nd (qpd_add4 (qpd_var 3) (qpd_lst (qpad_cons (qpd_tup (qpad_cons qpd_str (qpad_cons qpd_int (qpad_cons qpd_str (qpad_cons (qpd_var 0) qpad_nil))))) (qpad_cons (qpd_tup (qpad_cons qpd_str (qpad_cons qpd_int (qpad_cons qpd_str (qpad_cons (qpd_var 0) qpad_nil))))) (qpad_cons (qpd_tup (qpad_cons qpd_str (qpad_cons (qpd_var 2) (qpad_cons qpd_str (qpad_cons (qpd_var 0) qpad_nil))))) qpad_nil))))))
 (qpds_cons (qpd1_set 3 sc.nd (qpd_add4 (qpd_var 3) (qpd_lst (qpad_cons (qpd_tup (qpad_cons qpd_str (qpad_cons qpd_int (qpad_cons (qpd_var 2) (qpad_cons (qpd_var 0) qpad_nil))))) (qpad_cons (qpd_tup (qpad_cons qpd_str (qpad_cons qpd_int (qpad_cons qpd_str (qpad_cons (qpd_var 2) qpad_nil))))) (qpad_cons (qpd_tup (qpad_cons qpd_str (qpad_cons qpd_str (qpad_cons (qpd_var 0) qpad_nil)))) (qpad_cons (qpd_tup (qpad_cons qpd_str (qpad_cons qpd_int (qpad_cons qpd_str (qpad_cons (qpd_var 0) qpad_nil))))) qpad_nil)))))))
 (qpds_cons (qpd1_set 4 sc.nd (qpd_index (qpd_var 3) (qpd_mod (qpd_div (qpd_var 1) qpd_int) (qpd_len (qpa_cons' (qpd_var 3) qpa_nil') m.len))))
 (qpds_cons (qpd1_set 5 sc.nd (qpd_mod (qpd_div (qpd_var 1) qpd_int) qpd_int))
 (qpds_cons (qpd1_if (qpb_eq hr.units (qpd_var 5) qpd_int) (qpds_one (qpd1_ret (qpd_tup (qpad_cons qpd_str (qpad_cons (qpd_var 4) qpad_nil))))) qpds_nil)
 (qpds_cons (qpd1_if (qpb_eq hr.units (qpd_var 5) qpd_int) (qpds_one (qpd1_ret (qpd_tup (qpad_cons qpd_str (qpad_cons qpd_str (qpad_cons (qpd_tup (qpad_cons qpd_str (qpad_cons (qpd_var 4) qpad_nil))) qpad_nil)))))) qpds_nil)
 (qpds_cons (qpd1_if (qpb_eq hr.units (qpd_var 5) qpd_int) (qpds_one (qpd1_ret (qpd_tup (qpad_cons qpd_str (qpad_cons (qpd_tup (qpad_cons (qpd_var 0) (qpad_cons (qpd_var 4) qpad_nil))) qpad_nil))))) qpds_nil)
 (qpds_one (qpd1_ret (qpd_var 4))))))))))))))))) (fun as r _ h => h)
end
end K11
set_option Elab.async false
set_option linter.all false
set_option maxRecDepth 100000
set_option maxHeartbeats 4000000
namespace K11
open PySem PySem.Spec PyProof.Rows L2 DL
section
variable {P : Program} {w : World} {K : PySem.W.Frag} {mg : Str → Option Value} {base : Heap} {f : Addr} {fd : FuncData}
abbrev slaw : Stmt := top 28
theorem sclaw : FnScope ["_law_script", "_law_tongue_here", "_law_letters_here", "_law_k", "_law_saying", "_law_j", "_law_number", "_law_thing", "_law_found"] ["_law_script"] (defScope slaw) := ⟨rfl, rfl, rfl, by decide +kernel, rfl, by decide +kernel, by decide +kernel⟩
theorem oklaw (m : Blt w K mg) (h_law_cell : Cal P w K mg base 1 2 "_law_cell" K01.F_law_cell) (h_law_tongue : Cal P w K mg base 2 1 "_law_tongue" K01.F_law_tongue) (h_law_letters : Cal P w K mg base 1 1 "_law_letters" K11.F_law_letters) (h_law_grown : Cal P w K mg base 2 3 "_law_grown" K11.F_law_grown) (his_saying : Cal P w K mg base 3 1 "is_saying" K11.Fis_saying) (h_law_judged : Cal P w K mg base 61 1 "_law_judged" (K11.F_law_judged 60)) (h_law_turned : Cal P w K mg base 1 2 "_law_turned" K11.F_law_turned) (F : Fun K "law" "law" slaw f fd) : FnOk P w K mg base CX0 62 f fd ["_law_script"] (spD K 1 K11.Flaw) :=
  have sc := sclaw
  qfn_okD (k := 61) (gB := K11.glaw) F sc (fun cdv A outer s H E J T hr =>
 (qpds_cons (qpd1_set 1 sc.nd (qpd_cal h_law_tongue hr (qpa_cons' (qpd_cal h_law_cell hr (qpa_cons' (qpd_var 0) (qpa_cons' qpd_int qpa_nil'))) qpa_nil')))
 (qpds_cons (qpd1_set 2 sc.nd (qpd_cal h_law_letters hr (qpa_cons' (qpd_mod (qpd_cal h_law_cell hr (qpa_cons' (qpd_var 0) (qpa_cons' qpd_int qpa_nil'))) qpd_int) qpa_nil')))
 (qpds_cons (qpd1_for (qpit_range3 (qpa_cons' qpd_int (qpa_cons' (qpd_max (qpa_cons' qpd_int (qpa_cons' (qpd_min (qpa_cons' (qpd_len (qpa_cons' (qpd_var 0) qpa_nil') m.len) (qpa_cons' qpd_int qpa_nil')) m.min) qpa_nil')) m.max) (qpa_cons' qpd_int qpa_nil'))) m.range) (qptg_name 3 sc.nd) (qpds_cons (qpd1_set 4 sc.nd (qpd_cal h_law_grown hr (qpa_cons' (qpd_sl2 (qpd_var 0) (qpod_some (qpd_var 3)) (qpod_some (qpd_plus (qpd_var 3) qpd_int))) (qpa_cons' (qpd_var 1) (qpa_cons' (qpd_var 2) qpa_nil')))))
 (qpds_cons (qpd1_if (qPBw_pb (qpb_or (qpb_isnot (qpd_cal his_saying hr (qpa_cons' (qpd_var 4) qpa_nil')) qpd_bl) (qpb_or1 (qpb_not (qpb_val (qpd_cal h_law_judged hr (qpa_cons' (qpd_var 4) qpa_nil'))))))) (qpds_one (qpd1_ret qpd_bl)) qpds_nil)
 (qpds_one (qpd1_for (qpit_range1 (qpa_cons' qpd_int qpa_nil') m.range) (qptg_name 5 sc.nd) (qpds_cons (qpd1_set 6 sc.nd (qpd_mod (qpd_times (qpd_plus (qpd_cal h_law_cell hr (qpa_cons' (qpd_var 0) (qpa_cons' (qpd_plus (qpd_var 3) (qpd_var 5)) qpa_nil'))) (qpd_times qpd_int (qpd_var 5))) qpd_int) qpd_int))
 (qpds_cons (qpd1_set 7 sc.nd (qpd_cal h_law_turned hr (qpa_cons' (qpd_var 4) (qpa_cons' (qpd_var 6) qpa_nil'))))
 (qpds_cons (qpd1_set 8 sc.nd (qpd_cal his_saying hr (qpa_cons' (qpd_var 7) qpa_nil')))
 (qpds_one (qpd1_if (qPBw_pb (qpb_or (qpb_not (qpb_val (qpd_isinst kit_bool boot_bool_ m.bool (qpd_var 8) m.isinstance))) (qpb_or1 (qpb_ne hr.units (qpd_var 8) (qpd_cal h_law_judged hr (qpa_cons' (qpd_var 7) qpa_nil')))))) (qpds_one (qpd1_ret qpd_bl)) qpds_nil))))))))))
 (qpds_one (qpd1_ret (qpd_isB (qpd_cal his_saying hr (qpa_cons' (qpd_index (qpd_lst (qpad_cons qpd_non (qpad_cons qpd_int (qpad_cons qpd_str (qpad_cons qpd_dict0 (qpad_cons (qpd_lst qpad_nil) (qpad_cons (qpd_tup (qpad_cons qpd_str qpad_nil)) (qpad_cons (qpd_tup (qpad_cons qpd_str qpad_nil)) qpad_nil)))))))) (qpd_mod (qpd_cal h_law_cell hr (qpa_cons' (qpd_var 0) (qpa_cons' qpd_int qpa_nil'))) qpd_int)) qpa_nil')) qpd_bl))))))) (fun as r _ h => h)
end
end K11
set_option Elab.async false
set_option linter.all false
set_option maxRecDepth 100000
set_option maxHeartbeats 4000000
namespace K11
open PySem PySem.Spec PyProof.Rows L2 DL
theorem all_mk {l : PySem.W.OpenLaw} {w : World} {K : PySem.W.Frag} {h : Heap} {mg : Str → Option Value} {fa : Addr} (X : K.In h) (G : h.Ns mainGlobals mg) (hfa : mg "law" = some (.ref fa))
    {f0 : Addr} {od0 an0 : Option Addr} {sl0 : Array (Option Value)} {oc0 kV0 dc0 pm0 cd0 ct0 : Value}
    {f1 : Addr} {od1 an1 : Option Addr} {sl1 : Array (Option Value)} {oc1 kV1 dc1 pm1 cd1 ct1 : Value}
    {f2 : Addr} {od2 an2 : Option Addr} {sl2 : Array (Option Value)} {oc2 kV2 dc2 pm2 cd2 ct2 : Value}
    {f3 : Addr} {od3 an3 : Option Addr} {sl3 : Array (Option Value)} {oc3 kV3 dc3 pm3 cd3 ct3 : Value}
    {f4 : Addr} {od4 an4 : Option Addr} {sl4 : Array (Option Value)} {oc4 kV4 dc4 pm4 cd4 ct4 : Value}
    {f5 : Addr} {od5 an5 : Option Addr} {sl5 : Array (Option Value)} {oc5 kV5 dc5 pm5 cd5 ct5 : Value}
    {f6 : Addr} {od6 an6 : Option Addr} {sl6 : Array (Option Value)} {oc6 kV6 dc6 pm6 cd6 ct6 : Value}
    {f7 : Addr} {od7 an7 : Option Addr} {sl7 : Array (Option Value)} {oc7 kV7 dc7 pm7 cd7 ct7 : Value}
    {f8 : Addr} {od8 an8 : Option Addr} {sl8 : Array (Option Value)} {oc8 kV8 dc8 pm8 cd8 ct8 : Value}
    {f9 : Addr} {od9 an9 : Option Addr} {sl9 : Array (Option Value)} {oc9 kV9 dc9 pm9 cd9 ct9 : Value}
    {f10 : Addr} {od10 an10 : Option Addr} {sl10 : Array (Option Value)} {oc10 kV10 dc10 pm10 cd10 ct10 : Value}
    {f11 : Addr} {od11 an11 : Option Addr} {sl11 : Array (Option Value)} {oc11 kV11 dc11 pm11 cd11 ct11 : Value}
    {f12 : Addr} {od12 an12 : Option Addr} {sl12 : Array (Option Value)} {oc12 kV12 dc12 pm12 cd12 ct12 : Value}
    {f13 : Addr} {od13 an13 : Option Addr} {sl13 : Array (Option Value)} {oc13 kV13 dc13 pm13 cd13 ct13 : Value}
    {f14 : Addr} {od14 an14 : Option Addr} {sl14 : Array (Option Value)} {oc14 kV14 dc14 pm14 cd14 ct14 : Value}
    {f15 : Addr} {od15 an15 : Option Addr} {sl15 : Array (Option Value)} {oc15 kV15 dc15 pm15 cd15 ct15 : Value}
    {f16 : Addr} {od16 an16 : Option Addr} {sl16 : Array (Option Value)} {oc16 kV16 dc16 pm16 cd16 ct16 : Value}
    {f17 : Addr} {od17 an17 : Option Addr} {sl17 : Array (Option Value)} {oc17 kV17 dc17 pm17 cd17 ct17 : Value}
    {f18 : Addr} {od18 an18 : Option Addr} {sl18 : Array (Option Value)} {oc18 kV18 dc18 pm18 cd18 ct18 : Value}
    {f19 : Addr} {od19 an19 : Option Addr} {sl19 : Array (Option Value)} {oc19 kV19 dc19 pm19 cd19 ct19 : Value}
    {fINNER_PLACES : Addr} {epINNER_PLACES : Nat} {ktINNER_PLACES0 : Tok} {ktINNER_PLACES1 : Tok} {ktINNER_PLACES2 : Tok} {ktINNER_PLACES3 : Tok} {t1 : Tok} {t2 : Tok} {t3 : Tok} {t4 : Tok}
    {fLENGTHS : Addr} {epLENGTHS : Nat} {ktLENGTHS0 : Tok} {ktLENGTHS1 : Tok} {ktLENGTHS2 : Tok} {ktLENGTHS3 : Tok} {ktLENGTHS4 : Tok} {ktLENGTHS5 : Tok} {ktLENGTHS6 : Tok} {ktLENGTHS7 : Tok} {ktLENGTHS8 : Tok} {t5 : Tok} {t6 : Tok} {t7 : Tok} {t8 : Tok} {t9 : Tok} {t10 : Tok} {t11 : Tok} {t12 : Tok} {t13 : Tok}
    {t14 : Tok}
    {fLETTER_PLACES : Addr} {epLETTER_PLACES : Nat} {ktLETTER_PLACES0 : Tok} {ktLETTER_PLACES1 : Tok} {ktLETTER_PLACES2 : Tok} {ktLETTER_PLACES3 : Tok} {ktLETTER_PLACES4 : Tok} {ktLETTER_PLACES5 : Tok} {ktLETTER_PLACES6 : Tok} {ktLETTER_PLACES7 : Tok} {ktLETTER_PLACES8 : Tok} {f15c : Addr} {od15c : Option Addr} {sl15c : Array (Option Value)} {n15c : Nat} {t16 : Tok} {f17c : Addr} {od17c : Option Addr} {sl17c : Array (Option Value)} {n17c : Nat} {t18 : Tok} {t19 : Tok} {f20c : Addr} {od20c : Option Addr} {sl20c : Array (Option Value)} {n20c : Nat} {t21 : Tok} {t22 : Tok} {f23c : Addr} {od23c : Option Addr} {sl23c : Array (Option Value)} {n23c : Nat} {f24c : Addr} {od24c : Option Addr} {sl24c : Array (Option Value)} {n24c : Nat} {f25c : Addr} {od25c : Option Addr} {sl25c : Array (Option Value)} {n25c : Nat} {f26c : Addr} {od26c : Option Addr} {sl26c : Array (Option Value)} {n26c : Nat} {t27 : Tok} {f28c : Addr} {od28c : Option Addr} {sl28c : Array (Option Value)} {n28c : Nat} {t29 : Tok} {f30c : Addr} {od30c : Option Addr} {sl30c : Array (Option Value)} {n30c : Nat} {t31 : Tok}
    {t32 : Tok}
    {f33c : Addr} {od33c : Option Addr} {sl33c : Array (Option Value)} {n33c : Nat} {t34 : Tok} {t35 : Tok} {t36 : Tok} {t37 : Tok} {t38 : Tok} {t39 : Tok} {t40 : Tok} {t41 : Tok}
    (a0 : PySem.W.nsIn K mainGlobals "is_whole" = some (some (.ref f0)))
    (l0 : K.lookup f0 = some ⟨oc0, od0, .func (PySem.W.fnOf "is_whole" "is_whole" (defArgs sis_whole) (defBody sis_whole) (defScope sis_whole) .none kV0 dc0 pm0 an0 cd0 ct0), sl0⟩)
    (c0 : PySem.W.codeIn K cd0 "is_whole" = true)
    (k0 : PySem.W.keepIn K (.ref f0) = true)
    (a1 : PySem.W.nsIn K mainGlobals "is_name" = some (some (.ref f1)))
    (l1 : K.lookup f1 = some ⟨oc1, od1, .func (PySem.W.fnOf "is_name" "is_name" (defArgs sis_name) (defBody sis_name) (defScope sis_name) .none kV1 dc1 pm1 an1 cd1 ct1), sl1⟩)
    (c1 : PySem.W.codeIn K cd1 "is_name" = true)
    (k1 : PySem.W.keepIn K (.ref f1) = true)
    (a2 : PySem.W.nsIn K mainGlobals "is_letter" = some (some (.ref f2)))
    (l2 : K.lookup f2 = some ⟨oc2, od2, .func (PySem.W.fnOf "is_letter" "is_letter" (defArgs sis_letter) (defBody sis_letter) (defScope sis_letter) .none kV2 dc2 pm2 an2 cd2 ct2), sl2⟩)
    (c2 : PySem.W.codeIn K cd2 "is_letter" = true)
    (k2 : PySem.W.keepIn K (.ref f2) = true)
    (a3 : PySem.W.nsIn K mainGlobals "letters_at" = some (some (.ref f3)))
    (l3 : K.lookup f3 = some ⟨oc3, od3, .func (PySem.W.fnOf "letters_at" "letters_at" (defArgs sletters_at) (defBody sletters_at) (defScope sletters_at) .none kV3 dc3 pm3 an3 cd3 ct3), sl3⟩)
    (c3 : PySem.W.codeIn K cd3 "letters_at" = true)
    (k3 : PySem.W.keepIn K (.ref f3) = true)
    (a4 : PySem.W.nsIn K mainGlobals "within" = some (some (.ref f4)))
    (l4 : K.lookup f4 = some ⟨oc4, od4, .func (PySem.W.fnOf "within" "within" (defArgs swithin) (defBody swithin) (defScope swithin) .none kV4 dc4 pm4 an4 cd4 ct4), sl4⟩)
    (c4 : PySem.W.codeIn K cd4 "within" = true)
    (k4 : PySem.W.keepIn K (.ref f4) = true)
    (a5 : PySem.W.nsIn K mainGlobals "is_well_made" = some (some (.ref f5)))
    (l5 : K.lookup f5 = some ⟨oc5, od5, .func (PySem.W.fnOf "is_well_made" "is_well_made" (defArgs sis_well_made) (defBody sis_well_made) (defScope sis_well_made) .none kV5 dc5 pm5 an5 cd5 ct5), sl5⟩)
    (c5 : PySem.W.codeIn K cd5 "is_well_made" = true)
    (k5 : PySem.W.keepIn K (.ref f5) = true)
    (a6 : PySem.W.nsIn K mainGlobals "is_saying" = some (some (.ref f6)))
    (l6 : K.lookup f6 = some ⟨oc6, od6, .func (PySem.W.fnOf "is_saying" "is_saying" (defArgs sis_saying) (defBody sis_saying) (defScope sis_saying) .none kV6 dc6 pm6 an6 cd6 ct6), sl6⟩)
    (c6 : PySem.W.codeIn K cd6 "is_saying" = true)
    (k6 : PySem.W.keepIn K (.ref f6) = true)
    (a7 : PySem.W.nsIn K mainGlobals "_law_cell" = some (some (.ref f7)))
    (l7 : K.lookup f7 = some ⟨oc7, od7, .func (PySem.W.fnOf "_law_cell" "_law_cell" (defArgs s_law_cell) (defBody s_law_cell) (defScope s_law_cell) .none kV7 dc7 pm7 an7 cd7 ct7), sl7⟩)
    (c7 : PySem.W.codeIn K cd7 "_law_cell" = true)
    (k7 : PySem.W.keepIn K (.ref f7) = true)
    (a8 : PySem.W.nsIn K mainGlobals "_law_names" = some (some (.ref f8)))
    (l8 : K.lookup f8 = some ⟨oc8, od8, .func (PySem.W.fnOf "_law_names" "_law_names" (defArgs s_law_names) (defBody s_law_names) (defScope s_law_names) .none kV8 dc8 pm8 an8 cd8 ct8), sl8⟩)
    (c8 : PySem.W.codeIn K cd8 "_law_names" = true)
    (k8 : PySem.W.keepIn K (.ref f8) = true)
    (a9 : PySem.W.nsIn K mainGlobals "_law_tongue" = some (some (.ref f9)))
    (l9 : K.lookup f9 = some ⟨oc9, od9, .func (PySem.W.fnOf "_law_tongue" "_law_tongue" (defArgs s_law_tongue) (defBody s_law_tongue) (defScope s_law_tongue) .none kV9 dc9 pm9 an9 cd9 ct9), sl9⟩)
    (c9 : PySem.W.codeIn K cd9 "_law_tongue" = true)
    (k9 : PySem.W.keepIn K (.ref f9) = true)
    (a10 : PySem.W.nsIn K mainGlobals "_law_letters" = some (some (.ref f10)))
    (l10 : K.lookup f10 = some ⟨oc10, od10, .func (PySem.W.fnOf "_law_letters" "_law_letters" (defArgs s_law_letters) (defBody s_law_letters) (defScope s_law_letters) .none kV10 dc10 pm10 an10 cd10 ct10), sl10⟩)
    (c10 : PySem.W.codeIn K cd10 "_law_letters" = true)
    (k10 : PySem.W.keepIn K (.ref f10) = true)
    (a11 : PySem.W.nsIn K mainGlobals "_law_leaf" = some (some (.ref f11)))
    (l11 : K.lookup f11 = some ⟨oc11, od11, .func (PySem.W.fnOf "_law_leaf" "_law_leaf" (defArgs s_law_leaf) (defBody s_law_leaf) (defScope s_law_leaf) .none kV11 dc11 pm11 an11 cd11 ct11), sl11⟩)
    (c11 : PySem.W.codeIn K cd11 "_law_leaf" = true)
    (k11 : PySem.W.keepIn K (.ref f11) = true)
    (a12 : PySem.W.nsIn K mainGlobals "_law_wrapped" = some (some (.ref f12)))
    (l12 : K.lookup f12 = some ⟨oc12, od12, .func (PySem.W.fnOf "_law_wrapped" "_law_wrapped" (defArgs s_law_wrapped) (defBody s_law_wrapped) (defScope s_law_wrapped) .none kV12 dc12 pm12 an12 cd12 ct12), sl12⟩)
    (c12 : PySem.W.codeIn K cd12 "_law_wrapped" = true)
    (k12 : PySem.W.keepIn K (.ref f12) = true)
    (a13 : PySem.W.nsIn K mainGlobals "_law_joined" = some (some (.ref f13)))
    (l13 : K.lookup f13 = some ⟨oc13, od13, .func (PySem.W.fnOf "_law_joined" "_law_joined" (defArgs s_law_joined) (defBody s_law_joined) (defScope s_law_joined) .none kV13 dc13 pm13 an13 cd13 ct13), sl13⟩)
    (c13 : PySem.W.codeIn K cd13 "_law_joined" = true)
    (k13 : PySem.W.keepIn K (.ref f13) = true)
    (a14 : PySem.W.nsIn K mainGlobals "_law_grown" = some (some (.ref f14)))
    (l14 : K.lookup f14 = some ⟨oc14, od14, .func (PySem.W.fnOf "_law_grown" "_law_grown" (defArgs s_law_grown) (defBody s_law_grown) (defScope s_law_grown) .none kV14 dc14 pm14 an14 cd14 ct14), sl14⟩)
    (c14 : PySem.W.codeIn K cd14 "_law_grown" = true)
    (k14 : PySem.W.keepIn K (.ref f14) = true)
    (a15 : PySem.W.nsIn K mainGlobals "_law_letter" = some (some (.ref f15)))
    (l15 : K.lookup f15 = some ⟨oc15, od15, .func (PySem.W.fnOf "_law_letter" "_law_letter" (defArgs s_law_letter) (defBody s_law_letter) (defScope s_law_letter) .none kV15 dc15 pm15 an15 cd15 ct15), sl15⟩)
    (c15 : PySem.W.codeIn K cd15 "_law_letter" = true)
    (k15 : PySem.W.keepIn K (.ref f15) = true)
    (a16 : PySem.W.nsIn K mainGlobals "_law_name" = some (some (.ref f16)))
    (l16 : K.lookup f16 = some ⟨oc16, od16, .func (PySem.W.fnOf "_law_name" "_law_name" (defArgs s_law_name) (defBody s_law_name) (defScope s_law_name) .none kV16 dc16 pm16 an16 cd16 ct16), sl16⟩)
    (c16 : PySem.W.codeIn K cd16 "_law_name" = true)
    (k16 : PySem.W.keepIn K (.ref f16) = true)
    (a17 : PySem.W.nsIn K mainGlobals "_law_judged" = some (some (.ref f17)))
    (l17 : K.lookup f17 = some ⟨oc17, od17, .func (PySem.W.fnOf "_law_judged" "_law_judged" (defArgs s_law_judged) (defBody s_law_judged) (defScope s_law_judged) .none kV17 dc17 pm17 an17 cd17 ct17), sl17⟩)
    (c17 : PySem.W.codeIn K cd17 "_law_judged" = true)
    (k17 : PySem.W.keepIn K (.ref f17) = true)
    (a18 : PySem.W.nsIn K mainGlobals "_law_turned" = some (some (.ref f18)))
    (l18 : K.lookup f18 = some ⟨oc18, od18, .func (PySem.W.fnOf "_law_turned" "_law_turned" (defArgs s_law_turned) (defBody s_law_turned) (defScope s_law_turned) .none kV18 dc18 pm18 an18 cd18 ct18), sl18⟩)
    (c18 : PySem.W.codeIn K cd18 "_law_turned" = true)
    (k18 : PySem.W.keepIn K (.ref f18) = true)
    (a19 : PySem.W.nsIn K mainGlobals "law" = some (some (.ref f19)))
    (l19 : K.lookup f19 = some ⟨oc19, od19, .func (PySem.W.fnOf "law" "law" (defArgs slaw) (defBody slaw) (defScope slaw) .none kV19 dc19 pm19 an19 cd19 ct19), sl19⟩)
    (c19 : PySem.W.codeIn K cd19 "law" = true)
    (k19 : PySem.W.keepIn K (.ref f19) = true)
    (z0 : PySem.W.nsIn K mainGlobals "all" = some none)
    (z1 : PySem.W.nsIn K mainGlobals "bool" = some none)
    (z2 : PySem.W.nsIn K mainGlobals "int" = some none)
    (z3 : PySem.W.nsIn K mainGlobals "isinstance" = some none)
    (z4 : PySem.W.nsIn K mainGlobals "len" = some none)
    (z5 : PySem.W.nsIn K mainGlobals "list" = some none)
    (z6 : PySem.W.nsIn K mainGlobals "max" = some none)
    (z7 : PySem.W.nsIn K mainGlobals "min" = some none)
    (z8 : PySem.W.nsIn K mainGlobals "range" = some none)
    (z9 : PySem.W.nsIn K mainGlobals "sorted" = some none)
    (z10 : PySem.W.nsIn K mainGlobals "str" = some none)
    (z11 : PySem.W.nsIn K mainGlobals "tuple" = some none)
    (gINNER_PLACES : PySem.W.nsIn K mainGlobals "INNER_PLACES" = some (some (.ref fINNER_PLACES)))
    (lINNER_PLACES : K.lookup fINNER_PLACES = some { cls := .type "dict", data := .dict #[⟨PyData.keyHash w.params "not", .str "not" ktINNER_PLACES0, (.int 1 t1)⟩, ⟨PyData.keyHash w.params "some", .str "some" ktINNER_PLACES1, (.int 2 t2)⟩, ⟨PyData.keyHash w.params "every", .str "every" ktINNER_PLACES2, (.int 2 t3)⟩, ⟨PyData.keyHash w.params "least", .str "least" ktINNER_PLACES3, (.int 3 t4)⟩] epINNER_PLACES })
    (gLENGTHS : PySem.W.nsIn K mainGlobals "LENGTHS" = some (some (.ref fLENGTHS)))
    (lLENGTHS : K.lookup fLENGTHS = some { cls := .type "dict", data := .dict #[⟨PyData.keyHash w.params "mark", .str "mark" ktLENGTHS0, (.int 3 t5)⟩, ⟨PyData.keyHash w.params "arrow", .str "arrow" ktLENGTHS1, (.int 4 t6)⟩, ⟨PyData.keyHash w.params "same", .str "same" ktLENGTHS2, (.int 3 t7)⟩, ⟨PyData.keyHash w.params "not", .str "not" ktLENGTHS3, (.int 2 t8)⟩, ⟨PyData.keyHash w.params "and", .str "and" ktLENGTHS4, (.int 2 t9)⟩, ⟨PyData.keyHash w.params "or", .str "or" ktLENGTHS5, (.int 2 t10)⟩, ⟨PyData.keyHash w.params "some", .str "some" ktLENGTHS6, (.int 3 t11)⟩, ⟨PyData.keyHash w.params "every", .str "every" ktLENGTHS7, (.int 3 t12)⟩, ⟨PyData.keyHash w.params "least", .str "least" ktLENGTHS8, (.int 4 t13)⟩] epLENGTHS })
    (gLETTERS : PySem.W.nsIn K mainGlobals "LETTERS" = some (some (.str "abcdefghijklmnopqrstuvwxyz" t14)))
    (gLETTER_PLACES : PySem.W.nsIn K mainGlobals "LETTER_PLACES" = some (some (.ref fLETTER_PLACES)))
    (lLETTER_PLACES : K.lookup fLETTER_PLACES = some { cls := .type "dict", data := .dict #[⟨PyData.keyHash w.params "mark", .str "mark" ktLETTER_PLACES0, (.ref f15c)⟩, ⟨PyData.keyHash w.params "arrow", .str "arrow" ktLETTER_PLACES1, (.ref f17c)⟩, ⟨PyData.keyHash w.params "same", .str "same" ktLETTER_PLACES2, (.ref f20c)⟩, ⟨PyData.keyHash w.params "not", .str "not" ktLETTER_PLACES3, (.ref f23c)⟩, ⟨PyData.keyHash w.params "and", .str "and" ktLETTER_PLACES4, (.ref f24c)⟩, ⟨PyData.keyHash w.params "or", .str "or" ktLETTER_PLACES5, (.ref f25c)⟩, ⟨PyData.keyHash w.params "some", .str "some" ktLETTER_PLACES6, (.ref f26c)⟩, ⟨PyData.keyHash w.params "every", .str "every" ktLETTER_PLACES7, (.ref f28c)⟩, ⟨PyData.keyHash w.params "least", .str "least" ktLETTER_PLACES8, (.ref f30c)⟩] epLETTER_PLACES })
    (lc15 : K.lookup f15c = some ⟨.type "tuple", od15c, .seq #[(.int 2 t16)] n15c, sl15c⟩)
    (lc17 : K.lookup f17c = some ⟨.type "tuple", od17c, .seq #[(.int 2 t18), (.int 3 t19)] n17c, sl17c⟩)
    (lc20 : K.lookup f20c = some ⟨.type "tuple", od20c, .seq #[(.int 1 t21), (.int 2 t22)] n20c, sl20c⟩)
    (lc23 : K.lookup f23c = some ⟨.type "tuple", od23c, .seq #[] n23c, sl23c⟩)
    (lc24 : K.lookup f24c = some ⟨.type "tuple", od24c, .seq #[] n24c, sl24c⟩)
    (lc25 : K.lookup f25c = some ⟨.type "tuple", od25c, .seq #[] n25c, sl25c⟩)
    (lc26 : K.lookup f26c = some ⟨.type "tuple", od26c, .seq #[(.int 1 t27)] n26c, sl26c⟩)
    (lc28 : K.lookup f28c = some ⟨.type "tuple", od28c, .seq #[(.int 1 t29)] n28c, sl28c⟩)
    (lc30 : K.lookup f30c = some ⟨.type "tuple", od30c, .seq #[(.int 2 t31)] n30c, sl30c⟩)
    (gMOST_LEAST : PySem.W.nsIn K mainGlobals "MOST_LEAST" = some (some (.int 9 t32)))
    (gWORDS : PySem.W.nsIn K mainGlobals "WORDS" = some (some (.ref f33c)))
    (lc33 : K.lookup f33c = some ⟨.type "tuple", od33c, .seq #[(.str "and" t34), (.str "or" t35), (.str "not" t36), (.str "some" t37), (.str "every" t38), (.str "least" t39), (.str "true" t40), (.str "false" t41)] n33c, sl33c⟩)
    (dINNER_PLACES : (fINNER_PLACES == sysModules) = false)
    (dLENGTHS : (fLENGTHS == sysModules) = false)
    (dLETTER_PLACES : (fLETTER_PLACES == sysModules) = false) :
    ∃ fd : FuncData, (∀ (s : Shared) (v : Value), BindsTo s fd ⟨[v], []⟩ [("_law_script", v)]) ∧ ∀ base : Heap, K.In base → base.Ns mainGlobals mg → FnOk l.prog w K mg base CX0 62 fa fd ["_law_script"] (spD K 1 K11.Flaw) := by
  have e := hfa.symm.trans (PySem.W.mg_of X G a19)
  cases e
  have F0 := fun_mk (st := sis_whole) l0 c0 k0
  have F1 := fun_mk (st := sis_name) l1 c1 k1
  have F2 := fun_mk (st := sis_letter) l2 c2 k2
  have F3 := fun_mk (st := sletters_at) l3 c3 k3
  have F4 := fun_mk (st := swithin) l4 c4 k4
  have F5 := fun_mk (st := sis_well_made) l5 c5 k5
  have F6 := fun_mk (st := sis_saying) l6 c6 k6
  have F7 := fun_mk (st := s_law_cell) l7 c7 k7
  have F8 := fun_mk (st := s_law_names) l8 c8 k8
  have F9 := fun_mk (st := s_law_tongue) l9 c9 k9
  have F10 := fun_mk (st := s_law_letters) l10 c10 k10
  have F11 := fun_mk (st := s_law_leaf) l11 c11 k11
  have F12 := fun_mk (st := s_law_wrapped) l12 c12 k12
  have F13 := fun_mk (st := s_law_joined) l13 c13 k13
  have F14 := fun_mk (st := s_law_grown) l14 c14 k14
  have F15 := fun_mk (st := s_law_letter) l15 c15 k15
  have F16 := fun_mk (st := s_law_name) l16 c16 k16
  have F17 := fun_mk (st := s_law_judged) l17 c17 k17
  have F18 := fun_mk (st := s_law_turned) l18 c18 k18
  have F19 := fun_mk (st := slaw) l19 c19 k19
  have m : Blt w K mg := ⟨PySem.W.mg_none_of X G z0,
      PySem.W.mg_none_of X G z1,
      PySem.W.mg_none_of X G z2,
      PySem.W.mg_none_of X G z3,
      PySem.W.mg_none_of X G z4,
      PySem.W.mg_none_of X G z5,
      PySem.W.mg_none_of X G z6,
      PySem.W.mg_none_of X G z7,
      PySem.W.mg_none_of X G z8,
      PySem.W.mg_none_of X G z9,
      PySem.W.mg_none_of X G z10,
      PySem.W.mg_none_of X G z11,
      cdict_of [("not", ktINNER_PLACES0, (.int 1 t1)), ("some", ktINNER_PLACES1, (.int 2 t2)), ("every", ktINNER_PLACES2, (.int 2 t3)), ("least", ktINNER_PLACES3, (.int 3 t4))] X G gINNER_PLACES lINNER_PLACES (show (["not", "some", "every", "least"] : List Str).Nodup by decide +kernel) dINNER_PLACES (.cons (v := (.int 1)) ⟨_, rfl⟩ (fun _ => (.int _)) (.cons (v := (.int 2)) ⟨_, rfl⟩ (fun _ => (.int _)) (.cons (v := (.int 2)) ⟨_, rfl⟩ (fun _ => (.int _)) (.cons (v := (.int 3)) ⟨_, rfl⟩ (fun _ => (.int _)) (.nil))))),
      cdict_of [("mark", ktLENGTHS0, (.int 3 t5)), ("arrow", ktLENGTHS1, (.int 4 t6)), ("same", ktLENGTHS2, (.int 3 t7)), ("not", ktLENGTHS3, (.int 2 t8)), ("and", ktLENGTHS4, (.int 2 t9)), ("or", ktLENGTHS5, (.int 2 t10)), ("some", ktLENGTHS6, (.int 3 t11)), ("every", ktLENGTHS7, (.int 3 t12)), ("least", ktLENGTHS8, (.int 4 t13))] X G gLENGTHS lLENGTHS (show (["mark", "arrow", "same", "not", "and", "or", "some", "every", "least"] : List Str).Nodup by decide +kernel) dLENGTHS (.cons (v := (.int 3)) ⟨_, rfl⟩ (fun _ => (.int _)) (.cons (v := (.int 4)) ⟨_, rfl⟩ (fun _ => (.int _)) (.cons (v := (.int 3)) ⟨_, rfl⟩ (fun _ => (.int _)) (.cons (v := (.int 2)) ⟨_, rfl⟩ (fun _ => (.int _)) (.cons (v := (.int 2)) ⟨_, rfl⟩ (fun _ => (.int _)) (.cons (v := (.int 2)) ⟨_, rfl⟩ (fun _ => (.int _)) (.cons (v := (.int 3)) ⟨_, rfl⟩ (fun _ => (.int _)) (.cons (v := (.int 3)) ⟨_, rfl⟩ (fun _ => (.int _)) (.cons (v := (.int 4)) ⟨_, rfl⟩ (fun _ => (.int _)) (.nil)))))))))),
      ⟨_, (.str "abcdefghijklmnopqrstuvwxyz"), PySem.W.mg_of X G gLETTERS, ⟨_, rfl⟩, fun _ => (.str _)⟩,
      cdict_of [("mark", ktLETTER_PLACES0, (.ref f15c)), ("arrow", ktLETTER_PLACES1, (.ref f17c)), ("same", ktLETTER_PLACES2, (.ref f20c)), ("not", ktLETTER_PLACES3, (.ref f23c)), ("and", ktLETTER_PLACES4, (.ref f24c)), ("or", ktLETTER_PLACES5, (.ref f25c)), ("some", ktLETTER_PLACES6, (.ref f26c)), ("every", ktLETTER_PLACES7, (.ref f28c)), ("least", ktLETTER_PLACES8, (.ref f30c))] X G gLETTER_PLACES lLETTER_PLACES (show (["mark", "arrow", "same", "not", "and", "or", "some", "every", "least"] : List Str).Nodup by decide +kernel) dLETTER_PLACES (.cons (v := (.ref f15c)) rfl (fun _ => (.tup (vs := [(L2.V.int 2)]) (.inr ⟨_, _, n15c, lc15, rfl, rfl, (by show 1 ≤ sizeLine; decide), .cons ⟨_, rfl⟩ (.nil)⟩) (.cons (.int _) (.nil)))) (.cons (v := (.ref f17c)) rfl (fun _ => (.tup (vs := [(L2.V.int 2), (L2.V.int 3)]) (.inr ⟨_, _, n17c, lc17, rfl, rfl, (by show 2 ≤ sizeLine; decide), .cons ⟨_, rfl⟩ (.cons ⟨_, rfl⟩ (.nil))⟩) (.cons (.int _) (.cons (.int _) (.nil))))) (.cons (v := (.ref f20c)) rfl (fun _ => (.tup (vs := [(L2.V.int 1), (L2.V.int 2)]) (.inr ⟨_, _, n20c, lc20, rfl, rfl, (by show 2 ≤ sizeLine; decide), .cons ⟨_, rfl⟩ (.cons ⟨_, rfl⟩ (.nil))⟩) (.cons (.int _) (.cons (.int _) (.nil))))) (.cons (v := (.ref f23c)) rfl (fun _ => (.tup (vs := []) (.inr ⟨_, _, n23c, lc23, rfl, rfl, (by show 0 ≤ sizeLine; decide), .nil⟩) (.nil))) (.cons (v := (.ref f24c)) rfl (fun _ => (.tup (vs := []) (.inr ⟨_, _, n24c, lc24, rfl, rfl, (by show 0 ≤ sizeLine; decide), .nil⟩) (.nil))) (.cons (v := (.ref f25c)) rfl (fun _ => (.tup (vs := []) (.inr ⟨_, _, n25c, lc25, rfl, rfl, (by show 0 ≤ sizeLine; decide), .nil⟩) (.nil))) (.cons (v := (.ref f26c)) rfl (fun _ => (.tup (vs := [(L2.V.int 1)]) (.inr ⟨_, _, n26c, lc26, rfl, rfl, (by show 1 ≤ sizeLine; decide), .cons ⟨_, rfl⟩ (.nil)⟩) (.cons (.int _) (.nil)))) (.cons (v := (.ref f28c)) rfl (fun _ => (.tup (vs := [(L2.V.int 1)]) (.inr ⟨_, _, n28c, lc28, rfl, rfl, (by show 1 ≤ sizeLine; decide), .cons ⟨_, rfl⟩ (.nil)⟩) (.cons (.int _) (.nil)))) (.cons (v := (.ref f30c)) rfl (fun _ => (.tup (vs := [(L2.V.int 2)]) (.inr ⟨_, _, n30c, lc30, rfl, rfl, (by show 1 ≤ sizeLine; decide), .cons ⟨_, rfl⟩ (.nil)⟩) (.cons (.int _) (.nil)))) (.nil)))))))))),
      ⟨_, (.int 9), PySem.W.mg_of X G gMOST_LEAST, ⟨_, rfl⟩, fun _ => (.int _)⟩,
      ⟨_, (.ref f33c), PySem.W.mg_of X G gWORDS, rfl, fun _ => (.tup (vs := [(L2.V.str "and"), (L2.V.str "or"), (L2.V.str "not"), (L2.V.str "some"), (L2.V.str "every"), (L2.V.str "least"), (L2.V.str "true"), (L2.V.str "false")]) (.inr ⟨_, _, n33c, lc33, rfl, rfl, (by show 8 ≤ sizeLine; decide), .cons ⟨_, rfl⟩ (.cons ⟨_, rfl⟩ (.cons ⟨_, rfl⟩ (.cons ⟨_, rfl⟩ (.cons ⟨_, rfl⟩ (.cons ⟨_, rfl⟩ (.cons ⟨_, rfl⟩ (.cons ⟨_, rfl⟩ (.nil))))))))⟩) (.cons (.str _) (.cons (.str _) (.cons (.str _) (.cons (.str _) (.cons (.str _) (.cons (.str _) (.cons (.str _) (.cons (.str _) (.nil))))))))))⟩⟩
  refine ⟨PySem.W.fnOf "law" "law" (defArgs slaw) (defBody slaw) (defScope slaw) .none kV19 dc19 pm19 an19 cd19 ct19, fun s v => .of_eq rfl, fun base _ _ => ?_⟩
  have C_is_whole := calis_whole (P := l.prog) (w := w) (base := base) m  F0 (PySem.W.mg_of X G a0)
  have C_is_name := calis_name (P := l.prog) (w := w) (base := base) m  F1 (PySem.W.mg_of X G a1)
  have C_is_letter := calis_letter (P := l.prog) (w := w) (base := base) m  F2 (PySem.W.mg_of X G a2)
  have C_letters_at := calletters_at (P := l.prog) (w := w) (base := base) m  F3 (PySem.W.mg_of X G a3)
  have C_within := calwithin (P := l.prog) (w := w) (base := base) m  F4 (PySem.W.mg_of X G a4)
  have C_is_well_made := calis_well_made (P := l.prog) (w := w) (base := base) m C_letters_at C_is_letter C_is_name C_is_whole F5 (PySem.W.mg_of X G a5)
  have C_is_saying := calis_saying (P := l.prog) (w := w) (base := base) m C_is_well_made C_within F6 (PySem.W.mg_of X G a6)
  have C__law_cell := cal_law_cell (P := l.prog) (w := w) (base := base) m  F7 (PySem.W.mg_of X G a7)
  have C__law_names := cal_law_names (P := l.prog) (w := w) (base := base) m  F8 (PySem.W.mg_of X G a8)
  have C__law_tongue := cal_law_tongue (P := l.prog) (w := w) (base := base) m C__law_names F9 (PySem.W.mg_of X G a9)
  have C__law_letters := cal_law_letters (P := l.prog) (w := w) (base := base) m  F10 (PySem.W.mg_of X G a10)
  have C__law_leaf := cal_law_leaf (P := l.prog) (w := w) (base := base) m  F11 (PySem.W.mg_of X G a11)
  have C__law_wrapped := cal_law_wrapped (P := l.prog) (w := w) (base := base) m  F12 (PySem.W.mg_of X G a12)
  have C__law_joined := cal_law_joined (P := l.prog) (w := w) (base := base) m  F13 (PySem.W.mg_of X G a13)
  have C__law_grown := cal_law_grown (P := l.prog) (w := w) (base := base) m C__law_leaf C__law_joined C__law_wrapped F14 (PySem.W.mg_of X G a14)
  have C__law_letter := cal_law_letter (P := l.prog) (w := w) (base := base) m  F15 (PySem.W.mg_of X G a15)
  have C__law_name := cal_law_name (P := l.prog) (w := w) (base := base) m  F16 (PySem.W.mg_of X G a16)
  have C__law_judged := cal_law_judged (P := l.prog) (w := w) (base := base) m C__law_name C__law_letter F17 (PySem.W.mg_of X G a17) 60
  have C__law_turned := cal_law_turned (P := l.prog) (w := w) (base := base) m  F18 (PySem.W.mg_of X G a18)
  exact oklaw m C__law_cell C__law_tongue C__law_letters C__law_grown C_is_saying C__law_judged C__law_turned F19
theorem sp_main (K : PySem.W.Frag) (H : Hp) (a : Addr) (ns : List Int) (hl : ns.length ≤ 63) (hO : Only H) (hS : SqL K H a (ns.map V.int)) : spD K 1 K11.Flaw [.ref a] H (fun v _ => v = .bl true) fun _ _ _ => False := by
  refine ⟨fun _ => none, [.bor (ns.map D.int)], fun _ _ z => (by cases z), rfl, ⟨_, [], rfl, ⟨a, _, rfl, hS, ?_⟩, rfl⟩, ?_⟩
  · exact K01.reps_ints ns
  · rw [main_ok ns hl]
    intro v J H2 _ r
    cases r
    rfl
theorem walk {l : PySem.W.OpenLaw} {q : Program} {loose : List Str} {XP : (Str → Option Value) → Heap → Prop} {YP : World → Heap → Prop} {d : DefRec} {K : Params → PySem.W.Frag} (hn : l.most = some 63) (hdf : d.params.defaults = [])
    (hY : ∀ (w : World) (h : Heap), YP w h → (K w.params).In h)
    (F : ∀ (w : World) (mg : Str → Option Value) (fa : Addr) (h : Heap), (K w.params).In h → h.Ns mainGlobals mg → mg d.name = some (.ref fa) →
      ∃ fd : FuncData, (∀ (s : Shared) (u : Value), BindsTo s fd ⟨[u], []⟩ [("_law_script", u)]) ∧ ∀ base : Heap, (K w.params).In base → base.Ns mainGlobals mg → FnOk l.prog w (K w.params) mg base CX0 62 fa fd ["_law_script"] (spD (K w.params) 1 K11.Flaw)) :
    PySem.W.WalkO q loose XP YP l.row.toRowW d [] (fun f vs => PySem.call f vs) :=
  L2.walk_of (n := 63) (k := 62) (x := "_law_script") (CX := fun _ => CX0) (sp := fun w => spD (K w.params) 1 K11.Flaw) hn (by decide) hdf ⟨rfl, by decide, by decide⟩ hY F (fun w H a ns hl hO hS => sp_main _ H a ns hl hO hS) fun _ _ _ _ _ z => z
end K11
open PySem PySem.W PyProof.Rows
set_option maxRecDepth 100000 in
set_option maxHeartbeats 0 in
theorem PySem.Challenge.cw_pickalike_k11_what_is_a_saying_holds : PySem.Challenge.rw_pickalike_k11_what_is_a_saying.Holds := by
  w_on; o_law; k_head; (case hw => w_witness2)
  k_fill
  refine K11.walk (l := PySem.Challenge.rw_pickalike_k11_what_is_a_saying) rfl rfl (fun w h Y => PySem.W.kIn_of Y) ?F
  case F =>
    intro w mg fa h KX G hmg
    refine' K11.all_mk KX G hmg ?a0 ?l0 ?c0 ?k0 ?a1 ?l1 ?c1 ?k1 ?a2 ?l2 ?c2 ?k2 ?a3 ?l3 ?c3 ?k3 ?a4 ?l4 ?c4 ?k4 ?a5 ?l5 ?c5 ?k5 ?a6 ?l6 ?c6 ?k6 ?a7 ?l7 ?c7 ?k7 ?a8 ?l8 ?c8 ?k8 ?a9 ?l9 ?c9 ?k9 ?a10 ?l10 ?c10 ?k10 ?a11 ?l11 ?c11 ?k11 ?a12 ?l12 ?c12 ?k12 ?a13 ?l13 ?c13 ?k13 ?a14 ?l14 ?c14 ?k14 ?a15 ?l15 ?c15 ?k15 ?a16 ?l16 ?c16 ?k16 ?a17 ?l17 ?c17 ?k17 ?a18 ?l18 ?c18 ?k18 ?a19 ?l19 ?c19 ?k19 ?z0 ?z1 ?z2 ?z3 ?z4 ?z5 ?z6 ?z7 ?z8 ?z9 ?z10 ?z11 ?gINNER_PLACES ?lINNER_PLACES ?gLENGTHS ?lLENGTHS ?gLETTERS ?gLETTER_PLACES ?lLETTER_PLACES ?lc15 ?lc17 ?lc20 ?lc23 ?lc24 ?lc25 ?lc26 ?lc28 ?lc30 ?gMOST_LEAST ?gWORDS ?lc33 ?dINNER_PLACES ?dLENGTHS ?dLETTER_PLACES
    (case a0 => k_is)
    (case l0 => k_is)
    (case c0 => k_is)
    (case k0 => k_is)
    (case a1 => k_is)
    (case l1 => k_is)
    (case c1 => k_is)
    (case k1 => k_is)
    (case a2 => k_is)
    (case l2 => k_is)
    (case c2 => k_is)
    (case k2 => k_is)
    (case a3 => k_is)
    (case l3 => k_is)
    (case c3 => k_is)
    (case k3 => k_is)
    (case a4 => k_is)
    (case l4 => k_is)
    (case c4 => k_is)
    (case k4 => k_is)
    (case a5 => k_is)
    (case l5 => k_is)
    (case c5 => k_is)
    (case k5 => k_is)
    (case a6 => k_is)
    (case l6 => k_is)
    (case c6 => k_is)
    (case k6 => k_is)
    (case a7 => k_is)
    (case l7 => k_is)
    (case c7 => k_is)
    (case k7 => k_is)
    (case a8 => k_is)
    (case l8 => k_is)
    (case c8 => k_is)
    (case k8 => k_is)
    (case a9 => k_is)
    (case l9 => k_is)
    (case c9 => k_is)
    (case k9 => k_is)
    (case a10 => k_is)
    (case l10 => k_is)
    (case c10 => k_is)
    (case k10 => k_is)
    (case a11 => k_is)
    (case l11 => k_is)
    (case c11 => k_is)
    (case k11 => k_is)
    (case a12 => k_is)
    (case l12 => k_is)
    (case c12 => k_is)
    (case k12 => k_is)
    (case a13 => k_is)
    (case l13 => k_is)
    (case c13 => k_is)
    (case k13 => k_is)
    (case a14 => k_is)
    (case l14 => k_is)
    (case c14 => k_is)
    (case k14 => k_is)
    (case a15 => k_is)
    (case l15 => k_is)
    (case c15 => k_is)
    (case k15 => k_is)
    (case a16 => k_is)
    (case l16 => k_is)
    (case c16 => k_is)
    (case k16 => k_is)
    (case a17 => k_is)
    (case l17 => k_is)
    (case c17 => k_is)
    (case k17 => k_is)
    (case a18 => k_is)
    (case l18 => k_is)
    (case c18 => k_is)
    (case k18 => k_is)
    (case a19 => k_is)
    (case l19 => k_is)
    (case c19 => k_is)
    (case k19 => k_is)
    (case z0 => k_is)
    (case z1 => k_is)
    (case z2 => k_is)
    (case z3 => k_is)
    (case z4 => k_is)
    (case z5 => k_is)
    (case z6 => k_is)
    (case z7 => k_is)
    (case z8 => k_is)
    (case z9 => k_is)
    (case z10 => k_is)
    (case z11 => k_is)
    (case gINNER_PLACES => k_is)
    (case lINNER_PLACES => k_is)
    (case gLENGTHS => k_is)
    (case lLENGTHS => k_is)
    (case gLETTERS => k_is)
    (case gLETTER_PLACES => k_is)
    (case lLETTER_PLACES => k_is)
    (case lc15 => k_is)
    (case lc17 => k_is)
    (case lc20 => k_is)
    (case lc23 => k_is)
    (case lc24 => k_is)
    (case lc25 => k_is)
    (case lc26 => k_is)
    (case lc28 => k_is)
    (case lc30 => k_is)
    (case gMOST_LEAST => k_is)
    (case gWORDS => k_is)
    (case lc33 => k_is)
    (case dINNER_PLACES => decide)
    (case dLENGTHS => decide)
    (case dLETTER_PLACES => decide)
