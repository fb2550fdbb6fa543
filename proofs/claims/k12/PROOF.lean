import PyProof.Rows.All
import Wide.All
import OpenK.AllK
import Wide.FinOn
import Lean
import PyProof.EqAt
import PyProof.EqKinds
import PyProof.TupleCall
import PySem.Challenge.RW_eggfloors_k12_texts_refused
set_option Elab.async false
set_option linter.all false
set_option maxRecDepth 100000
/-! THE HAND LAYER, for ints, bools, texts, own classes, LISTS and tuples (index, slices, in, append, pop ..), calls, loops. Paste it whole ahead of your own text; what your proof does not reach may be deleted. -/
namespace L2
open PySem PySem.Spec PyProof.Rows

/-- a key: an int or a str -/
abbrev Key := Sum Int Str
def keyIs : Key → Value → Bool
  | .inl k, v => Value.isInt k v
  | .inr x, v => Value.isStrOf x v
def keyH (w : World) : Key → Int
  | .inl k => hashInt k
  | .inr x => hashStr w x
theorem keyIs_shape : ∀ {k : Key} {v : Value}, keyIs k v = true → (∃ i t, k = Sum.inl i ∧ v = Value.int i t) ∨ (∃ x t, k = Sum.inr x ∧ v = Value.str x t)
  | .inl i, v, h => by
    obtain ⟨t, e⟩ := Value.isInt_shape (k := i) (v := v) h
    exact .inl ⟨i, t, rfl, e⟩
  | .inr x, v, h => by
    obtain ⟨t, e⟩ := Value.isStrOf_shape (x := x) (v := v) h
    exact .inr ⟨x, t, rfl, e⟩
theorem key_ll (a b : Int) : decide ((Sum.inl a : Key) = Sum.inl b) = (a == b) := by
  by_cases e : a = b
  · subst e; simp
  · have h : ¬ (Sum.inl a : Key) = Sum.inl b := fun q => e (Sum.inl.inj q)
    rw [decide_eq_false h]
    exact (beq_eq_false_iff_ne.mpr e).symm
theorem key_rr (a b : Str) : decide ((Sum.inr a : Key) = Sum.inr b) = decide (a = b) := by
  by_cases e : a = b
  · subst e; simp
  · have h : ¬ (Sum.inr a : Key) = Sum.inr b := fun q => e (Sum.inr.inj q)
    rw [decide_eq_false h, decide_eq_false e]
theorem key_lr (a : Int) (b : Str) : decide ((Sum.inl a : Key) = Sum.inr b) = false := decide_eq_false (fun q => nomatch q)
theorem key_rl (a : Str) (b : Int) : decide ((Sum.inr a : Key) = Sum.inl b) = false := decide_eq_false (fun q => nomatch q)

def mixKind (prog : Program) (w : World) : PySem.KeyKind prog w Key where
  is := keyIs
  hash := keyH w
  inj := fun v a b ha hb => by
    rcases keyIs_shape ha with ⟨i, t, rfl, rfl⟩ | ⟨x, t, rfl, rfl⟩
    · rcases keyIs_shape hb with ⟨j, u, rfl, e⟩ | ⟨y, u, rfl, e⟩
      · injection e with e1 _; rw [e1]
      · exact nomatch e
    · rcases keyIs_shape hb with ⟨j, u, rfl, e⟩ | ⟨y, u, rfl, e⟩
      · exact nomatch e
      · injection e with e1 _; rw [e1]
  byValue := fun k v h => by
    rcases keyIs_shape h with ⟨i, t, rfl, rfl⟩ | ⟨x, t, rfl, rfl⟩ <;> rfl
  pyHash := fun hv h => by
    rcases keyIs_shape hv with ⟨i, t, rfl, rfl⟩ | ⟨x, t, rfl, rfl⟩
    · exact wpAny_pyHash_int h
    · exact wpAny_pyHash_str h
  eqBool := fun hu hv h => by
    rcases keyIs_shape hu with ⟨i, t, rfl, rfl⟩ | ⟨x, t, rfl, rfl⟩
    · rcases keyIs_shape hv with ⟨j, u, rfl, rfl⟩ | ⟨y, u, rfl, rfl⟩
      · rw [key_ll] at h; exact wpAny_eqBool_int h
      · rw [key_lr] at h; exact SeqAt.EqAt.int_str i t y u _ _ _ _ h
    · rcases keyIs_shape hv with ⟨j, u, rfl, rfl⟩ | ⟨y, u, rfl, rfl⟩
      · rw [key_rl] at h; exact SeqAt.EqAt.str_int x t j u _ _ _ _ h
      · rw [key_rr] at h; exact wpAny_eqBool_str h
  «strs» := fun k x t v h => by
    rcases keyIs_shape h with ⟨i, u, rfl, e⟩ | ⟨y, u, rfl, e⟩
    · exact nomatch e
    · injection e with e1 _
      subst e1
      cases v <;> rfl

end L2

namespace L2
open PySem PySem.Spec PyProof.Rows

/-- a value, without the heap -/
inductive V where
  | non | bl (b : Bool) | int (i : Int) | str (x : Str) | byt (b : Array UInt8) | flt (b : UInt64) | ref (a : Addr) | ty (n : String)
  deriving DecidableEq

def RelV : V → Value → Prop
  | .non, u => u = Value.none
  | .bl b, u => u = Value.bool b
  | .int i, u => ∃ t, u = Value.int i t
  | .str x, u => ∃ t, u = Value.str x t
  | .byt b, u => ∃ t, u = Value.bytes b t
  | .flt b, u => ∃ t, u = Value.float b t
  | .ref a, u => u = Value.ref a
  | .ty n, u => u = Value.type n

abbrev Vals : List V → List Value → Prop := Paired RelV
theorem Vals.length {xs : List V} {us : List Value} (r : Vals xs us) : xs.length = us.length := Paired.length r
theorem Vals.get : ∀ {xs : List V} {us : List Value} {i : Nat} {x : V}, Vals xs us → xs[i]? = some x → ∃ u, us[i]? = some u ∧ RelV x u
  | _, _, _, _, .nil, e => by simp at e
  | _, _, 0, _, .cons r _, e => by simp at e; subst e; exact ⟨_, rfl, r⟩
  | _, _, i + 1, x, .cons _ t, e => by
    obtain ⟨u, h1, h2⟩ := Vals.get (i := i) (x := x) t (by simpa using e)
    exact ⟨u, by simpa using h1, h2⟩
theorem Vals.append : ∀ {xs ys : List V} {us ws : List Value}, Vals xs us → Vals ys ws → Vals (xs ++ ys) (us ++ ws)
  | _, _, _, _, .nil, s => s
  | _, _, _, _, .cons r t, s => .cons r (Vals.append t s)
theorem Vals.take : ∀ {xs : List V} {us : List Value} (n : Nat), Vals xs us → Vals (xs.take n) (us.take n)
  | _, _, 0, _ => .nil
  | _, _, _ + 1, .nil => .nil
  | _, _, n + 1, .cons r t => .cons r (Vals.take n t)
theorem Vals.drop : ∀ {xs : List V} {us : List Value} (n : Nat), Vals xs us → Vals (xs.drop n) (us.drop n)
  | _, _, 0, r => r
  | _, _, _ + 1, .nil => .nil
  | _, _, n + 1, .cons _ t => Vals.drop n t
def RelO : Option V → Option Value → Prop
  | some v, some u => RelV v u
  | none, none => True
  | _, _ => False
def KV {κ : Type} : List (κ × V) → List (κ × Value) → Prop := Paired fun (p : κ × V) (q : κ × Value) => p.1 = q.1 ∧ RelV p.2 q.2

/-- a key of a dict (00_mix): an int or a text -/
def kV : Key → V
  | .inl i => .int i
  | .inr x => .str x

/-- what stands at a tracked address -/
inductive HO where
  /-- a list -/
  | lst (xs : List V)
  /-- a tuple (never changes) -/
  | tup (xs : List V)
  /-- a dict whose keys are ints and texts; one whose keys are tuples of ints and texts (the empty one is both) -/
  | dK (kvs : List (Key × V)) | dT (kvs : List (List Key × V))
  /-- a set of ints: its members, its size -/
  | set (S : Int → Bool) (n : Nat)
  /-- an instance of the class at C, its dict at dx, its attributes -/
  | ins (C dx : Addr) (fs : List (Str × V))
  /-- the dict of the instance at x -/
  | own (x : Addr)
  /-- the dict of an exception -/
  | xd (fs : List (Str × V))
  /-- a bound method, f of x -/
  | met (f x : Addr)
  /-- a range object lo, lo + 1, .. below hi -/
  | rng (lo hi : Int)
  /-- a thing that is known to the object (the script; a dict while a loop walks it): read, never written while it is so -/
  | frz (o : Obj) (u : HO)
  /-- a code object's table -/
  | tbl (ps : Array Value)
  /-- any other thing, by what is true of its one object (a def of one's own: SetO a S n := HO.ext fun h => ..) -/
  | ext (φ : Heap → Prop)

abbrev Hp := Addr → Option HO
def upd (H : Hp) (a : Addr) (o : HO) : Hp := fun b => if b = a then some o else H b
theorem upd_same {H : Hp} {a : Addr} {o : HO} : upd H a o a = some o := by unfold upd; rw [if_pos rfl]
theorem upd_ne {H : Hp} {a b : Addr} {o : HO} (h : b ≠ a) : upd H a o b = H b := by unfold upd; rw [if_neg h]
/-- two objects of different content stand apart -/
theorem ne_of {H : Hp} {a b : Addr} {o u : HO} (h : H a = some o) (h' : H b = some u) (d : o ≠ u) : a ≠ b := by
  intro e; subst e; rw [h] at h'; exact d (Option.some.inj h')
theorem ne_of_none {H : Hp} {a b : Addr} {o : HO} (h : H a = some o) (h' : H b = none) : a ≠ b := by
  intro e; subst e; rw [h] at h'; cases h'

section
variable (P : Program) (w : World)
def ObjOk (H : Hp) (h : Heap) (a : Addr) : HO → Prop
  | .lst xs => xs.length ≤ sizeLine ∧ ∃ (its : List Value) (n : Nat), Vals xs its ∧ h.get? a = some { cls := .type "list", data := .seq its.toArray n }
  | .tup xs => xs.length ≤ sizeLine ∧ ∃ its : List Value, Vals xs its ∧ IsTup h a its.toArray
  | .dK kvs => kvs.length ≤ sizeLine ∧ (a == sysModules) = false ∧ ∃ vs, KV kvs vs ∧ h.DictOf (mixKind P w) a vs
  | .dT kvs => kvs.length ≤ sizeLine ∧ (a == sysModules) = false ∧ ∃ xs : List (List Key × Addr × Value),
      Paired (fun (p : List Key × V) (q : List Key × Addr × Value) => p.1 = q.1 ∧ H q.2.1 = some (.tup (p.1.map kV)) ∧ RelV p.2 q.2.2) kvs xs ∧
      ∃ o es ep, h.get? a = some o ∧ o.ExactDict ∧ o.data = .dict es ep ∧ es.toList = xs.map (entryOfKey (tupleKind (mixKind P w))) ∧ (xs.map (·.1)).Nodup
  | .set S n => h.SetOf (intKind P w) a S n
  | .ins C dx fs => H dx = some (.own a) ∧ fs.length ≤ 1000 ∧ dx ≠ a ∧ h.get? a = some (PySem.W.instObj C dx) ∧
      ∃ mA, h.Ns1 dx mA ∧ (∀ f, RelO (fs.lookup f) (mA f)) ∧ PySem.Within mA (fs.map (·.1))
  | .own _ => ∃ o, h.get? a = some o
  | .xd fs => ∃ mA, h.Ns1 a mA ∧ ∀ f, RelO (fs.lookup f) (mA f)
  | .rng lo hi => ∃ t u v, h.get? a = some { cls := .type "range", data := .fields #[.int lo t, .int hi u, .int 1 v] }
  | .frz o u => h.get? a = some o ∧ ObjOk H h a u
  | .tbl ps => h.get? a = some { cls := .none, data := .fields ps }
  | .met f x => h.get? a = some (PySem.W.methodObj (.ref f) (.ref x))
  | .ext φ => φ h ∧ (∃ o, h.get? a = some o) ∧ ∀ h1 h2 : Heap, φ h1 → (∀ o, h1.get? a = some o → h2.get? a = some o) → φ h2
/-- the abstract heap is held -/
def HOk (H : Hp) (h : Heap) : Prop := ∀ a o, H a = some o → ObjOk P w H h a o
end

section
variable {P : Program} {w : World} {H H' : Hp} {h h' : Heap} {a : Addr} {o : HO}
theorem ObjOk.lt (x : ObjOk P w H h a o) : a < h.objs.size := by
  cases o with
  | lst xs => obtain ⟨_, _, _, _, e⟩ := x; exact Heap.lt_size e
  | tup xs => obtain ⟨_, _, _, p⟩ := x; exact p.lt
  | dK kvs => obtain ⟨_, _, _, _, o, _, _, e, _⟩ := x; exact Heap.lt_size e
  | dT kvs => obtain ⟨_, _, _, _, o, _, _, e, _⟩ := x; exact Heap.lt_size e
  | set S n => obtain ⟨o, _, _, _, e, _⟩ := x; exact Heap.lt_size e
  | ins C dx fs => obtain ⟨_, _, _, e, _⟩ := x; exact Heap.lt_size e
  | own y => obtain ⟨_, e⟩ := x; exact Heap.lt_size e
  | xd fs => obtain ⟨_, ⟨_, _, _, e, _⟩, _⟩ := x; exact Heap.lt_size e
  | rng lo hi => obtain ⟨_, _, _, e⟩ := x; exact Heap.lt_size e
  | frz ob u => obtain ⟨e, _⟩ := x; exact Heap.lt_size e
  | tbl ps => exact Heap.lt_size (show h.get? a = some _ from x)
  | met f y => exact Heap.lt_size (show h.get? a = some _ from x)
  | ext φ => obtain ⟨_, ⟨_, e⟩, _⟩ := x; exact Heap.lt_size e
theorem Paired.mapP {α β : Type} {F G : α → β → Prop} : ∀ {l₁ : List α} {l₂ : List β}, Paired F l₁ l₂ → (∀ a b, F a b → G a b) → Paired G l₁ l₂
  | _, _, .nil, _ => .nil
  | _, _, .cons r t, f => .cons (f _ _ r) (Paired.mapP t f)
/-- what an object's description leans on: its own object, its own dict, the tuples -/
theorem ObjOk.stay (x : ObjOk P w H h a o) (k : ∀ b u, (b = a ∨ H b = some (.own a)) → h.get? b = some u → h'.get? b = some u)
    (ho : ∀ b, H b = some (.own a) → H' b = some (.own a)) (ht : ∀ b xs, H b = some (.tup xs) → H' b = some (.tup xs)) : ObjOk P w H' h' a o := by
  induction o with
  | lst xs => obtain ⟨z, its, n, r, e⟩ := x; exact ⟨z, its, n, r, k _ _ (.inl rfl) e⟩
  | tup xs => obtain ⟨z, its, r, ob, e, c⟩ := x; exact ⟨z, its, r, ob, k _ _ (.inl rfl) e, c⟩
  | dK kvs => obtain ⟨z, y, vs, r, ob, es, ep, e, c⟩ := x; exact ⟨z, y, vs, r, ob, es, ep, k _ _ (.inl rfl) e, c⟩
  | dT kvs =>
    obtain ⟨z, y, xs, r, ob, es, ep, e, c⟩ := x
    exact ⟨z, y, xs, Paired.mapP r fun p q z => ⟨z.1, ht _ _ z.2.1, z.2.2⟩, ob, es, ep, k _ _ (.inl rfl) e, c⟩
  | set S n => obtain ⟨ob, es, ep, t, e, c⟩ := x; exact ⟨ob, es, ep, t, k _ _ (.inl rfl) e, c⟩
  | ins C dx fs =>
    obtain ⟨d, z, ne, e, mA, ⟨od, es, ep, e2, c⟩, r⟩ := x
    exact ⟨ho _ d, z, ne, k _ _ (.inl rfl) e, mA, ⟨od, es, ep, k _ _ (.inr d) e2, c⟩, r⟩
  | own y => obtain ⟨ob, e⟩ := x; exact ⟨ob, k _ _ (.inl rfl) e⟩
  | xd fs => obtain ⟨mA, ⟨od, es, ep, e, c⟩, r⟩ := x; exact ⟨mA, ⟨od, es, ep, k _ _ (.inl rfl) e, c⟩, r⟩
  | rng lo hi => obtain ⟨t, u, v, e⟩ := x; exact ⟨t, u, v, k _ _ (.inl rfl) e⟩
  | frz ob u ih => obtain ⟨e, q⟩ := x; exact ⟨k _ _ (.inl rfl) e, ih q⟩
  | tbl ps =>
    have e : h.get? a = some { cls := .none, data := .fields ps } := x
    show h'.get? a = some { cls := .none, data := .fields ps }
    exact k a _ (.inl rfl) e
  | met f y =>
    have e : h.get? a = some (PySem.W.methodObj (.ref f) (.ref y)) := x
    show h'.get? a = some (PySem.W.methodObj (.ref f) (.ref y))
    exact k a _ (.inl rfl) e
  | ext φ => obtain ⟨p, ⟨o, e⟩, st⟩ := x; exact ⟨st _ _ p fun o q => k _ _ (.inl rfl) q, ⟨o, k _ _ (.inl rfl) e⟩, st⟩
theorem HOk.lt (x : HOk P w H h) (e : H a = some o) : a < h.objs.size := (x a o e).lt
theorem HOk.fresh (x : HOk P w H h) (e : h.objs.size ≤ a) : H a = none := by
  cases q : H a with
  | none => rfl
  | some u => exact absurd (Nat.lt_of_lt_of_le (x.lt q) e) (Nat.lt_irrefl _)
/-- every object of the heap is kept -/
theorem HOk.kept (x : HOk P w H h) (k : ∀ b u, h.get? b = some u → h'.get? b = some u) : HOk P w H h' := fun a o e =>
  (x a o e).stay (fun b u _ q => k b u q) (fun _ q => q) fun _ _ q => q
/-- a new object is laid and tracked -/
theorem HOk.laid (x : HOk P w H h) (k : ∀ b u, h.get? b = some u → h'.get? b = some u) (hp : h.objs.size ≤ a) (new : ObjOk P w (upd H a o) h' a o) : HOk P w (upd H a o) h' := fun b u e => by
  have hn := x.fresh hp
  by_cases hb : b = a
  · subst hb; rw [upd_same] at e; cases e; exact new
  · rw [upd_ne hb] at e
    exact (x b u e).stay (fun c v _ q => k c v q) (fun c q => by rw [upd_ne (ne_of_none q hn)]; exact q) fun c xs q => by rw [upd_ne (ne_of_none q hn)]; exact q
end

/-- what may be read as u: it is u, or a known u -/
def Rd (H : Hp) (a : Addr) (u : HO) : Prop := H a = some u ∨ ∃ o, H a = some (.frz o u)
theorem Rd.ok {P : Program} {w : World} {H : Hp} {h : Heap} {a : Addr} {u : HO} (r : Rd H a u) (x : HOk P w H h) : ObjOk P w H h a u := by
  rcases r with r | ⟨o, r⟩
  · exact x a u r
  · obtain ⟨_, q⟩ := x a _ r
    exact q
/-- what may be written -/
def Mut : Option HO → Prop
  | some (.lst _) => True
  | some (.dK _) => True
  | some (.dT _) => True
  | some (.set _ _) => True
  | some (.ins _ _ _) => True
  | some (.ext _) => True
  | _ => False
section
variable {P : Program} {w : World} {H : Hp} {h h' : Heap} {x e : Addr} {o' : HO}
/-- the object at e is changed: x itself, or the dict of the instance x -/
theorem HOk.write (ok : HOk P w H h) (mu : Mut (H x)) (he : e = x ∨ H e = some (.own x)) (k : ∀ b u, b ≠ e → h.get? b = some u → h'.get? b = some u) (heo : ∃ u, h'.get? e = some u)
    (new : ObjOk P w (upd H x o') h' x o') : HOk P w (upd H x o') h' := fun b u q => by
  have nown : ∀ c y, H c = some (.own y) → c ≠ x := fun c y r z => by subst z; rw [r] at mu; exact mu
  have ntup : ∀ c xs, H c = some (.tup xs) → c ≠ x := fun c xs r z => by subst z; rw [r] at mu; exact mu
  by_cases hb : b = x
  · subst hb; rw [upd_same] at q; cases q; exact new
  · rw [upd_ne hb] at q
    by_cases hbe : b = e
    · have q' : H b = some (.own x) := by
        rcases he with z | z
        · exact absurd (hbe.trans z) hb
        · rw [hbe]; exact z
      rw [q] at q'; cases q'
      obtain ⟨v, hv⟩ := heo
      exact ⟨v, by rw [hbe]; exact hv⟩
    · refine (ok b u q).stay (fun c v hc r => k c v ?_ r) (fun c r => by rw [upd_ne (nown c b r)]; exact r) fun c xs r => by rw [upd_ne (ntup c xs r)]; exact r
      rcases hc with rfl | hc
      · exact hbe
      · rintro rfl
        rcases he with z | z
        · exact nown c b hc z
        · rw [hc] at z; cases z; exact hb rfl
end

/-! ### kept unless tracked; of the frames at fs (the callers') the slots may change (an exception that passes writes there); of the records at ex (iterators) nothing is said -/
structure Un (fs ex : List Addr) (H H' : Hp) (h h' : Heap) : Prop where
  keep : ∀ b o, h.get? b = some o → H b = none → b ∉ fs → b ∉ ex → h'.get? b = some o
  slot : ∀ b o, h.get? b = some o → H b = none → b ∈ fs → b ∉ ex → ∃ sl, h'.get? b = some { o with slots := sl }
  free : ∀ b o, h.get? b = some o → H b = none → b ∉ ex → H' b = none
  there : ∀ b o, h.get? b = some o → b ∉ ex → ∃ o', h'.get? b = some o'
  tups : ∀ b xs, H b = some (.tup xs) → H' b = some (.tup xs)
  frzs : ∀ b o u, H b = some (.frz o u) → H' b = some (.frz o u)
  tbls : ∀ b ps, H b = some (.tbl ps) → ∃ more, H' b = some (.tbl (ps ++ more))
section
variable {fs fs' ex ex' : List Addr} {H H1 H2 : Hp} {h h1 h2 h' : Heap} {a x e : Addr} {o : HO}
theorem Un.any (u : Un fs ex H H1 h h1) {b : Addr} {ob : Obj} (q : h.get? b = some ob) (n : H b = none) (hx : b ∉ ex) : ∃ sl, h1.get? b = some { ob with slots := sl } := by
  by_cases hb : b ∈ fs
  · exact u.slot b ob q n hb hx
  · exact ⟨ob.slots, u.keep b ob q n hb hx⟩
theorem Un.kept (k : ∀ b u, h.get? b = some u → h'.get? b = some u) : Un fs ex H H h h' :=
  ⟨fun b ob q _ _ _ => k b ob q, fun b ob q _ _ _ => ⟨ob.slots, k b ob q⟩, fun _ _ _ n _ => n, fun b ob q _ => ⟨ob, k b ob q⟩, fun _ _ q => q, fun _ _ _ q => q, fun _ ps q => ⟨#[], by rw [q]; simp⟩⟩
theorem Un.refl : Un fs ex H H h h := Un.kept fun _ _ q => q
theorem Un.laid (k : ∀ b u, h.get? b = some u → h'.get? b = some u) (hp : h.objs.size ≤ a) (hn : H a = none) : Un fs ex H (upd H a o) h h' where
  keep := fun b u q _ _ _ => k b u q
  slot := fun b u q _ _ _ => ⟨u.slots, k b u q⟩
  free := fun b u q n _ => by rw [upd_ne (Nat.ne_of_lt (Nat.lt_of_lt_of_le (Heap.lt_size q) hp))]; exact n
  there := fun b u q _ => ⟨u, k b u q⟩
  tups := fun b xs q => by rw [upd_ne (ne_of_none q hn)]; exact q
  frzs := fun b u xs q => by rw [upd_ne (ne_of_none q hn)]; exact q
  tbls := fun b ps q => ⟨#[], by rw [upd_ne (ne_of_none q hn), q]; simp⟩
theorem Un.write (mu : Mut (H x)) (he : e = x ∨ H e = some (.own x)) (k : ∀ b u, b ≠ e → h.get? b = some u → h'.get? b = some u) (heo : ∃ u, h'.get? e = some u) : Un fs ex H (upd H x o) h h' := by
  have hx : ∀ b, H b = none → b ≠ x := fun b n z => by subst z; rw [n] at mu; exact mu
  have hb : ∀ b, H b = none → b ≠ e := fun b n z => by
    subst z
    rcases he with r | r
    · exact hx b n r
    · rw [n] at r; cases r
  have hm : ∀ b u, H b = some u → ¬ Mut (some u) → b ≠ x := fun b u q nm z => by subst z; rw [q] at mu; exact nm mu
  refine ⟨fun b u q n _ _ => k b u (hb b n) q, fun b u q n _ _ => ⟨u.slots, k b u (hb b n) q⟩, fun b u q n _ => by rw [upd_ne (hx b n)]; exact n, fun b u q _ => ?_,
    fun b xs q => by rw [upd_ne (hm b _ q fun z => z)]; exact q, fun b u xs q => by rw [upd_ne (hm b _ q fun z => z)]; exact q, fun b ps q => ⟨#[], by rw [upd_ne (hm b _ q fun z => z), q]; simp⟩⟩
  by_cases hbe : b = e
  · subst hbe; exact heo
  · exact ⟨u, k b u hbe q⟩
end

/-! ### the heap without what is tracked -/
def trk (h : Heap) (H : Hp) : List Addr := (List.range h.objs.size).filter fun a => (H a).isSome
def hidT (h : Heap) (H : Hp) : Heap := PySem.W.hideAll h (trk h H)
theorem hidT_size (h : Heap) (H : Hp) : (hidT h H).objs.size = h.objs.size := PySem.W.hideAll_size _ _
theorem hidT_get {h : Heap} {H : Hp} {b : Addr} {o : Obj} (e : h.get? b = some o) (n : H b = none) : (hidT h H).get? b = some o :=
  PySem.W.hideAll_get _ e fun hm => by
    have q : (H b).isSome = true := (List.mem_filter.mp hm).2
    rw [n] at q; simp at q
theorem of_hidT {h : Heap} {H : Hp} {b : Addr} {o : Obj} (e : (hidT h H).get? b = some o) : h.get? b = some o ∧ H b = none := by
  have e' : h.get? b = some o := PySem.W.of_hideAll (trk h H) e
  refine ⟨e', ?_⟩
  cases q : H b with
  | none => rfl
  | some x =>
    have hm : b ∈ trk h H := List.mem_filter.mpr ⟨List.mem_range.mpr (Heap.lt_size e'), by simp [q]⟩
    have z : (hidT h H).get? b = none := PySem.W.hideAll_none (trk h H) hm
    rw [z] at e; cases e

/-! ### OpenK's ledger, filled with every new object but one -/
def allNews (g h : Heap) (L : Addr) : List (Addr × Obj) := (List.range h.objs.size).filterMap fun a => if a = L ∨ (g.get? a).isSome = true then none else (h.get? a).map fun o => (a, o)
def rest (g h : Heap) (L d : Addr) : List (Addr × Obj) := (allNews g h L).filter fun p => decide (p.1 ≠ d)
end L2

namespace L2
open PySem PySem.Spec PyProof.Rows

/-- the module's facts, over the base: the heap at the law's entry without what is tracked there -/
structure Mod (K : PySem.W.Frag) (mg : Str → Option Value) (base : Heap) : Prop where
  kin : K.In base
  glob : base.Ns mainGlobals mg
  blt : ∃ mb, base.Ns builtinsNs mb ∧ ∀ x : Str, x ≠ "__name__" → mb x = bootBuiltins x
  nolimit : base.NoLimit

/-- the context: a def's body (or a comprehension's block) running. base: fixed through the whole law; s₀, H₀: the entry; outer: the frames whose slots others may change (a def's callers); stack: all frames that run;
   ex: iterators that were made ahead of the entry and are walked here (a comprehension's); fn: the names whose cells were made at the entry (a def: all; a comprehension's block: its own); calm: not within an except suite; pn: pins that every state bears; xe: what is wanted of an exception that leaves the code -/
structure Cx where
  prog : Program
  w : World
  K : PySem.W.Frag
  mg : Str → Option Value
  base : Heap
  A : Around
  N : List Str
  s₀ : Shared
  H₀ : Hp
  env : Env
  outer : List Env
  stack : List Env
  ex : List Addr
  fn : Str → Bool
  calm : Bool
  pn : List (Addr × Obj)
  xe : Value → Shared → Prop
/-- the callers' frames -/
def frs (l : List Env) : List Addr := l.filterMap (·.frame)
abbrev Cx.fs (X : Cx) : List Addr := frs X.outer

def Vis (sc : Scope) (x : Str) : Prop := sc.names.lookup x = some .local ∨ sc.names.lookup x = some .cell ∨ sc.names.lookup x = some .free
def Loc (sc : Scope) (x : Str) : Prop := sc.names.lookup x = some .local ∨ sc.names.lookup x = some .cell
def Look (env : Env) (h : Heap) (m : Str → Option Value) (x : Str) (u : Value) : Prop :=
  (env.kindOf x = some .local ∧ m x = some u) ∨ ((env.kindOf x = some .cell ∨ env.kindOf x = some .free) ∧ ∃ c, env.cells.lookup x = some c ∧ h.IsCell c (some u))

structure Cx.Ok (X : Cx) : Prop where
  mod : Mod X.K X.mg X.base
  kind : X.env.scope.kind = .function
  glob : X.env.globals = mainGlobals
  blt : X.env.builtins = builtinsNs
  above : X.s₀.heap.objs.size ≤ X.env.locals
  inj : ∀ x y c, X.env.cells.lookup x = some c → X.env.cells.lookup y = some c → x = y
  has : ∀ x, (X.env.kindOf x = some .cell ∨ X.env.kindOf x = some .free) → ∃ c, X.env.cells.lookup x = some c
  cab : ∀ x c, X.fn x = true → X.env.cells.lookup x = some c → X.s₀.heap.objs.size ≤ c
  hd : X.calm = true → X.A.handled = none
  frames : X.A.frames = some X.stack
  stk : X.stack = X.outer ∨ (X.stack = X.env :: X.outer ∧ X.env.frame = some X.env.locals)
  exf : ∀ b ∈ X.ex, b ≠ X.env.locals ∧ ∀ x c, X.env.cells.lookup x = some c → c ≠ b
  bs : ∀ b o, X.base.get? b = some o → X.s₀.heap.get? b = some o ∧ X.H₀ b = none
  bsz : X.base.objs.size ≤ X.s₀.heap.objs.size
  noex : ∀ b o, X.base.get? b = some o → b ∉ X.ex
  exfs : ∀ b ∈ X.ex, b ∉ X.fs
  funs : X.s₀.heap.FunFrames X.base X.outer
  frf : ∀ b ∈ X.fs, X.H₀ b = none

structure Inv (X : Cx) (pins : List (Addr × Obj)) (σ : List (Option V)) (H : Hp) (s : Shared) : Prop where
  ok : X.Ok
  os : s.os = X.s₀.os
  bare : AllBare s.gens
  base : Un X.fs X.ex X.H₀ H X.s₀.heap s.heap
  loc : ∃ m, s.heap.Ns X.env.locals m ∧ ∀ (i : Nat) (x : Str) (v : V), X.N[i]? = some x → σ[i]? = some (some v) → Vis X.env.scope x → ∃ u, RelV v u ∧ Look X.env s.heap m x u
  cell : ∀ x c, X.env.cells.lookup x = some c → ∃ v, s.heap.IsCell c v
  free : H X.env.locals = none
  freeC : ∀ x c, X.env.cells.lookup x = some c → H c = none
  pin : ∀ p ∈ X.pn ++ pins, s.heap.get? p.1 = some p.2 ∧ H p.1 = none ∧ p.1 ≠ X.env.locals ∧ p.1 ∉ X.fs ∧ ∀ v, p.2.data ≠ .cell v
  hok : HOk X.prog X.w H s.heap
  len : σ.length = X.N.length

section
variable {X : Cx} {pins : List (Addr × Obj)} {σ : List (Option V)} {H H' : Hp} {s : Shared} {h' : Heap}

theorem Cx.Ok.nofr (ok : X.Ok) {b : Addr} {o : Obj} (e : X.base.get? b = some o) : b ∉ X.fs := fun hb => by
  have := (ok.funs.mem hb).1
  rw [e] at this; cases this
theorem Inv.bs (I : Inv X pins σ H s) : ∀ b o, X.base.get? b = some o → s.heap.get? b = some o ∧ H b = none := fun b o e =>
  ⟨I.base.keep b o (I.ok.bs b o e).1 (I.ok.bs b o e).2 (I.ok.nofr e) (I.ok.noex b o e), I.base.free b o (I.ok.bs b o e).1 (I.ok.bs b o e).2 (I.ok.noex b o e)⟩
theorem Inv.bk (I : Inv X pins σ H s) : ∀ b o, X.base.get? b = some o → s.heap.get? b = some o := fun b o e => (I.bs b o e).1
theorem Inv.mod (I : Inv X pins σ H s) : Mod X.K X.mg X.base := I.ok.mod
theorem Inv.kIn (I : Inv X pins σ H s) : X.K.In s.heap := I.ok.mod.kin.keeps I.bk
theorem Inv.lt (I : Inv X pins σ H s) : X.env.locals < s.heap.objs.size := let ⟨_, hn, _⟩ := I.loc; hn.lt
theorem Inv.sz (I : Inv X pins σ H s) : X.s₀.heap.objs.size ≤ s.heap.objs.size := Nat.le_trans I.ok.above (Nat.le_of_lt I.lt)
theorem Inv.nofs (I : Inv X pins σ H s) {a : Addr} (h : s.heap.objs.size ≤ a) : a ∉ X.fs := fun hb => by
  obtain ⟨_, o, ho, _⟩ := I.ok.funs.mem hb
  exact absurd (Nat.lt_of_lt_of_le (Heap.lt_size ho) (Nat.le_trans I.sz h)) (Nat.lt_irrefl _)
theorem Inv.cne (I : Inv X pins σ H s) : ∀ x c, X.env.cells.lookup x = some c → c ≠ X.env.locals := fun x c e z => by
  obtain ⟨v, o, ho, hd⟩ := I.cell x c e
  obtain ⟨m, ⟨o', es, ep, ho', hd', _⟩, _⟩ := I.loc
  rw [z, ho'] at ho; cases ho; rw [hd'] at hd; cases hd
theorem Inv.funs (I : Inv X pins σ H s) : s.heap.FunFrames X.base X.outer := by
  have all : ∀ (l : List Env), (∀ b ∈ frs l, b ∈ X.fs) → X.s₀.heap.FunFrames X.base l → s.heap.FunFrames X.base l := by
    intro l
    induction l with
    | nil => intro _ _; trivial
    | cons env r ih =>
      intro hs hl
      obtain ⟨hk, ⟨L, o, hf, hn, ho, hd⟩, hr⟩ := hl
      have hL : L ∈ X.fs := hs L (by unfold frs; rw [List.filterMap_cons, hf]; exact List.mem_cons_self)
      obtain ⟨sl, e⟩ := I.base.slot L o ho (I.ok.frf L hL) hL fun z => I.ok.exfs L z hL
      exact ⟨hk, ⟨L, _, hf, hn, e, hd⟩, ih (fun b hb => hs b (by unfold frs; rw [List.filterMap_cons, hf]; exact List.mem_cons_of_mem _ hb)) hr⟩
  exact all X.outer (fun _ hb => hb) I.ok.funs

/-- the frames that run, for a call -/
theorem Inv.stack (I : Inv X pins σ H s) : s.heap.FunFrames X.base X.stack := by
  rcases I.ok.stk with e | ⟨e, hf⟩
  · rw [e]; exact I.funs
  · rw [e]
    obtain ⟨m, hn, _⟩ := I.loc
    refine .cons (by rw [I.ok.kind]; decide) hf hn ?_ I.funs
    exact Heap.get?_none_of_le (Nat.le_trans I.ok.bsz I.ok.above)
theorem Inv.stkSub (I : Inv X pins σ H s) : ∀ b ∈ frs X.stack, b ∈ X.env.locals :: X.fs := fun b hb => by
  rcases I.ok.stk with e | ⟨e, hf⟩
  · rw [e] at hb; exact List.mem_cons_of_mem _ hb
  · rw [e] at hb
    unfold frs at hb
    rw [List.filterMap_cons, hf] at hb
    exact hb
theorem Inv.stkFree (I : Inv X pins σ H s) : ∀ b ∈ frs X.stack, H b = none := fun b hb => by
  rcases List.mem_cons.mp (I.stkSub b hb) with e | hb
  · rw [e]; exact I.free
  · obtain ⟨_, o, ho, _⟩ := I.ok.funs.mem hb
    exact I.base.free b o ho (I.ok.frf b hb) fun z => I.ok.exfs b z hb

/-- THE STEP: the untracked objects but the frame and the records at ch are kept (the callers' frames up to slots), the frame's map is kept, the new abstract heap is held -/
theorem Inv.step {g' : Array GenState} {t' : Nat} {d' : Drawn} {ch : List Addr} (I : Inv X pins σ H s)
    (hch : ∀ b ∈ ch, (b ∈ X.ex ∨ X.s₀.heap.objs.size ≤ b) ∧ b ≠ X.env.locals ∧ (∀ x c, X.env.cells.lookup x = some c → c ≠ b) ∧ ∀ p ∈ X.pn ++ pins, p.1 ≠ b)
    (keep : ∀ b o, b ≠ X.env.locals → b ∉ X.fs → b ∉ ch → s.heap.get? b = some o → H b = none → h'.get? b = some o)
    (slot : ∀ b o, b ≠ X.env.locals → b ∈ X.fs → b ∉ ch → s.heap.get? b = some o → H b = none → ∃ sl, h'.get? b = some { o with slots := sl }) (free : ∀ b o, b ∉ ch → s.heap.get? b = some o → H b = none → H' b = none)
    (there : ∀ b o, b ∉ ch → s.heap.get? b = some o → ∃ o', h'.get? b = some o')
    (tups : ∀ b xs, H b = some (.tup xs) → H' b = some (.tup xs)) (frzs : ∀ b o u, H b = some (.frz o u) → H' b = some (.frz o u)) (tbls : ∀ b ps, H b = some (.tbl ps) → ∃ more, H' b = some (.tbl (ps ++ more)))
    (ns : ∀ m, s.heap.Ns X.env.locals m → h'.Ns X.env.locals m) (hok : HOk X.prog X.w H' h') (hg : AllBare g') :
    Inv X pins σ H' { s with heap := h', gens := g', drawn := d', toks := t' } := by
  have neL : ∀ b o, X.s₀.heap.get? b = some o → b ≠ X.env.locals := fun b o e => Nat.ne_of_lt (Nat.lt_of_lt_of_le (Heap.lt_size e) I.ok.above)
  have neC : ∀ b o, X.s₀.heap.get? b = some o → b ∉ X.ex → b ∉ ch := fun b o e hx hb => by
    rcases (hch b hb).1 with z | z
    · exact hx z
    · exact absurd (Nat.lt_of_lt_of_le (Heap.lt_size e) z) (Nat.lt_irrefl _)
  have cellK : ∀ x c, X.env.cells.lookup x = some c → ∀ v, s.heap.IsCell c v → h'.IsCell c v := fun x c e v ⟨o, ho, hd⟩ => by
    have nch : c ∉ ch := fun z => (hch c z).2.2.1 x c e rfl
    by_cases hc : c ∈ X.fs
    · obtain ⟨sl, q⟩ := slot c o (I.cne x c e) hc nch ho (I.freeC x c e)
      exact ⟨_, q, hd⟩
    · exact ⟨o, keep c o (I.cne x c e) hc nch ho (I.freeC x c e), hd⟩
  refine ⟨I.ok, I.os, hg, ⟨fun b o e n hb hx => ?_, fun b o e n hb hx => ?_, fun b o e n hx => ?_, fun b o e hx => ?_, fun b xs e => tups b xs (I.base.tups b xs e), fun b o xs e => frzs b o xs (I.base.frzs b o xs e), fun b ps e => ?_⟩, ?_, fun x c e => ?_, ?_, fun x c e => ?_, fun p hp => ?_, hok, I.len⟩
  · exact keep b o (neL b o e) hb (neC b o e hx) (I.base.keep b o e n hb hx) (I.base.free b o e n hx)
  · obtain ⟨sl, e1⟩ := I.base.slot b o e n hb hx
    obtain ⟨sl', e2⟩ := slot b _ (neL b o e) hb (neC b o e hx) e1 (I.base.free b o e n hx)
    exact ⟨sl', e2⟩
  · obtain ⟨o', e1⟩ := I.base.there b o e hx
    exact free b o' (neC b o e hx) e1 (I.base.free b o e n hx)
  · obtain ⟨o', e1⟩ := I.base.there b o e hx
    exact there b o' (neC b o e hx) e1
  · obtain ⟨m1, e1⟩ := I.base.tbls b ps e
    obtain ⟨m2, e2⟩ := tbls b _ e1
    exact ⟨m1 ++ m2, by rw [e2, Array.append_assoc]⟩
  · obtain ⟨m, hn, hl⟩ := I.loc
    refine ⟨m, ns m hn, fun i x v e1 e2 e3 => ?_⟩
    obtain ⟨u, r, l⟩ := hl i x v e1 e2 e3
    refine ⟨u, r, ?_⟩
    rcases l with l | ⟨k, c, e, z⟩
    · exact .inl l
    · exact .inr ⟨k, c, e, cellK x c e _ z⟩
  · obtain ⟨v, z⟩ := I.cell x c e
    exact ⟨v, cellK x c e v z⟩
  · obtain ⟨m, ⟨o, _, _, ho, _⟩, _⟩ := I.loc
    exact free _ o (fun z => (hch _ z).2.1 rfl) ho I.free
  · obtain ⟨v, o, ho, hd⟩ := I.cell x c e
    exact free c o (fun z => (hch c z).2.2.1 x c e rfl) ho (I.freeC x c e)
  · obtain ⟨e, n, ne, nf, d⟩ := I.pin p hp
    have nch : p.1 ∉ ch := fun z => (hch p.1 z).2.2.2 p hp rfl
    exact ⟨keep p.1 p.2 ne nf nch e n, free p.1 p.2 nch e n, ne, nf, d⟩
/-- .. where the frame's own object is kept too -/
theorem Inv.un {t' : Nat} (I : Inv X pins σ H s) (u : Un X.fs [] H H' s.heap h') (hok : HOk X.prog X.w H' h') : Inv X pins σ H' { s with heap := h', toks := t' } := by
  obtain ⟨m, ⟨o, es, ep, ho, r⟩, _⟩ := id I.loc
  obtain ⟨sl, hL⟩ := u.any ho I.free (by simp)
  exact I.step (g' := s.gens) (d' := s.drawn) (ch := []) (fun _ z => nomatch z) (fun b o _ hb _ e n => u.keep b o e n hb (by simp)) (fun b o _ hb _ e n => u.slot b o e n hb (by simp)) (fun b o _ e n => u.free b o e n (by simp)) (fun b o _ e => u.there b o e (by simp)) u.tups u.frzs u.tbls (fun m' hm => by
    obtain ⟨o', es', ep', ho', r'⟩ := hm
    rw [ho] at ho'; cases ho'
    exact ⟨_, es', ep', hL, r'⟩) hok I.bare
/-- behind a call (or a comprehension's block): the slots of this frame may have changed too, the records at ch may have turned -/
theorem Inv.call {g' : Array GenState} {t' : Nat} {d' : Drawn} {ch : List Addr} (I : Inv X pins σ H s) (u : Un (frs X.stack) ch H H' s.heap h') (hok : HOk X.prog X.w H' h') (hg : AllBare g')
    (hch : ∀ b ∈ ch, (b ∈ X.ex ∨ X.s₀.heap.objs.size ≤ b) ∧ b ≠ X.env.locals ∧ (∀ x c, X.env.cells.lookup x = some c → c ≠ b) ∧ ∀ p ∈ X.pn ++ pins, p.1 ≠ b) :
    Inv X pins σ H' { s with heap := h', gens := g', drawn := d', toks := t' } := by
  obtain ⟨m, ⟨o, es, ep, ho, r⟩, _⟩ := id I.loc
  obtain ⟨sl, hL⟩ := u.any ho I.free fun z => (hch _ z).2.1 rfl
  exact I.step (ch := ch) hch (fun b o hL hb hc e n => u.keep b o e n (fun z => (List.mem_cons.mp (I.stkSub b z)).elim hL hb) hc) (fun b o _ _ hc e n => u.any e n hc) (fun b o hc e n => u.free b o e n hc) (fun b o hc e => u.there b o e hc) u.tups u.frzs u.tbls (fun m' hm => by
    obtain ⟨o', es', ep', ho', r'⟩ := hm
    rw [ho] at ho'; cases ho'
    exact ⟨_, es', ep', hL, r'⟩) hok hg
/-- an untracked record of ours (an iterator) has turned -/
theorem Inv.turned {t' : Nat} {it : Addr} (I : Inv X pins σ H s) (k : ∀ b o, b ≠ it → s.heap.get? b = some o → h'.get? b = some o) (hn : H it = none) (hL : it ≠ X.env.locals)
    (h1 : it ∈ X.ex ∨ X.s₀.heap.objs.size ≤ it) (h2 : ∀ x c, X.env.cells.lookup x = some c → c ≠ it) (h3 : ∀ p ∈ X.pn ++ pins, p.1 ≠ it) : Inv X pins σ H { s with heap := h', toks := t' } := by
  have nit : ∀ b u, H b = some u → b ≠ it := fun b u e z => by rw [z, hn] at e; cases e
  refine I.step (g' := s.gens) (d' := s.drawn) (ch := [it]) (fun b hb => ?_) (fun b o _ _ hc e _ => k b o (fun z => hc (by simp [z])) e) (fun b o _ _ hc e _ => ⟨o.slots, k b o (fun z => hc (by simp [z])) e⟩) (fun _ _ _ _ n => n)
    (fun b o hc e => ⟨o, k b o (fun z => hc (by simp [z])) e⟩) (fun _ _ e => e) (fun _ _ _ e => e) (fun b ps e => ⟨#[], by rw [e]; simp⟩) (fun m hm => ?_) (fun b u e => ?_) I.bare
  · have e : b = it := by simpa using hb
    subst e
    exact ⟨h1, hL, h2, h3⟩
  · obtain ⟨o, es, ep, ho, r⟩ := hm
    exact ⟨o, es, ep, k _ o (Ne.symm hL) ho, r⟩
  · refine (I.hok b u e).stay (fun c v hc q => k c v ?_ q) (fun _ q => q) fun _ _ q => q
    rcases hc with z | z
    · rw [z]; exact nit b u e
    · exact nit c _ z
theorem Inv.tok (I : Inv X pins σ H s) (t : Nat) : Inv X pins σ H { s with toks := t } := I.un (h' := s.heap) (t' := t) Un.refl I.hok
/-- all objects kept -/
theorem Inv.kept {t' : Nat} (I : Inv X pins σ H s) (k : ∀ b u, s.heap.get? b = some u → h'.get? b = some u) : Inv X pins σ H { s with heap := h', toks := t' } := I.un (Un.kept k) (I.hok.kept k)
/-- a new object laid and tracked -/
theorem Inv.laid {a : Addr} {o : HO} {t' : Nat} (I : Inv X pins σ H s) (k : ∀ b u, s.heap.get? b = some u → h'.get? b = some u) (hp : s.heap.objs.size ≤ a) (new : ObjOk X.prog X.w (upd H a o) h' a o) :
    Inv X pins σ (upd H a o) { s with heap := h', toks := t' } := I.un (Un.laid k hp (I.hok.fresh hp)) (I.hok.laid k hp new)
/-- an object written -/
theorem Inv.write {x e : Addr} {o : HO} {t' : Nat} (I : Inv X pins σ H s) (mu : Mut (H x)) (he : e = x ∨ H e = some (.own x)) (k : ∀ b u, b ≠ e → s.heap.get? b = some u → h'.get? b = some u) (heo : ∃ u, h'.get? e = some u)
    (new : ObjOk X.prog X.w (upd H x o) h' x o) : Inv X pins σ (upd H x o) { s with heap := h', toks := t' } := I.un (Un.write mu he k heo) (I.hok.write mu he k heo new)
theorem Inv.pins_of {pins' : List (Addr × Obj)} (I : Inv X pins σ H s) (h : ∀ p ∈ pins', s.heap.get? p.1 = some p.2 ∧ H p.1 = none ∧ p.1 ≠ X.env.locals ∧ p.1 ∉ X.fs ∧ ∀ v, p.2.data ≠ .cell v) : Inv X pins' σ H s :=
  ⟨I.ok, I.os, I.bare, I.base, I.loc, I.cell, I.free, I.freeC, fun p hp => (List.mem_append.mp hp).elim (fun z => I.pin p (List.mem_append_left _ z)) (h p), I.hok, I.len⟩

theorem nodup_ix {N : List Str} (hN : N.Nodup) {i j : Nat} {x : Str} (a : N[i]? = some x) (b : N[j]? = some x) : i = j := by
  obtain ⟨h1, e1⟩ := List.getElem?_eq_some_iff.mp a
  obtain ⟨h2, e2⟩ := List.getElem?_eq_some_iff.mp b
  exact (List.getElem_inj hN).mp (e1.trans e2.symm)

/-- a name is stored; what changed -/
theorem store_ok2 {M : Model} {A : Around} {E : Value → Shared → Prop} {i : Nat} {x : Str} {v : V} {u : Value} {Q : Unit → Shared → Prop} (I : Inv X pins σ H s) (hN : X.N.Nodup) (hi : X.N[i]? = some x) (hx : Loc X.env.scope x) (r : RelV v u)
    (h : ∀ s', Inv X pins (σ.set i (some v)) H s' → (∃ a, Heap.SameBut a s.heap s'.heap ∧ (a = X.env.locals ∨ X.env.cells.lookup x = some a)) → Q () s') (hf : X.fn x = true ∨ X.env.scope.names.lookup x = some .local := by first | exact .inl rfl | exact .inr rfl | assumption) : wpAny M A (storeName X.env x u) Q E s := by
  obtain ⟨m, hn, hl⟩ := id I.loc
  have hcls : (X.env.scope.kind == .class || (X.env.scope.kind == .module && X.env.locals != X.env.globals)) = false := by rw [I.ok.kind]; rfl
  have hiσ : i < σ.length := by rw [I.len]; exact (List.getElem?_eq_some_iff.mp hi).1
  have cne := I.cne
  have tracked : ∀ {a : Addr} {h' : Heap}, (∃ o, s.heap.get? a = some o ∧ H a = none) → Heap.SameBut a s.heap h' → HOk X.prog X.w H h' := fun {a h'} ha hs b ob e => by
    obtain ⟨_, _, hfree⟩ := ha
    refine (I.hok b ob e).stay (fun c w' hc q => (hs.2 c ?_).trans q) (fun _ q => q) fun _ _ q => q
    rintro rfl
    rcases hc with rfl | hc
    · rw [hfree] at e; cases e
    · rw [hfree] at hc; cases hc
  rcases hx with hk | hk
  · refine wpAny_storeName_local hk hn (fun h' hn' hs => ?_) hcls
    obtain ⟨oL, _, _, hoL, _⟩ := id hn
    refine h _ ⟨I.ok, I.os, I.bare, ⟨fun b o e n hb hx => ?_, fun b o e n hb hx => ?_, I.base.free, fun b o e hx => ?_, I.base.tups, I.base.frzs, I.base.tbls⟩, ⟨_, hn', fun j y v' e1 e2 e3 => ?_⟩, fun y c e => ?_, I.free, I.freeC, fun p hp => ?_, tracked ⟨oL, hoL, I.free⟩ hs, by simpa using I.len⟩ ⟨_, hs, .inl rfl⟩
    · exact (hs.2 b (Nat.ne_of_lt (Nat.lt_of_lt_of_le (Heap.lt_size e) I.ok.above))).trans (I.base.keep b o e n hb hx)
    · obtain ⟨sl, e1⟩ := I.base.slot b o e n hb hx
      exact ⟨sl, (hs.2 b (Nat.ne_of_lt (Nat.lt_of_lt_of_le (Heap.lt_size e) I.ok.above))).trans e1⟩
    · obtain ⟨o', e1⟩ := I.base.there b o e hx
      exact ⟨o', (hs.2 b (Nat.ne_of_lt (Nat.lt_of_lt_of_le (Heap.lt_size e) I.ok.above))).trans e1⟩
    · by_cases hj : j = i
      · subst hj
        rw [hi] at e1; cases e1
        rw [List.getElem?_set_self hiσ] at e2
        cases e2
        exact ⟨u, r, .inl ⟨hk, by simp⟩⟩
      · rw [List.getElem?_set_ne (Ne.symm hj)] at e2
        obtain ⟨u', r', q⟩ := hl j y v' e1 e2 e3
        refine ⟨u', r', ?_⟩
        rcases q with ⟨k, e⟩ | ⟨k, c, e, z⟩
        · refine .inl ⟨k, ?_⟩
          have : y ≠ x := fun e => hj (nodup_ix hN e1 (e ▸ hi))
          simp [this, e]
        · exact .inr ⟨k, c, e, z.sameBut hs (cne y c e)⟩
    · obtain ⟨w', z⟩ := I.cell y c e
      exact ⟨w', z.sameBut hs (cne y c e)⟩
    · obtain ⟨e, n, ne, nf, d⟩ := I.pin p hp
      exact ⟨(hs.2 p.1 ne).trans e, n, ne, nf, d⟩
  · have hfn : X.fn x = true := by
      rcases hf with z | z
      · exact z
      · rw [z] at hk; cases hk
    obtain ⟨c, hc⟩ := I.ok.has x (.inl hk)
    obtain ⟨w', z⟩ := I.cell x c hc
    refine wpAny_storeName_cell I.ok.kind hk hc z (fun h' hc' hs => ?_)
    obtain ⟨oc, hoc, hocd⟩ := id z
    refine h { s with heap := h' } ⟨I.ok, I.os, I.bare, ⟨fun b o e n hb hx => ?_, fun b o e n hb hx => ?_, I.base.free, fun b o e hx => ?_, I.base.tups, I.base.frzs, I.base.tbls⟩, ⟨m, hn.sameBut hs (Ne.symm (cne x c hc)), fun j y v' e1 e2 e3 => ?_⟩, fun y c' e => ?_, I.free, I.freeC, fun p hp => ?_, tracked ⟨oc, hoc, I.freeC x c hc⟩ hs, by simpa using I.len⟩ ⟨c, hs, .inr hc⟩
    · exact (hs.2 b (Nat.ne_of_lt (Nat.lt_of_lt_of_le (Heap.lt_size e) (I.ok.cab x c hfn hc)))).trans (I.base.keep b o e n hb hx)
    · obtain ⟨sl, e1⟩ := I.base.slot b o e n hb hx
      exact ⟨sl, (hs.2 b (Nat.ne_of_lt (Nat.lt_of_lt_of_le (Heap.lt_size e) (I.ok.cab x c hfn hc)))).trans e1⟩
    · obtain ⟨o', e1⟩ := I.base.there b o e hx
      exact ⟨o', (hs.2 b (Nat.ne_of_lt (Nat.lt_of_lt_of_le (Heap.lt_size e) (I.ok.cab x c hfn hc)))).trans e1⟩
    · by_cases hj : j = i
      · subst hj
        rw [hi] at e1; cases e1
        rw [List.getElem?_set_self hiσ] at e2
        cases e2
        exact ⟨u, r, .inr ⟨.inl hk, c, hc, hc'⟩⟩
      · rw [List.getElem?_set_ne (Ne.symm hj)] at e2
        obtain ⟨u', r', q⟩ := hl j y v' e1 e2 e3
        refine ⟨u', r', ?_⟩
        rcases q with q | ⟨k, c', e, z'⟩
        · exact .inl q
        · refine .inr ⟨k, c', e, z'.sameBut hs ?_⟩
          rintro rfl
          exact hj (nodup_ix hN e1 (I.ok.inj _ _ _ e hc ▸ hi))
    · by_cases hcc : c' = c
      · subst hcc; exact ⟨_, hc'⟩
      · obtain ⟨w2, z2⟩ := I.cell y c' e
        exact ⟨w2, z2.sameBut hs hcc⟩
    · obtain ⟨e, n, ne, nf, d⟩ := I.pin p hp
      refine ⟨(hs.2 p.1 ?_).trans e, n, ne, nf, d⟩
      intro q
      rw [q, hoc] at e
      have q' : oc = p.2 := Option.some.inj e
      exact d w' (by rw [← q']; exact hocd)
theorem store_ok {M : Model} {A : Around} {E : Value → Shared → Prop} {i : Nat} {x : Str} {v : V} {u : Value} {Q : Unit → Shared → Prop} (I : Inv X pins σ H s) (hN : X.N.Nodup) (hi : X.N[i]? = some x) (hx : Loc X.env.scope x) (r : RelV v u)
    (h : ∀ s', Inv X pins (σ.set i (some v)) H s' → Q () s') (hf : X.fn x = true ∨ X.env.scope.names.lookup x = some .local := by first | exact .inl rfl | exact .inr rfl | assumption) : wpAny M A (storeName X.env x u) Q E s :=
  store_ok2 I hN hi hx r (fun s' I' _ => h s' I') hf
/-- behind a call or a block, the state as it is -/
theorem Inv.call' {s' : Shared} {ch : List Addr} (I : Inv X pins σ H s) (ho : s'.os = s.os) (u : Un (frs X.stack) ch H H' s.heap s'.heap) (hok : HOk X.prog X.w H' s'.heap) (hg : AllBare s'.gens)
    (hch : ∀ b ∈ ch, (b ∈ X.ex ∨ X.s₀.heap.objs.size ≤ b) ∧ b ≠ X.env.locals ∧ (∀ x c, X.env.cells.lookup x = some c → c ≠ b) ∧ ∀ p ∈ X.pn ++ pins, p.1 ≠ b) : Inv X pins σ H' s' := by
  obtain ⟨h', g', d', t', o'⟩ := s'
  have e : o' = s.os := ho
  subst e
  exact I.call (g' := g') (t' := t') (d' := d') u hok hg hch
end

/-! ### the judgements -/
/-- an exception: its class, its own dict's address (where it has one), the abstract heap behind it -/
abbrev XK := Value → Option Addr → Hp → Prop
abbrev St := List (Option V)
abbrev VK := V → Hp → Prop
/-- an expression's reading; a test's; an argument list's -/
abbrev TE := St → Hp → VK → Prop
abbrev TT := St → Hp → (Bool → Hp → Prop) → Prop
abbrev TA := St → Hp → (List V → Hp → Prop) → Prop
/-- what is wanted behind a statement -/
structure Ends where
  nx : St → Hp → Prop
  rt : VK
  bk : St → Hp → Prop := fun _ _ => False
  ct : St → Hp → Prop := fun _ _ => False
abbrev TS := Ends → St → Hp → Prop

def EP (X : Cx) (pins : List (Addr × Obj)) (σ : St) (Q : VK) (u : Value) (s' : Shared) : Prop := ∃ v H', Inv X pins σ H' s' ∧ RelV v u ∧ Q v H'
def TP (X : Cx) (pins : List (Addr × Obj)) (σ : St) (Q : Bool → Hp → Prop) (b : Bool) (s' : Shared) : Prop := ∃ H', Inv X pins σ H' s' ∧ Q b H'
def AP (X : Cx) (pins : List (Addr × Obj)) (σ : St) (Q : List V → Hp → Prop) (us : List Value) (s' : Shared) : Prop := ∃ vs H', Inv X pins σ H' s' ∧ Vals vs us ∧ Q vs H'
def SP (X : Cx) (pins : List (Addr × Obj)) (D : Ends) (f : Flow) (s' : Shared) : Prop :=
  match f with
  | .next => ∃ σ' H', Inv X pins σ' H' s' ∧ D.nx σ' H'
  | .brk => ∃ σ' H', Inv X pins σ' H' s' ∧ D.bk σ' H'
  | .cont => ∃ σ' H', Inv X pins σ' H' s' ∧ D.ct σ' H'
  | .ret u => ∃ v σ' H', Inv X pins σ' H' s' ∧ RelV v u ∧ D.rt v H'

def PE (X : Cx) (e : Expr) (t : TE) : Prop :=
  ∀ (pins : List (Addr × Obj)) (s : Shared) (σ : St) (H : Hp) (Q : VK), Inv X pins σ H s → t σ H Q → wpAny (model X.prog X.w) X.A (eval e X.env) (EP X pins σ Q) X.xe s
def PT (X : Cx) (e : Expr) (t : TT) : Prop :=
  ∀ (pins : List (Addr × Obj)) (s : Shared) (σ : St) (H : Hp) (Q : Bool → Hp → Prop), Inv X pins σ H s → t σ H Q → wpAny (model X.prog X.w) X.A (isTrue e X.env (eval e X.env)) (TP X pins σ Q) X.xe s
/-- a test whatever its 'whole' is (and, or) -/
def PW (X : Cx) (e : Expr) (t : TT) : Prop :=
  ∀ (whole : Sem Value) (pins : List (Addr × Obj)) (s : Shared) (σ : St) (H : Hp) (Q : Bool → Hp → Prop), Inv X pins σ H s → t σ H Q → wpAny (model X.prog X.w) X.A (isTrue e X.env whole) (TP X pins σ Q) X.xe s
theorem PW.pt {X : Cx} {e : Expr} {t : TT} (h : PW X e t) : PT X e t := h _
/-- an argument list (no star), from the left -/
def PA (X : Cx) (es : List Expr) (t : TA) : Prop :=
  ∀ (pos : Pos) (pins : List (Addr × Obj)) (s : Shared) (σ : St) (H : Hp) (Q : List V → Hp → Prop), Inv X pins σ H s → t σ H Q → wpAny (model X.prog X.w) X.A (spliced (backTo pos (starEach es X.env))) (AP X pins σ Q) X.xe s
def PS (X : Cx) (st : Stmt) (t : TS) : Prop :=
  ∀ (pins : List (Addr × Obj)) (s : Shared) (σ : St) (H : Hp) (D : Ends), Inv X pins σ H s → t D σ H → wpAny (model X.prog X.w) X.A (exec st X.env) (SP X pins D) X.xe s
def PSs (X : Cx) (st : List Stmt) (t : TS) : Prop :=
  ∀ (pins : List (Addr × Obj)) (s : Shared) (σ : St) (H : Hp) (D : Ends), Inv X pins σ H s → t D σ H → wpAny (model X.prog X.w) X.A (execs st X.env) (SP X pins D) X.xe s
/-- weaken the end -/
theorem thn {α : Type} {t : Sem α} {Q Q' : α → Shared → Prop} {M : Model} {A : Around} {E : Value → Shared → Prop} {s : Shared} (h : wpAny M A t Q E s) (hQ : ∀ a s, Q a s → Q' a s) : wpAny M A t Q' E s := wpAny_mono h hQ fun _ _ x => x
end L2

namespace L2
open PySem PySem.Spec PyProof.Rows
section
variable {X : Cx}

/-! ### names and constants -/
def tVar (i : Nat) : TE := fun σ H Q => ∃ v, σ[i]? = some (some v) ∧ Q v H
def tC (v : V) : TE := fun _ H Q => Q v H
theorem pe_var {i : Nat} {x : Str} {pos : Pos} (hN : X.N[i]? = some x) (hv : Vis X.env.scope x) (hd : (x == ("__debug__" : Str)) = false := by decide) (hcd : (x == ("__classdict__" : Str)) = false := by decide) : PE X (.Name x pos) (tVar i) := by
  intro pins s σ H Q I h
  obtain ⟨v, e, h⟩ := h
  obtain ⟨m, hn, hl⟩ := I.loc
  obtain ⟨u, r, l⟩ := hl i x v hN e hv
  have fin : EP X pins σ Q u s := ⟨v, H, I, r, h⟩
  rcases l with ⟨hk, hm⟩ | ⟨hk, c, hc, hcell⟩
  · exact wpAny_Name (wpAny_loadName_local I.ok.kind hk hn hm fin) hd
  · rcases hk with hk | hk
    · exact wpAny_Name (wpAny_loadName_cell I.ok.kind hk hc hcell fin) hd
    · exact wpAny_Name (wpAny_loadName_free I.ok.kind hk hc hcell fin hcd) hd
theorem pe_int {i j pos} : PE X (.Constant (.int i) j pos) (tC (.int i)) := fun _ _ _ H _ I h => wpAny_Constant_int ⟨.int i, H, I.tok _, ⟨_, rfl⟩, h⟩
theorem pe_bl {b j pos} : PE X (.Constant (.bool b) j pos) (tC (.bl b)) := fun _ _ _ H _ I h => Constant_bool ⟨.bl b, H, I, rfl, h⟩
theorem pe_non {j pos} : PE X (.Constant .none j pos) (tC .non) := fun _ _ _ H _ I h => Constant_none ⟨.non, H, I, rfl, h⟩
theorem pe_str {x j pos} : PE X (.Constant (.str x) j pos) (tC (.str x)) := fun _ _ _ H _ I h => Calls.Constant_str ⟨.str x, H, I.tok _, ⟨_, rfl⟩, h⟩

/-- a global name of the def -/
def Gl (X : Cx) (x : Str) : Prop := X.env.kindOf x = some .globalImplicit
theorem ld_glob {E : Value → Shared → Prop} {pins : List (Addr × Obj)} {s : Shared} {σ : St} {H : Hp} {x : Str} {u : Value} {pos : Pos} {Q : Value → Shared → Prop} (I : Inv X pins σ H s) (hg : Gl X x) (hm : X.mg x = some u) (h : Q u s)
    (hd : (x == ("__debug__" : Str)) = false := by decide) : wpAny (model X.prog X.w) X.A (eval (.Name x pos) X.env) Q E s :=
  Calls.Name_function_global I.ok.kind hg (Calls.loadGlobal_global (by rw [I.ok.glob]; exact I.mod.glob.keeps I.bk) hm h) hd
theorem ld_blt {E : Value → Shared → Prop} {pins : List (Addr × Obj)} {s : Shared} {σ : St} {H : Hp} {x : Str} {u : Value} {pos : Pos} {Q : Value → Shared → Prop} (I : Inv X pins σ H s) (hg : Gl X x) (hm : X.mg x = none) (hv : bootBuiltins x = some u) (h : Q u s)
    (hn : x ≠ "__name__" := by decide) (hd : (x == ("__debug__" : Str)) = false := by decide) : wpAny (model X.prog X.w) X.A (eval (.Name x pos) X.env) Q E s := by
  obtain ⟨mb, h1, h2⟩ := I.mod.blt
  exact Calls.Name_function_global I.ok.kind hg (Calls.loadGlobal_builtin (by rw [I.ok.glob]; exact I.mod.glob.keeps I.bk) hm (by rw [I.ok.blt]; exact h1.keeps I.bk) ((h2 x hn).trans hv) h) hd
/-- a module's constant, a class, a function, as a value -/
theorem pe_glob {x : Str} {v : V} {u : Value} {pos : Pos} (hg : Gl X x) (hm : X.mg x = some u) (r : RelV v u) (hd : (x == ("__debug__" : Str)) = false := by decide) : PE X (.Name x pos) (tC v) :=
  fun _ _ _ H _ I h => ld_glob I hg hm ⟨v, H, I, r, h⟩ hd
theorem pe_bltn {x : Str} {v : V} {u : Value} {pos : Pos} (hg : Gl X x) (hm : X.mg x = none) (hv : bootBuiltins x = some u) (r : RelV v u) (hn : x ≠ "__name__" := by decide) (hd : (x == ("__debug__" : Str)) = false := by decide) : PE X (.Name x pos) (tC v) :=
  fun _ _ _ H _ I h => ld_blt I hg hm hv ⟨v, H, I, r, h⟩ hn hd

/-! ### arithmetic -/
/-- two ints -/
def t2I (ta tb : TE) (k : Int → Int → Hp → Prop) : St → Hp → Prop := fun σ H => ta σ H fun x H1 => tb σ H1 fun y H2 => ∃ i j, x = .int i ∧ y = .int j ∧ k i j H2
def tAdd (ta tb : TE) : TE := fun σ H Q => t2I ta tb (fun i j H2 => Q (.int (i + j)) H2) σ H
def tSub (ta tb : TE) : TE := fun σ H Q => t2I ta tb (fun i j H2 => Q (.int (i - j)) H2) σ H
/-- the left factor below 2^64 -/
def tMul (ta tb : TE) : TE := fun σ H Q => t2I ta tb (fun i j H2 => (-(2 ^ 64) < i ∧ i < 2 ^ 64) ∧ Q (.int (i * j)) H2) σ H
variable {a b : Expr} {ta tb : TE} {pos : Pos}
/-! ### comparisons -/
def PC (X : Cx) (op : CmpOp) (a b : Expr) (t : TE) : Prop :=
  ∀ (pins : List (Addr × Obj)) (s : Shared) (σ : St) (H : Hp) (Q : VK), Inv X pins σ H s → t σ H Q →
    wpAny (model X.prog X.w) X.A (eval a X.env) (fun v s₁ => wpAny (model X.prog X.w) X.A (eval b X.env) (fun u s₂ => wpAny (model X.prog X.w) X.A (compareOp op v u) (EP X pins σ Q) X.xe s₂) X.xe s₁) X.xe s
def tCmp (p : Int → Int → Bool) (ta tb : TE) : TE := fun σ H Q => t2I ta tb (fun i j H2 => Q (.bl (p i j)) H2) σ H
abbrev tLt : TE → TE → TE := tCmp fun i j => decide (i < j)
abbrev tLe : TE → TE → TE := tCmp fun i j => decide (i ≤ j)
abbrev tGt : TE → TE → TE := tCmp fun i j => decide (j < i)
abbrev tGe : TE → TE → TE := tCmp fun i j => decide (j ≤ i)
abbrev tEqI : TE → TE → TE := tCmp fun i j => decide (i = j)
abbrev tNeI : TE → TE → TE := tCmp fun i j => !decide (i = j)
/-- is None -/
def tIsN (ta : TE) : TE := fun σ H Q => ta σ H fun x H1 => Q (.bl (decide (x = .non))) H1
def tNotN (ta : TE) : TE := fun σ H Q => ta σ H fun x H1 => Q (.bl (!decide (x = .non))) H1
/-- a comparison as a value, as a test -/
def tB (t : TE) : TT := fun σ H Q => t σ H fun x H1 => ∃ c, x = .bl c ∧ Q c H1
/-- an expression whose value is a bool, as a test -/
theorem pt_val {e : Expr} {t : TE} (h : PE X e t) (he : ∀ whole, isTrue e X.env whole = (do let v ← whole; standAt e.pos; holding [v] (truthy v)) := by intro _; rfl) : PT X e (tB t) := by
  intro pins s σ H Q I hw
  refine isTrue_plain (thn (h pins s σ H _ I hw) fun v s1 ⟨x, H1, I1, r1, q1⟩ => ?_) (he _)
  obtain ⟨d, rfl, q⟩ := q1
  cases r1
  exact wpAny_truthy_bool ⟨H1, I1, q⟩

/-! ### and, or, not -/
variable {tA tB' : TT} {rest : List Expr}
def tAnd (t u : TT) : TT := fun σ H Q => t σ H fun c H1 => if c = true then u σ H1 Q else Q false H1
def tOr (t u : TT) : TT := fun σ H Q => t σ H fun c H1 => if c = true then Q true H1 else u σ H1 Q
def tNot (t : TT) : TT := fun σ H Q => t σ H fun c H1 => Q (!c) H1
theorem pw_and1 (ha : PT X a tA) : PW X (.BoolOp .And [a] pos) tA := by
  intro wh pins s σ H Q I h
  refine isTrue_and (thn (ha pins s σ H Q I h) fun c s1 e => ?_)
  cases c with
  | true => exact isTrue_and_nil e
  | false => exact e
theorem pw_or1 (ha : PT X a tA) : PW X (.BoolOp .Or [a] pos) tA := by
  intro wh pins s σ H Q I h
  refine isTrue_or (thn (ha pins s σ H Q I h) fun c s1 e => ?_)
  cases c with
  | false => exact isTrue_or_nil e
  | true => exact e
theorem pw_and (ha : PT X a tA) (hb : PW X (.BoolOp .And (b :: rest) pos) tB') : PW X (.BoolOp .And (a :: b :: rest) pos) (tAnd tA tB') := by
  intro wh pins s σ H Q I h
  refine isTrue_and (thn (ha pins s σ H _ I h) fun c s1 ⟨H1, I1, q1⟩ => ?_)
  cases c with
  | true => exact hb wh pins s1 σ H1 Q I1 q1
  | false => exact ⟨H1, I1, q1⟩
theorem pw_or (ha : PT X a tA) (hb : PW X (.BoolOp .Or (b :: rest) pos) tB') : PW X (.BoolOp .Or (a :: b :: rest) pos) (tOr tA tB') := by
  intro wh pins s σ H Q I h
  refine isTrue_or (thn (ha pins s σ H _ I h) fun c s1 ⟨H1, I1, q1⟩ => ?_)
  cases c with
  | true => exact ⟨H1, I1, q1⟩
  | false => exact hb wh pins s1 σ H1 Q I1 q1
theorem pt_not (ha : PT X a tA) : PT X (.UnaryOp .Not a pos) (tNot tA) := by
  intro pins s σ H Q I h
  exact isTrue_not (ha pins s σ H (fun c H1 => Q (!c) H1) I h)
/-- .. as values (bools) -/
def tAndV (ta tb : TE) : TE := fun σ H Q => ta σ H fun x H1 => ∃ c, x = .bl c ∧ if c = true then tb σ H1 Q else Q (.bl false) H1
def tOrV (ta tb : TE) : TE := fun σ H Q => ta σ H fun x H1 => ∃ c, x = .bl c ∧ if c = true then Q (.bl true) H1 else tb σ H1 Q
def tNotV (ta : TE) : TE := fun σ H Q => ta σ H fun x H1 => ∃ c, x = .bl c ∧ Q (.bl (!c)) H1
theorem pe_one {op} {t : TE} (h : PE X a t) : PE X (.BoolOp op [a] pos) t := fun pins s σ H Q I hw => BoolOp_one (h pins s σ H Q I hw)
theorem pe_and (ha : PE X a ta) (hb : PE X (.BoolOp .And (b :: rest) pos) tb) : PE X (.BoolOp .And (a :: b :: rest) pos) (tAndV ta tb) := by
  intro pins s σ H Q I h
  refine BoolOp_and (thn (ha pins s σ H _ I h) fun v s1 ⟨x, H1, I1, r1, q1⟩ => ?_)
  obtain ⟨c, rfl, q1⟩ := q1
  cases r1
  refine wpAny_truthy_bool ?_
  cases c with
  | true => exact hb pins s1 σ H1 Q I1 q1
  | false => exact ⟨.bl false, H1, I1, rfl, q1⟩
/-- a if t else b -/
def tIf (t : TT) (ta tb : TE) : TE := fun σ H Q => t σ H fun c H1 => if c = true then ta σ H1 Q else tb σ H1 Q
end
end L2

namespace L2
open PySem PySem.Spec PyProof.Rows

/-! ### a list, a tuple that is read: tracked, frozen, or an object of the module -/
def SqL (K : PySem.W.Frag) (H : Hp) (a : Addr) (xs : List V) : Prop :=
  Rd H a (.lst xs) ∨
    ∃ (o : Obj) (its : Array Value) (n : Nat), K.lookup a = some o ∧ o.cls = .type "list" ∧ o.dict = none ∧ o.data = .seq its n ∧ its.size ≤ sizeLine ∧ Vals xs its.toList
def SqT (K : PySem.W.Frag) (H : Hp) (a : Addr) (xs : List V) : Prop :=
  Rd H a (.tup xs) ∨
    ∃ (o : Obj) (its : Array Value) (n : Nat), K.lookup a = some o ∧ o.cls = .type "tuple" ∧ o.data = .seq its n ∧ its.size ≤ sizeLine ∧ Vals xs its.toList
def absV : Value → Option V
  | .none => some .non
  | .bool b => some (.bl b)
  | .int i _ => some (.int i)
  | .str x _ => some (.str x)
  | .bytes b _ => some (.byt b)
  | .float b _ => some (.flt b)
  | .ref a => some (.ref a)
  | .type n => some (.ty n)
  | _ => none
theorem RelV.abs {x : V} {u : Value} (r : RelV x u) : absV u = some x := by
  cases x with
  | non => cases r; rfl
  | bl _ => cases r; rfl
  | int _ => obtain ⟨t, rfl⟩ := r; rfl
  | str _ => obtain ⟨t, rfl⟩ := r; rfl
  | byt _ => obtain ⟨t, rfl⟩ := r; rfl
  | flt _ => obtain ⟨t, rfl⟩ := r; rfl
  | ref _ => cases r; rfl
  | ty _ => cases r; rfl
theorem RelV.inj {x y : V} {u : Value} (r : RelV x u) (q : RelV y u) : x = y := Option.some.inj (r.abs.symm.trans q.abs)
theorem Vals.inj : ∀ {xs ys : List V} {us : List Value}, Vals xs us → Vals ys us → xs = ys
  | _, _, _, .nil, .nil => rfl
  | _, _, _, .cons r t, .cons r' t' => by rw [r.inj r', Vals.inj t t']
section
variable {X : Cx} {pins : List (Addr × Obj)} {σ : St} {H : Hp} {s : Shared} {a : Addr} {xs ys : List V}
theorem SqL.of {K : PySem.W.Frag} (h : H a = some (.lst xs)) : SqL K H a xs := .inl (.inl h)
theorem SqT.of {K : PySem.W.Frag} (h : H a = some (.tup xs)) : SqT K H a xs := .inl (.inl h)
theorem Inv.list (I : Inv X pins σ H s) (h : SqL X.K H a xs) : ∃ its : List Value, Vals xs its ∧ PlainL s.heap a its.toArray ∧ xs.length ≤ sizeLine := by
  rcases h with h | ⟨o, its, n, hk, hc, hd, hs, hz, r⟩
  · obtain ⟨z, its, n, r, e⟩ := h.ok I.hok
    exact ⟨its, r, ⟨_, n, e, rfl, rfl, rfl⟩, z⟩
  · refine ⟨its.toList, r, ⟨o, n, I.kIn a o hk, hc, hd, by simpa using hs⟩, ?_⟩
    have e := r.length
    simp only [Array.length_toList] at e
    omega
theorem Inv.tuple (I : Inv X pins σ H s) (h : SqT X.K H a xs) : ∃ its : List Value, Vals xs its ∧ IsTup s.heap a its.toArray ∧ xs.length ≤ sizeLine := by
  rcases h with h | ⟨o, its, n, hk, hc, hs, hz, r⟩
  · obtain ⟨z, its, r, p⟩ := h.ok I.hok
    exact ⟨its, r, p, z⟩
  · refine ⟨its.toList, r, ⟨o, I.kIn a o hk, hc, n, by simpa using hs⟩, ?_⟩
    have e := r.length
    simp only [Array.length_toList] at e
    omega
theorem Inv.list_inj (I : Inv X pins σ H s) (h : SqL X.K H a xs) (h' : SqL X.K H a ys) : xs = ys := by
  obtain ⟨its, r, ⟨o, n, e, _, _, d⟩, _⟩ := I.list h
  obtain ⟨its', r', ⟨o', n', e', _, _, d'⟩, _⟩ := I.list h'
  rw [e] at e'; cases e'
  rw [d] at d'
  injection d' with d1 _
  have : its = its' := by simpa using congrArg Array.toList d1
  subst this
  exact r.inj r'
end

/-! ### another wish about exceptions -/
abbrev Cx.wish (X : Cx) (E : Value → Shared → Prop) : Cx := { X with xe := E }
/-- no exception leaves -/
abbrev Cx.nox (X : Cx) : Cx := X.wish fun _ _ => False
theorem Cx.Ok.wish {X : Cx} (ok : X.Ok) (E : Value → Shared → Prop) : (X.wish E).Ok :=
  ⟨ok.mod, ok.kind, ok.glob, ok.blt, ok.above, ok.inj, ok.has, ok.cab, ok.hd, ok.frames, ok.stk, ok.exf, ok.bs, ok.bsz, ok.noex, ok.exfs, ok.funs, ok.frf⟩
theorem Cx.Ok.unwish {X : Cx} {E : Value → Shared → Prop} (ok : (X.wish E).Ok) : X.Ok :=
  ⟨ok.mod, ok.kind, ok.glob, ok.blt, ok.above, ok.inj, ok.has, ok.cab, ok.hd, ok.frames, ok.stk, ok.exf, ok.bs, ok.bsz, ok.noex, ok.exfs, ok.funs, ok.frf⟩
section
variable {X : Cx} {pins : List (Addr × Obj)} {σ : St} {H : Hp} {s : Shared} {E : Value → Shared → Prop}
theorem Inv.wish (I : Inv X pins σ H s) (E : Value → Shared → Prop) : Inv (X.wish E) pins σ H s := ⟨I.ok.wish E, I.os, I.bare, I.base, I.loc, I.cell, I.free, I.freeC, I.pin, I.hok, I.len⟩
theorem Inv.unwish (I : Inv (X.wish E) pins σ H s) : Inv X pins σ H s := ⟨I.ok.unwish, I.os, I.bare, I.base, I.loc, I.cell, I.free, I.freeC, I.pin, I.hok, I.len⟩
theorem SP.unwish {D : Ends} {f : Flow} {s' : Shared} (h : SP (X.wish E) pins D f s') : SP X pins D f s' := by
  cases f with
  | next => obtain ⟨σ', H', I, q⟩ := h; exact ⟨σ', H', I.unwish, q⟩
  | brk => obtain ⟨σ', H', I, q⟩ := h; exact ⟨σ', H', I.unwish, q⟩
  | cont => obtain ⟨σ', H', I, q⟩ := h; exact ⟨σ', H', I.unwish, q⟩
  | ret u => obtain ⟨v, σ', H', I, r, q⟩ := h; exact ⟨v, σ', H', I.unwish, r, q⟩
theorem PSs.nox {st : List Stmt} {t : TS} (h : PSs X.nox st t) : PSs X st t := fun pins s σ H D I hw =>
  wpAny_mono (h pins s σ H D (I.wish _) hw) (fun _ _ q => q.unwish) fun _ _ z => False.elim z
end

/-! ### blocks and small statements -/
section
variable {X : Cx} {st : Stmt} {rest : List Stmt} {t u : TS} {e : Expr} {te : TE} {pos : Pos}
def tNext : TS := fun D σ H => D.nx σ H
def tSeq (t u : TS) : TS := fun D σ H => t { D with nx := u D } σ H
theorem pss_nil : PSs X [] tNext := fun _ _ σ H _ I h => wpAny_execs_nil ⟨σ, H, I, h⟩
theorem pss_cons (h1 : PS X st t) (h2 : PSs X rest u) : PSs X (st :: rest) (tSeq t u) := by
  intro pins s σ H D I h
  refine wpAny_execs_cons (thn (h1 pins s σ H { D with nx := u D } I h) fun f s1 q => ?_)
  cases f with
  | next =>
    obtain ⟨σ', H', I', q⟩ := q
    exact h2 pins s1 σ' H' D I' q
  | ret v => exact q
  | brk => exact q
  | cont => exact q
theorem pss_one (h1 : PS X st t) : PSs X [st] t := by
  intro pins s σ H D I h
  refine wpAny_execs_cons (thn (h1 pins s σ H D I h) fun f s1 q => ?_)
  cases f with
  | next => exact wpAny_execs_nil q
  | ret v => exact q
  | brk => exact q
  | cont => exact q
def tBreak : TS := fun D σ H => D.bk σ H
def tCont : TS := fun D σ H => D.ct σ H
/-- in a def's body nothing is shown -/
theorem Inv.quiet {pins : List (Addr × Obj)} {σ : St} {H : Hp} {s : Shared} (I : Inv X pins σ H s) : interactive X.env = false := by simp [interactive, I.ok.kind]
/-- an expression whose value is dropped -/
def tDrop (te : TE) : TS := fun D σ H => te σ H fun _ H1 => D.nx σ H1
theorem ps_expr (he : PE X e te) (hs : swapsWith e none pos.line X.env = pure false := by rfl) : PS X (.Expr e pos) (tDrop te) := by
  intro pins s σ H D I h
  exact wpAny_Expr_any (thn (he pins s σ H _ I h) fun v s1 ⟨x, H1, I1, r1, q1⟩ => ⟨σ, H1, I1, q1⟩) I.quiet hs
def tRet (te : TE) : TS := fun D σ H => te σ H D.rt
theorem ps_ret (he : PE X e te) : PS X (.Return (some e) pos) (tRet te) := by
  intro pins s σ H D I h
  exact wpAny_Return_some (thn (he pins s σ H _ I h) fun v s1 ⟨x, H1, I1, r1, q1⟩ => ⟨x, σ, H1, I1, r1, q1⟩)
def tRetN : TS := fun D _ H => D.rt .non H
def tIfS (c : TT) (t u : TS) : TS := fun D σ H => c σ H fun b H1 => if b = true then t D σ H1 else u D σ H1
theorem ps_if {c : Expr} {a b : List Stmt} {tc : TT} (hc : PT X c tc) (ha : PSs X a t) (hb : PSs X b u) : PS X (.If c a b pos) (tIfS tc t u) := by
  intro pins s σ H D I h
  refine wpAny_If (thn (hc pins s σ H _ I h) fun d s1 ⟨H1, I1, q1⟩ => ?_)
  cases d with
  | true => exact ha pins s1 σ H1 D I1 q1
  | false => exact hb pins s1 σ H1 D I1 q1
/-- code that the proof never comes to -/
def tNever : TS := fun _ _ _ => False
end

/-! ### targets -/
abbrev TG := V → St → Hp → (St → Hp → Prop) → Prop
abbrev TGs := List V → St → Hp → (St → Hp → Prop) → Prop
def PG (X : Cx) (target : Expr) (t : TG) : Prop :=
  ∀ (pins : List (Addr × Obj)) (s : Shared) (σ : St) (H : Hp) (v : V) (u : Value) (Q : St → Hp → Prop), Inv X pins σ H s → RelV v u → t v σ H Q →
    wpAny (model X.prog X.w) X.A (assign target X.env u) (fun _ s' => ∃ σ' H', Inv X pins σ' H' s' ∧ Q σ' H') X.xe s
/-- several targets, one after another -/
def PGs (X : Cx) (ts : List Expr) (t : TGs) : Prop :=
  ∀ (pins : List (Addr × Obj)) (s : Shared) (σ : St) (H : Hp) (vs : List V) (us : List Value) (Q : St → Hp → Prop), Inv X pins σ H s → Vals vs us → t vs σ H Q →
    wpAny (model X.prog X.w) X.A (assignInOrder ((assignEach ts X.env).map (·.2)) us) (fun _ s' => ∃ σ' H', Inv X pins σ' H' s' ∧ Q σ' H') X.xe s
/-- o[i] = v, by values -/
abbrev TSet := V → V → V → Hp → (Hp → Prop) → Prop
def PSet (X : Cx) (t : TSet) : Prop :=
  ∀ (pins : List (Addr × Obj)) (s : Shared) (σ : St) (H : Hp) (o i v : V) (ov iv u : Value) (Q : Hp → Prop), Inv X pins σ H s → RelV o ov → RelV i iv → RelV v u → t o i v H Q →
    wpAny (model X.prog X.w) X.A (setItem ov iv u) (fun _ s' => ∃ H', Inv X pins σ H' s' ∧ Q H') X.xe s
/-- a op= b, by values -/
abbrev TIp := V → V → Hp → VK → Prop
def PIp (X : Cx) (op : Operator) (t : TIp) : Prop :=
  ∀ (pins : List (Addr × Obj)) (s : Shared) (σ : St) (H : Hp) (x y : V) (v u : Value) (Q : VK), Inv X pins σ H s → RelV x v → RelV y u → t x y H Q →
    wpAny (model X.prog X.w) X.A (inplaceOp op v u) (EP X pins σ Q) X.xe s
section
variable {X : Cx} {pos : Pos}
def gName (i : Nat) : TG := fun v σ H Q => Q (σ.set i (some v)) H
theorem pg_name {i : Nat} {x : Str} (hN : X.N.Nodup) (hi : X.N[i]? = some x) (hx : Loc X.env.scope x) (hf : X.fn x = true ∨ X.env.scope.names.lookup x = some .local := by first | exact .inl rfl | exact .inr rfl | assumption) : PG X (.Name x pos) (gName i) := by
  intro pins s σ H v u Q I r h
  exact wpAny_assign_Name (store_ok I hN hi hx r (fun s' I' => ⟨_, H, I', h⟩) hf)
def gNil : TGs := fun vs σ H Q => vs = [] ∧ Q σ H
def gCons (t : TG) (u : TGs) : TGs := fun vs σ H Q => ∃ v r, vs = v :: r ∧ t v σ H fun σ' H' => u r σ' H' Q
/-- (a, b, ..) = a tuple of that length -/
def gTup (K : PySem.W.Frag) (n : Nat) (t : TGs) : TG := fun v σ H Q => ∃ a xs, v = .ref a ∧ SqT K H a xs ∧ xs.length = n ∧ t xs σ H Q
/-- o[i] = .. -/
def gSub (to ti : TE) (t : TSet) : TG := fun v σ H Q => to σ H fun o H1 => ti σ H1 fun i H2 => t o i v H2 fun H3 => Q σ H3
/-- target = value -/
def tAsg (te : TE) (g : TG) : TS := fun D σ H => te σ H fun x H1 => g x σ H1 D.nx
/-- name = value -/
theorem ps_set {i : Nat} {x : Str} {e : Expr} {te : TE} {pos' : Pos} (hN : X.N.Nodup) (hi : X.N[i]? = some x) (hx : Loc X.env.scope x) (he : PE X e te) (hs : swapsWith e (some (.Name x pos')) pos.line X.env = pure false := by rfl) (hf : X.fn x = true ∨ X.env.scope.names.lookup x = some .local := by first | exact .inl rfl | exact .inr rfl | assumption) :
    PS X (.Assign [.Name x pos'] e pos) (tAsg te (gName i)) := by
  intro pins s σ H D I h
  refine wpAny_Assign_Name (thn (he pins s σ H _ I h) fun v s1 ⟨y, H1, I1, r1, q1⟩ => ?_) hs
  exact store_ok I1 hN hi hx r1 (fun s2 I2 => ⟨_, H1, I2, q1⟩) hf
/-- a, b = x, y with plain local names: stored from the right; the pair itself is not tracked (the opening rows as in PyProof/Rows/TupAssign.lean:23) -/
def tPar (i j : Nat) (ta : TA) : TS := fun D σ H => ta σ H fun vs H1 => ∃ v w, vs = [v, w] ∧ D.nx ((σ.set i (some v)).set j (some w)) H1
/-- name op= e -/
def tAug (i : Nat) (te : TE) (ti : TIp) : TS := fun D σ H => ∃ x, σ[i]? = some (some x) ∧ te σ H fun y H1 => ti x y H1 fun z H2 => D.nx (σ.set i (some z)) H2
/-- o[i] op= e -/
def tAugS (to ti te : TE) (tget : V → V → Hp → VK → Prop) (tip : TIp) (tset : TSet) : TS := fun D σ H => to σ H fun o H1 => ti σ H1 fun i H2 => tget o i H2 fun x H3 => te σ H3 fun y H4 => tip x y H4 fun z H5 => tset o i z H5 fun H6 => D.nx σ H6
/-- o[i], by values -/
def PGet (X : Cx) (t : V → V → Hp → VK → Prop) : Prop :=
  ∀ (pins : List (Addr × Obj)) (s : Shared) (σ : St) (H : Hp) (o i : V) (ov iv : Value) (Q : VK), Inv X pins σ H s → RelV o ov → RelV i iv → t o i H Q →
    wpAny (model X.prog X.w) X.A (getItem ov iv) (EP X pins σ Q) X.xe s
/-- ints -/
def ipI (f : Int → Int → Int) : TIp := fun x y H Q => ∃ i j, x = .int i ∧ y = .int j ∧ Q (.int (f i j)) H
end

/-! ### while -/
section
variable {X : Cx} {pos : Pos}
/-- the invariant W with its measure -/
def tWhile (c : TT) (tb : TS) : TS := fun D σ H => ∃ W : Nat → St → Hp → Prop, (∃ m, W m σ H) ∧ ∀ m σ H, W m σ H →
  c σ H fun b H1 => if b = true then ∃ N : St → Hp → Prop, (∀ σ' H', N σ' H' → ∃ m', m' < m ∧ W m' σ' H') ∧ tb { D with nx := N, ct := N, bk := D.nx } σ H1 else D.nx σ H1
theorem ps_while {c : Expr} {body : List Stmt} {tc : TT} {tb : TS} (hp : PassesOwn (model X.prog X.w) X.A X.env X.xe) (hc : PT X c tc) (hb : PSs X body tb) : PS X (.While c body [] pos) (tWhile tc tb) := by
  intro pins s σ H D I h
  obtain ⟨W, ⟨m0, w0⟩, turn⟩ := h
  refine wpAny_While (codeAny_whileLoop (fun n s' => ∃ σ' H', Inv X pins σ' H' s' ∧ W n σ' H') ?_ m0 ⟨σ, H, I, w0⟩)
  rintro n s1 ⟨σ1, H1, I1, w1⟩
  refine wpAny_passesOwn hp (thn (hc pins s1 σ1 H1 _ I1 (turn n σ1 H1 w1)) fun b s2 ⟨H2, I2, q2⟩ => ?_)
  cases b with
  | true =>
    obtain ⟨N, hN, q2⟩ := q2
    rw [if_pos rfl]
    refine wpAny_passesOwn hp (thn (hb pins s2 σ1 H2 _ I2 q2) fun f s3 q3 => ?_)
    cases f with
    | next =>
      obtain ⟨σ3, H3, I3, n3⟩ := q3
      obtain ⟨m', hm, w3⟩ := hN σ3 H3 n3
      exact ⟨m', hm, σ3, H3, I3, w3⟩
    | cont =>
      obtain ⟨σ3, H3, I3, n3⟩ := q3
      obtain ⟨m', hm, w3⟩ := hN σ3 H3 n3
      exact ⟨m', hm, σ3, H3, I3, w3⟩
    | brk => exact q3
    | ret v => exact q3
  | false =>
    rw [if_neg Bool.false_ne_true]
    exact wpAny_execs_nil ⟨σ1, H2, I2, q2⟩
end

/-! ### what a loop or a comprehension walks -/
/-- at turn i: it yields x (the heap may grow), or it stops -/
structure It where
  go : Nat → Hp → Prop
  yld : Nat → Hp → V → Hp → Prop
  stop : Nat → Hp → Prop
/-- the iterator's own objects may turn: they are not the frame's, not pinned, younger than the entry (or a comprehension's own) -/
def FpOk (X : Cx) (pins : List (Addr × Obj)) (H : Hp) (b : Addr) : Prop :=
  H b = none ∧ b ≠ X.env.locals ∧ b ∉ X.fs ∧ (b ∈ X.ex ∨ X.s₀.heap.objs.size ≤ b) ∧ (∀ x c, X.env.cells.lookup x = some c → c ≠ b) ∧ ∀ p ∈ X.pn ++ pins, p.1 ≠ b
theorem Inv.fpOk {X : Cx} {pins : List (Addr × Obj)} {σ : St} {H H' : Hp} {s : Shared} {b : Addr} (I : Inv X pins σ H s) (hb : s.heap.objs.size ≤ b) (hn : H' b = none) : FpOk X pins H' b := by
  refine ⟨hn, Nat.ne_of_gt (Nat.lt_of_lt_of_le I.lt hb), I.nofs hb, .inr (Nat.le_trans I.sz hb), fun x c e z => ?_, fun p hp z => ?_⟩
  · obtain ⟨v, q⟩ := I.cell x c e
    exact absurd (Nat.lt_of_lt_of_le q.lt (by rw [z]; exact hb)) (Nat.lt_irrefl _)
  · exact absurd (Nat.lt_of_lt_of_le (Heap.lt_size (I.pin p hp).1) (by rw [z]; exact hb)) (Nat.lt_irrefl _)
structure Turn (P : Program) (w : World) (K : PySem.W.Frag) (tg : Expr) (J : It) (fp : List Addr) (it : Addr) (tn : Nat → Heap → Prop) : Prop where
  mem : it ∈ fp
  obj : ∀ i h, tn i h → ∀ b ∈ fp, ∃ o, h.get? b = some o ∧ ∀ v, o.data ≠ .cell v
  keep : ∀ i h h', tn i h → (∀ b ∈ fp, ∀ o, h.get? b = some o → h'.get? b = some o) → tn i h'
  item : ∀ (X : Cx), X.prog = P → X.w = w → X.K = K → X.calm = true → ∀ (i : Nat) (pins : List (Addr × Obj)) (s : Shared) (σ : St) (H : Hp) (E : Value → Shared → Prop), Inv X pins σ H s → (∀ b ∈ fp, FpOk X pins H b) → tn i s.heap → J.go i H →
    wpAny (model P w) X.A (pyNext (.ref it)) (fun r s1 => ∃ u, r = some u ∧
      wpAny (model P w) X.A (letOwnedTupleGo tg (.ref it) u) (fun _ s2 => ∃ x H', Inv X pins σ H' s2 ∧ RelV x u ∧ J.yld i H x H' ∧ tn (i + 1) s2.heap ∧ ∀ b ∈ fp, H' b = none) E s1) E s
  done : ∀ (X : Cx), X.prog = P → X.w = w → X.K = K → X.calm = true → ∀ (i : Nat) (pins : List (Addr × Obj)) (s : Shared) (σ : St) (H : Hp) (E : Value → Shared → Prop), Inv X pins σ H s → (∀ b ∈ fp, FpOk X pins H b) → tn i s.heap → J.stop i H →
    wpAny (model P w) X.A (pyNext (.ref it)) (fun r s1 => r = none ∧ Inv X pins σ H s1) E s
  self : ∀ (A : Around) (i : Nat) (s : Shared) (Q : Value → Shared → Prop) (E : Value → Shared → Prop), tn i s.heap → Q (.ref it) s → wpAny (model P w) A (pyIter (.ref it)) Q E s
abbrev TI := St → Hp → (It → Hp → Prop) → Prop
/-- an iterator has come -/
def PIE (X : Cx) (pins : List (Addr × Obj)) (σ : St) (tg : Expr) (R : It → Hp → Prop) (itv : Value) (s2 : Shared) : Prop :=
  ∃ (it : Addr) (fp : List Addr) (tn : Nat → Heap → Prop) (J : It) (H' : Hp), itv = .ref it ∧ Inv X pins σ H' s2 ∧ Turn X.prog X.w X.K tg J fp it tn ∧ tn 0 s2.heap ∧ (∀ b ∈ fp, FpOk X pins H' b) ∧ R J H'
def PI (X : Cx) (tg iter : Expr) (wi : TI) : Prop :=
  ∀ (pins : List (Addr × Obj)) (s : Shared) (σ : St) (H : Hp) (R : It → Hp → Prop), Inv X pins σ H s → wi σ H R →
    wpAny (model X.prog X.w) X.A (eval iter X.env) (fun v s1 => wpAny (model X.prog X.w) X.A (pyIter v) (PIE X pins σ tg R) X.xe s1) X.xe s

/-- the step ahead of the store is nothing for an iterator that keeps no tuple -/
theorem go_of {M : Model} {A : Around} {E : Value → Shared → Prop} {s : Shared} {tg : Expr} {it : Addr} {u : Value} {o : Obj} {n : String} {vs : Array Value} {Q : Unit → Shared → Prop} (ho : s.heap.get? it = some o) (hc : o.cls = .type n) (hd : o.data = .fields vs)
    (hn : ["enumerate", "zip", "dict_itemiterator", "dict_reverseitemiterator", "odict_iterator", "itertools.zip_longest", "itertools.pairwise"].contains n = false) (hQ : Q () s) : wpAny M A (letOwnedTupleGo tg (.ref it) u) Q E s := by
  unfold letOwnedTupleGo
  cases tg <;> first
    | exact wpAny_pure hQ
    | (cases u <;> first
        | exact wpAny_pure hQ
        | (refine wpAny_bind (wpAny_load ho ?_)
           rw [hc, hd]
           show wpAny M A (if (["enumerate", "zip", "dict_itemiterator", "dict_reverseitemiterator", "odict_iterator", "itertools.zip_longest", "itertools.pairwise"].contains n && vs[0]? == some (rawInt _)) = true then _ else _) Q E s
           rw [if_neg (by intro h; rw [hn, Bool.false_and] at h; cases h)]
           exact wpAny_pure hQ))

/-- the list at a, as it stands at each turn (a loop may append to it) -/
def Itl (K : PySem.W.Frag) (a : Addr) : It :=
  ⟨fun i H => ∃ xs x, SqL K H a xs ∧ xs[i]? = some x, fun i H x H' => H' = H ∧ ∀ xs, SqL K H a xs → xs[i]? = some x, fun i H => ∃ xs, SqL K H a xs ∧ xs.length ≤ i⟩
def Itt (K : PySem.W.Frag) (a : Addr) : It :=
  ⟨fun i H => ∃ xs x, SqT K H a xs ∧ xs[i]? = some x, fun i H x H' => H' = H ∧ ∀ xs, SqT K H a xs → xs[i]? = some x, fun i H => ∃ xs, SqT K H a xs ∧ xs.length ≤ i⟩
/-- lo, lo + 1, .. (n of them) -/
def Itr (lo : Int) (n : Nat) : It := ⟨fun i _ => i < n, fun i H x H' => H' = H ∧ x = .int (lo + i), fun i _ => n ≤ i⟩
theorem turn_list {P : Program} {w : World} {K : PySem.W.Frag} {tg : Expr} (a it : Addr) : Turn P w K tg (Itl K a) [it] it (fun i h => h.IsListIter it a i) where
  mem := by simp
  obj := fun i h st b hb => by
    have e : b = it := by simpa using hb
    subst e
    obtain ⟨o, e, c, d⟩ := st
    exact ⟨o, e, fun v z => by rw [d] at z; cases z⟩
  keep := fun i h h' st k => st.at fun o e => k it (by simp) o e
  item := by
    intro X hP hw hK hc i pins s σ H E I hf st hg
    subst hP hw hK
    obtain ⟨xs, x, hq, hx⟩ := hg
    obtain ⟨its, rv, p, hz⟩ := I.list hq
    obtain ⟨u, hu, ru⟩ := rv.get hx
    obtain ⟨f0, f1, f2, f3, f4, f5⟩ := hf it (by simp)
    refine wpAny_pyNext_list_item st p.isList (x := u) (by simpa using hu) fun h' st' sb => ?_
    have I1 : Inv X pins σ H { s with heap := h' } := I.turned (t' := s.toks) (fun b o hb e => (sb.2 b hb).trans e) f0 f1 f3 f4 f5
    obtain ⟨o, e, c, d⟩ := id st'
    exact ⟨u, rfl, go_of (s := { s with heap := h' }) e c d (by decide) ⟨x, H, I1, ru, ⟨rfl, fun ys hy => by rw [I.list_inj hy hq]; exact hx⟩, st', fun b hb => (hf b hb).1⟩⟩
  done := by
    intro X hP hw hK hc i pins s σ H E I hf st hg
    subst hP hw hK
    obtain ⟨xs, hq, hx⟩ := hg
    obtain ⟨its, rv, p, hz⟩ := I.list hq
    obtain ⟨f0, f1, f2, f3, f4, f5⟩ := hf it (by simp)
    have hl := rv.length
    exact wpAny_pyNext_list_end (I.ok.hd hc) st p.isList (by simp; omega) fun h' eb => ⟨rfl, I.turned (t' := s.toks) (fun b o hb e => eb b o hb e) f0 f1 f3 f4 f5⟩
  self := fun _ _ _ _ _ st h => wpAny_pyIter_listiter st h
theorem turn_range {P : Program} {w : World} {K : PySem.W.Frag} {tg : Expr} (it : Addr) (lo : Int) (n : Nat) : Turn P w K tg (Itr lo n) [it] it (fun i h => IsRangeIter h it (lo + (i : Nat) * 1) ((n : Int) - (i : Nat)) 1) where
  mem := by simp
  obj := fun i h st b hb => by
    have e : b = it := by simpa using hb
    subst e
    exact ⟨_, st, fun v z => by
      have z' : Data.fields _ = Data.cell v := z
      cases z'⟩
  keep := fun i h h' st k => k it (by simp) _ st
  item := by
    intro X hP hw hK hc i pins s σ H E I hf st hg
    subst hP hw hK
    obtain ⟨f0, f1, f2, f3, f4, f5⟩ := hf it (by simp)
    have W := Walks.range (prog := X.prog) (w := X.w) (I.ok.hd hc) it lo 1 n
    refine W.item i s _ _ hg st fun v h' tk hv st' kk => ?_
    obtain ⟨t, rfl⟩ := hv
    have I1 : Inv X pins σ H { s with heap := h', toks := tk } := I.turned (fun b o hb e => kk b o (by simpa using hb) e) f0 f1 f3 f4 f5
    refine ⟨_, rfl, go_of (s := { s with heap := h', toks := tk }) (n := "range_iterator") st' rfl rfl (by decide) ⟨.int (lo + i), H, I1, ⟨t, ?_⟩, ⟨rfl, rfl⟩, st', fun b hb => (hf b hb).1⟩⟩
    rw [Int.mul_one]
  done := by
    intro X hP hw hK hc i pins s σ H E I hf st hg
    subst hP hw hK
    obtain ⟨f0, f1, f2, f3, f4, f5⟩ := hf it (by simp)
    exact wpAny_pyNext_range_end (I.ok.hd hc) st (by have : n ≤ i := hg; omega) fun h' eb => ⟨rfl, I.turned (t' := s.toks) (fun b o hb e => eb b o hb e) f0 f1 f3 f4 f5⟩
  self := fun _ _ _ _ _ st h => wpAny_pyIter_rangeiter st h
end L2

namespace L2
open PySem PySem.Spec PyProof.Rows
section
variable {X : Cx} {tg : Expr}
def iList (K : PySem.W.Frag) (tl : TE) : TI := fun σ H R => tl σ H fun x H1 => ∃ a, x = .ref a ∧ (∃ xs, SqL K H1 a xs) ∧ R (Itl K a) H1
def iTup (K : PySem.W.Frag) (tl : TE) : TI := fun σ H R => tl σ H fun x H1 => ∃ a, x = .ref a ∧ (∃ xs, SqT K H1 a xs) ∧ R (Itt K a) H1
theorem pi_list {l : Expr} {tl : TE} (hl : PE X l tl) : PI X tg l (iList X.K tl) := by
  intro pins s σ H R I h
  refine thn (hl pins s σ H _ I h) fun v s1 ⟨x, H1, I1, r1, q1⟩ => ?_
  obtain ⟨a, e, ⟨xs, hq⟩, q⟩ := q1
  subst e
  cases r1
  obtain ⟨its, rv, p, hz⟩ := I1.list hq
  refine wpAny_pyIter_list p.isList ?_
  refine ⟨s1.heap.objs.size, [s1.heap.objs.size], _, _, H1, rfl, I1.kept (t' := s1.toks) fun b o e => Heap.get?_push_of_some _ e, turn_list a _, ⟨_, Heap.get?_push_size _ rfl, rfl, rfl⟩, fun b hb => ?_, q⟩
  have e : b = s1.heap.objs.size := by simpa using hb
  subst e
  exact I1.fpOk (Nat.le_refl _) (I1.hok.fresh (Nat.le_refl _))
/-- a range object just made, walked -/
theorem range_it {pins : List (Addr × Obj)} {σ : St} {H : Hp} {s : Shared} {R : It → Hp → Prop} {E : Value → Shared → Prop} {lo hi : Int} {t u v : Tok} {tk : Nat} (I : Inv X pins σ H s) (h1 : -(2 ^ 62) ≤ lo) (h2 : lo < 2 ^ 62) (h3 : -(2 ^ 62) ≤ hi) (h4 : hi < 2 ^ 62)
    (q : R (Itr lo (hi - lo).toNat) H) : wpAny (model X.prog X.w) X.A (pyIter (.ref s.heap.objs.size)) (PIE X pins σ tg R) E { s with heap := s.heap.push { cls := .type "range", data := .fields #[.int lo t, .int hi u, .int 1 v] }, toks := tk } := by
  refine wpAny_pyIter_range (IsRange.new ..) (small_one h1 h2 h3 h4) ?_
  have I1 : Inv X pins σ H { s with heap := s.heap.push { cls := .type "range", data := .fields #[.int lo t, .int hi u, .int 1 v] }, toks := tk } := I.kept fun b o e => Heap.get?_push_of_some _ e
  refine ⟨(s.heap.push { cls := .type "range", data := .fields #[.int lo t, .int hi u, .int 1 v] }).objs.size, [(s.heap.push { cls := .type "range", data := .fields #[.int lo t, .int hi u, .int 1 v] }).objs.size], _, _, H, rfl,
    I1.kept (t' := tk) fun b o e => Heap.get?_push_of_some _ e, turn_range _ lo (hi - lo).toNat, ?_, fun b hb => ?_, q⟩
  · have e1 : lo + ((0 : Nat) : Int) * 1 = lo := by simp
    have e2 : (((hi - lo).toNat : Nat) : Int) - ((0 : Nat) : Int) = Builtin.Range.rangeSize lo hi 1 := by rw [rangeSize_one]; split <;> omega
    show IsRangeIter _ _ (lo + ((0 : Nat) : Int) * 1) ((((hi - lo).toNat : Nat) : Int) - ((0 : Nat) : Int)) 1
    rw [e1, e2]
    exact Heap.get?_push_size _ rfl
  · have e : b = (s.heap.push { cls := .type "range", data := .fields #[.int lo t, .int hi u, .int 1 v] }).objs.size := by simpa using hb
    subst e
    exact I1.fpOk (Nat.le_refl _) (I1.hok.fresh (Nat.le_refl _))
def iRng1 (ta : TA) : TI := fun σ H R => ta σ H fun vs H1 => ∃ j : Int, vs = [.int j] ∧ -(2 ^ 62) ≤ j ∧ j < 2 ^ 62 ∧ R (Itr 0 j.toNat) H1
def iRng2 (ta : TA) : TI := fun σ H R => ta σ H fun vs H1 => ∃ i j : Int, vs = [.int i, .int j] ∧ (-(2 ^ 62) ≤ i ∧ i < 2 ^ 62 ∧ -(2 ^ 62) ≤ j ∧ j < 2 ^ 62) ∧ R (Itr i (j - i).toNat) H1
theorem pi_range1 {a : Expr} {ta : TA} {p pos : Pos} (hg : Gl X "range") (hm : X.mg "range" = none) (ha : PA X [a] ta) (hs : starEach [a] X.env = [(false, eval a X.env)] := by rfl) : PI X tg (.Call (.Name "range" p) [a] [] pos) (iRng1 ta) := by
  intro pins s σ H R I h
  refine Call_ (ld_blt I hg hm boot_range (PyProof.Rows.callWith_type1 (thn (ha pos pins s σ H _ I h) fun us s1 ⟨vs, H1, I1, r1, q1⟩ => ?_) hs rfl))
  obtain ⟨j, e, q1, q2, q⟩ := q1
  subst e
  cases r1 with
  | cons r rr =>
    cases rr
    obtain ⟨t, rfl⟩ := r
    exact call_range_1 (range_it I1 (by omega) (by omega) q1 q2 (by simpa using q))
/-! ### for -/
/-- W: the invariant by the turn and a measure; N: what the body is to reach -/
def tFor (wi : TI) (g : TG) (tb : TS) : TS := fun D σ H => wi σ H fun J H1 => ∃ W : Nat → Nat → St → Hp → Prop, (∃ m, W 0 m σ H1) ∧ ∀ i m σ H, W i m σ H →
  (J.stop i H ∧ D.nx σ H) ∨ (J.go i H ∧ ∃ N : St → Hp → Prop, (∀ σ' H', N σ' H' → ∃ m', m' < m ∧ W (i + 1) m' σ' H') ∧ ∀ x H', J.yld i H x H' → g x σ H' fun σ2 H2 => tb { D with nx := N, ct := N, bk := D.nx } σ2 H2)
/-- the records at fp as they stand -/
def pinsAt (fp : List Addr) (h : Heap) : List (Addr × Obj) := fp.filterMap fun b => (h.get? b).map fun o => (b, o)
theorem mem_pinsAt {fp : List Addr} {h : Heap} {b : Addr} {o : Obj} (hb : b ∈ fp) (e : h.get? b = some o) : (b, o) ∈ pinsAt fp h := List.mem_filterMap.mpr ⟨b, hb, by rw [e]; rfl⟩
theorem of_pinsAt {fp : List Addr} {h : Heap} {p : Addr × Obj} (hp : p ∈ pinsAt fp h) : p.1 ∈ fp ∧ h.get? p.1 = some p.2 := by
  obtain ⟨b, hb, e⟩ := List.mem_filterMap.mp hp
  cases q : h.get? b with
  | none => rw [q] at e; cases e
  | some o =>
    rw [q] at e
    have e' : (b, o) = p := Option.some.inj e
    subst e'
    exact ⟨hb, q⟩
theorem Inv.pinned {pins : List (Addr × Obj)} {σ : St} {H : Hp} {s : Shared} {fp : List Addr} (I : Inv X pins σ H s) (hf : ∀ b ∈ fp, FpOk X pins H b) (ho : ∀ b ∈ fp, ∃ o, s.heap.get? b = some o ∧ ∀ v, o.data ≠ .cell v) : Inv X (pins ++ pinsAt fp s.heap) σ H s :=
  I.pins_of fun p hp => (List.mem_append.mp hp).elim (fun z => I.pin p (List.mem_append_right _ z)) fun z => by
    obtain ⟨hb, e⟩ := of_pinsAt z
    obtain ⟨f0, f1, f2, _⟩ := hf p.1 hb
    obtain ⟨o, e', d⟩ := ho p.1 hb
    rw [e] at e'; cases e'
    exact ⟨e, f0, f1, f2, d⟩
theorem Inv.unpinned {pins pl : List (Addr × Obj)} {σ : St} {H : Hp} {s : Shared} (I : Inv X (pins ++ pl) σ H s) : Inv X pins σ H s := I.pins_of fun p hp => I.pin p (List.mem_append_right _ (List.mem_append_left _ hp))
theorem ps_for {iter : Expr} {body : List Stmt} {wi : TI} {g : TG} {tb : TS} {pos : Pos} (hp : PassesOwn (model X.prog X.w) X.A X.env X.xe) (hc : X.calm = true) (hi : PI X tg iter wi) (hg : PG X tg g) (hb : PSs X body tb)
    (hs : ∀ x, foldedSetIterable iter X.env x = pure x := by intro _; rfl) : PS X (.For tg iter body [] pos) (tFor wi g tb) := by
  intro pins s σ H D I h
  refine wpAny_For (thn (hi pins s σ H _ I h) fun v s1 h1 => thn h1 fun itv s2 h2 => ?_) hs
  obtain ⟨it, fp, tn, J, H2, e, I2, T, st2, f2, W, ⟨m0, w0⟩, turn⟩ := h2
  subst e
  -- what stays true of the iterator's objects through the loop
  have stat : ∀ {H' : Hp}, (∀ b ∈ fp, H' b = none) → ∀ b ∈ fp, FpOk X pins H' b := fun hn b hb => ⟨hn b hb, (f2 b hb).2⟩
  refine codeAny_forLoop_any (fun n s' => ∃ i σ' H', Inv X pins σ' H' s' ∧ tn i s'.heap ∧ (∀ b ∈ fp, H' b = none) ∧ W i n σ' H') ?_ m0 ⟨0, σ, H2, I2, st2, fun b hb => (f2 b hb).1, w0⟩
  rintro n s3 ⟨i, σ3, H3, I3, st3, fr3, w3⟩
  rcases turn i n σ3 H3 w3 with ⟨stop, qn⟩ | ⟨go, N, hN, step⟩
  · refine wpAny_passesOwn hp (thn (T.done X rfl rfl rfl hc i pins s3 σ3 H3 X.xe I3 (stat fr3) st3 stop) fun r s4 ⟨hr, I4⟩ => ?_)
    subst hr
    exact wpAny_execs_nil ⟨σ3, H3, I4, qn⟩
  · refine wpAny_passesOwn hp (thn (T.item X rfl rfl rfl hc i pins s3 σ3 H3 X.xe I3 (stat fr3) st3 go) fun r s4 ⟨u, hr, h4⟩ => ?_)
    subst hr
    refine wpAny_passesOwn hp (thn h4 fun _ s5 ⟨x, H5, I5, r5, y5, st5, fr5⟩ => ?_)
    have I5' := I5.pinned (stat fr5) (T.obj _ _ st5)
    refine wpAny_passesOwn hp (thn (hg _ s5 σ3 H5 x u _ I5' r5 (step x H5 y5)) fun _ s6 ⟨σ6, H6, I6, q6⟩ => ?_)
    refine wpAny_passesOwn hp (thn (hb _ s6 σ6 H6 _ I6 q6) fun f s7 q7 => ?_)
    have again : ∀ {σ7 : St} {H7 : Hp}, Inv X (pins ++ pinsAt fp s5.heap) σ7 H7 s7 → N σ7 H7 → ∃ m, m < n ∧ ∃ i σ' H', Inv X pins σ' H' s7 ∧ tn i s7.heap ∧ (∀ b ∈ fp, H' b = none) ∧ W i m σ' H' := fun {σ7 H7} I7 n7 => by
      obtain ⟨m', hm, w7⟩ := hN σ7 H7 n7
      refine ⟨m', hm, i + 1, σ7, H7, I7.unpinned, T.keep _ _ _ st5 fun b hb o e => (I7.pin (b, o) (List.mem_append_right _ (List.mem_append_right _ (mem_pinsAt hb e)))).1, fun b hb => ?_, w7⟩
      obtain ⟨o, e, d⟩ := T.obj _ _ st5 b hb
      exact (I7.pin (b, o) (List.mem_append_right _ (List.mem_append_right _ (mem_pinsAt hb e)))).2.1
    cases f with
    | next => obtain ⟨σ7, H7, I7, n7⟩ := q7; exact again I7 n7
    | cont => obtain ⟨σ7, H7, I7, n7⟩ := q7; exact again I7 n7
    | brk => obtain ⟨σ7, H7, I7, q7⟩ := q7; exact ⟨σ7, H7, I7.unpinned, q7⟩
    | ret v => obtain ⟨x7, σ7, H7, I7, r7, q7⟩ := q7; exact ⟨x7, σ7, H7, I7.unpinned, r7, q7⟩
end

/-! ### the forms one uses -/
/-- over a list that the body leaves as it is -/
theorem for_list {K : PySem.W.Frag} {a : Addr} {xs : List V} {g : TG} {tb : TS} {D : Ends} {σ : St} {H : Hp} (Pv : Nat → St → Hp → Prop) (h0 : Pv 0 σ H) (hl : ∀ i σ H, i ≤ xs.length → Pv i σ H → SqL K H a xs)
    (hs : ∀ i x σ H, xs[i]? = some x → Pv i σ H → g x σ H fun σ2 H2 => tb { D with nx := Pv (i + 1), ct := Pv (i + 1), bk := D.nx } σ2 H2) (hd : ∀ σ H, Pv xs.length σ H → D.nx σ H) :
    ∃ W : Nat → Nat → St → Hp → Prop, (∃ m, W 0 m σ H) ∧ ∀ i m σ H, W i m σ H →
      ((Itl K a).stop i H ∧ D.nx σ H) ∨ ((Itl K a).go i H ∧ ∃ N : St → Hp → Prop, (∀ σ' H', N σ' H' → ∃ m', m' < m ∧ W (i + 1) m' σ' H') ∧ ∀ x H', (Itl K a).yld i H x H' → g x σ H' fun σ2 H2 => tb { D with nx := N, ct := N, bk := D.nx } σ2 H2) := by
  refine ⟨fun i m σ H => m = xs.length - i ∧ i ≤ xs.length ∧ Pv i σ H, ⟨xs.length, by simp, Nat.zero_le _, h0⟩, ?_⟩
  rintro i m σ H ⟨rfl, hi, p⟩
  have q := hl i σ H hi p
  by_cases hlt : i < xs.length
  · refine .inr ⟨⟨xs, xs[i], q, by simp [hlt]⟩, Pv (i + 1), fun σ' H' p' => ⟨xs.length - (i + 1), by omega, rfl, hlt, p'⟩, fun x H' y => ?_⟩
    obtain ⟨e, y⟩ := y
    subst e
    exact hs i x σ _ (y xs q) p
  · have e : i = xs.length := by omega
    subst e
    exact .inl ⟨⟨xs, q, Nat.le_refl _⟩, hd σ H p⟩
theorem for_range {lo : Int} {n : Nat} {g : TG} {tb : TS} {D : Ends} {σ : St} {H : Hp} (Pv : Nat → St → Hp → Prop) (h0 : Pv 0 σ H)
    (hs : ∀ i σ H, i < n → Pv i σ H → g (.int (lo + i)) σ H fun σ2 H2 => tb { D with nx := Pv (i + 1), ct := Pv (i + 1), bk := D.nx } σ2 H2) (hd : ∀ σ H, Pv n σ H → D.nx σ H) :
    ∃ W : Nat → Nat → St → Hp → Prop, (∃ m, W 0 m σ H) ∧ ∀ i m σ H, W i m σ H →
      ((Itr lo n).stop i H ∧ D.nx σ H) ∨ ((Itr lo n).go i H ∧ ∃ N : St → Hp → Prop, (∀ σ' H', N σ' H' → ∃ m', m' < m ∧ W (i + 1) m' σ' H') ∧ ∀ x H', (Itr lo n).yld i H x H' → g x σ H' fun σ2 H2 => tb { D with nx := N, ct := N, bk := D.nx } σ2 H2) := by
  refine ⟨fun i m σ H => m = n - i ∧ i ≤ n ∧ Pv i σ H, ⟨n, by simp, Nat.zero_le _, h0⟩, ?_⟩
  rintro i m σ H ⟨rfl, hi, p⟩
  by_cases hlt : i < n
  · refine .inr ⟨hlt, Pv (i + 1), fun σ' H' p' => ⟨n - (i + 1), by omega, rfl, hlt, p'⟩, fun x H' y => ?_⟩
    obtain ⟨e, y⟩ := y
    subst e y
    exact hs i σ _ hlt p
  · have e : i = n := by omega
    subst e
    exact .inl ⟨Nat.le_refl _, hd σ H p⟩
end L2

namespace L2
open PySem PySem.Spec PyProof.Rows

abbrev R2 := V → V → Hp → VK → Prop
/-- a two-place operation on values: f is binaryOp op, inplaceOp op or compareOp op -/
def OpR (X : Cx) (f : Value → Value → Sem Value) (r : R2) : Prop :=
  ∀ (pins : List (Addr × Obj)) (s : Shared) (σ : St) (H : Hp) (x y : V) (v u : Value) (Q : VK), Inv X pins σ H s → RelV x v → RelV y u → r x y H Q →
    wpAny (model X.prog X.w) X.A (f v u) (EP X pins σ Q) X.xe s
/-- a one-place operation -/
def UnR (X : Cx) (f : Value → Sem Value) (r : V → Hp → VK → Prop) : Prop :=
  ∀ (pins : List (Addr × Obj)) (s : Shared) (σ : St) (H : Hp) (x : V) (v : Value) (Q : VK), Inv X pins σ H s → RelV x v → r x H Q →
    wpAny (model X.prog X.w) X.A (f v) (EP X pins σ Q) X.xe s
/-- a call of a value that is known (a builtin, a type) with values -/
def CallR (X : Cx) (f : Value) (r : List V → Hp → VK → Prop) : Prop :=
  ∀ (pins : List (Addr × Obj)) (s : Shared) (σ : St) (H : Hp) (xs : List V) (us : List Value) (Q : VK), Inv X pins σ H s → Vals xs us → r xs H Q →
    wpAny (model X.prog X.w) X.A (call f us) (EP X pins σ Q) X.xe s
/-- a value's truth -/
def TruR (X : Cx) (r : V → Hp → (Bool → Hp → Prop) → Prop) : Prop :=
  ∀ (pins : List (Addr × Obj)) (s : Shared) (σ : St) (H : Hp) (x : V) (v : Value) (Q : Bool → Hp → Prop), Inv X pins σ H s → RelV x v → r x H Q →
    wpAny (model X.prog X.w) X.A (truthy v) (TP X pins σ Q) X.xe s

def tOp (r : R2) (ta tb : TE) : TE := fun σ H Q => ta σ H fun x H1 => tb σ H1 fun y H2 => r x y H2 Q
def tUn (r : V → Hp → VK → Prop) (ta : TE) : TE := fun σ H Q => ta σ H fun x H1 => r x H1 Q
/-- ints in, under C, and a value out -/
def rI (C : Int → Int → Prop) (g : Int → Int → V) : R2 := fun x y H Q => ∃ i j, x = .int i ∧ y = .int j ∧ C i j ∧ Q (g i j) H
def rI0 (g : Int → Int → V) : R2 := fun x y H Q => ∃ i j, x = .int i ∧ y = .int j ∧ Q (g i j) H
def rU (g : Int → V) : V → Hp → VK → Prop := fun x H Q => ∃ i, x = .int i ∧ Q (g i) H

section
variable {X : Cx} {a b c : Expr} {ta tb tc : TE} {pos : Pos}

theorem binT (ha : PE X a ta) (hb : PE X b tb) {pins : List (Addr × Obj)} {s : Shared} {σ : St} {H : Hp} {R : V → V → Hp → Prop} (I : Inv X pins σ H s)
    (h : ta σ H fun x H1 => tb σ H1 fun y H2 => R x y H2) {Q : Value → Shared → Prop} {f : Value → Value → Sem Value}
    (hf : ∀ v u s2 x y H2, Inv X pins σ H2 s2 → RelV x v → RelV y u → R x y H2 → wpAny (model X.prog X.w) X.A (f v u) Q X.xe s2) :
    wpAny (model X.prog X.w) X.A (eval a X.env) (fun v s₁ => wpAny (model X.prog X.w) X.A (eval b X.env) (fun u s₂ => wpAny (model X.prog X.w) X.A (f v u) Q X.xe s₂) X.xe s₁) X.xe s := by
  refine thn (ha pins s σ H _ I h) fun v s1 ⟨x, H1, I1, r1, q1⟩ => ?_
  refine thn (hb pins s1 σ H1 _ I1 q1) fun u s2 ⟨y, H2, I2, r2, q2⟩ => ?_
  exact hf v u s2 x y H2 I2 r1 r2 q2

theorem pe_op {op : Operator} {r : R2} (ho : OpR X (binaryOp op) r) (ha : PE X a ta) (hb : PE X b tb) : PE X (.BinOp a op b pos) (tOp r ta tb) := by
  intro pins s σ H Q I h
  exact wpAny_BinOp (binT ha hb I h fun v u s2 x y H2 I2 rx ry q => ho pins s2 σ H2 x y v u Q I2 rx ry q)
theorem pe_un {op : UnaryOp} {r : V → Hp → VK → Prop} (ho : UnR X (unaryOp op) r) (ha : PE X a ta) : PE X (.UnaryOp op a pos) (tUn r ta) := by
  intro pins s σ H Q I h
  exact UnaryOp_ (thn (ha pins s σ H _ I h) fun v s1 ⟨x, H1, I1, r1, q1⟩ => ho pins s1 σ H1 x v Q I1 r1 q1)
/-! ### ints -/
theorem opI {f : Value → Value → Sem Value} {C : Int → Int → Prop} {g : Int → Int → Int}
    (rule : ∀ (i j : Int) (t u : Tok) (s : Shared) (Q : Value → Shared → Prop) (E : Value → Shared → Prop), C i j → Q (.int (g i j) s.toks) { s with toks := s.toks + 1 } → wpAny (model X.prog X.w) X.A (f (.int i t) (.int j u)) Q E s) :
    OpR X f (rI C fun i j => .int (g i j)) := by
  intro pins s σ H x y v u Q I rx ry h
  obtain ⟨i, j, rfl, rfl, hc, q⟩ := h
  obtain ⟨t, rfl⟩ := rx
  obtain ⟨t', rfl⟩ := ry
  exact rule i j t t' s _ _ hc ⟨.int (g i j), H, I.tok _, ⟨_, rfl⟩, q⟩
theorem opI0 {f : Value → Value → Sem Value} {g : Int → Int → Int}
    (rule : ∀ (i j : Int) (t u : Tok) (s : Shared) (Q : Value → Shared → Prop) (E : Value → Shared → Prop), Q (.int (g i j) s.toks) { s with toks := s.toks + 1 } → wpAny (model X.prog X.w) X.A (f (.int i t) (.int j u)) Q E s) :
    OpR X f (rI0 fun i j => .int (g i j)) := by
  intro pins s σ H x y v u Q I rx ry h
  obtain ⟨i, j, rfl, rfl, q⟩ := h
  obtain ⟨t, rfl⟩ := rx
  obtain ⟨t', rfl⟩ := ry
  exact rule i j t t' s _ _ ⟨.int (g i j), H, I.tok _, ⟨_, rfl⟩, q⟩
theorem opB0 {f : Value → Value → Sem Value} {g : Int → Int → Bool}
    (rule : ∀ (i j : Int) (t u : Tok) (s : Shared) (Q : Value → Shared → Prop) (E : Value → Shared → Prop), Q (.bool (g i j)) s → wpAny (model X.prog X.w) X.A (f (.int i t) (.int j u)) Q E s) :
    OpR X f (rI0 fun i j => .bl (g i j)) := by
  intro pins s σ H x y v u Q I rx ry h
  obtain ⟨i, j, rfl, rfl, q⟩ := h
  obtain ⟨t, rfl⟩ := rx
  obtain ⟨t', rfl⟩ := ry
  exact rule i j t t' s _ _ ⟨.bl (g i j), H, I, rfl, q⟩

def CDiv (i j : Int) : Prop := 0 < j ∧ j < 1073741824
def CDivN (i j : Int) : Prop := j ≠ 0 ∧ j.natAbs < 1073741824
def CPow (i j : Int) : Prop := 0 ≤ j ∧ j ≤ 1000000 ∧ i.natAbs < 2 ^ 64
def CMul (i j : Int) : Prop := (-(2 ^ 64) < i ∧ i < 2 ^ 64) ∨ (-(2 ^ 64) < j ∧ j < 2 ^ 64)
theorem CMul.ok {i j : Int} (h : CMul i j) : IntMulOk i j := by
  rcases h with ⟨h1, h2⟩ | ⟨h1, h2⟩
  · exact .of_left (intBits_le_64 h1 h2)
  · exact .of_right (intBits_le_64 h1 h2)
theorem op_add : OpR X (binaryOp .Add) (rI0 fun i j => .int (i + j)) := opI0 fun _ _ _ _ _ _ _ q => add_int q
theorem op_sub : OpR X (binaryOp .Sub) (rI0 fun i j => .int (i - j)) := opI0 fun _ _ _ _ _ _ _ q => sub_int q
theorem op_mul : OpR X (binaryOp .Mult) (rI CMul fun i j => .int (i * j)) := opI fun _ _ _ _ _ _ _ hc q => mul_int q hc.ok
/-- // by a positive divisor -/
theorem op_fdiv : OpR X (binaryOp .FloorDiv) (rI CDiv fun i j => .int (i / j)) := opI fun i j _ _ _ _ _ hc q => by
  have h1 : (0 : Int) < j := hc.1
  have h2 : j < 1073741824 := hc.2
  exact floordiv_int (by omega) (by rw [Int.fdiv_eq_ediv_of_nonneg i (by omega)]; exact q) (.inl (PyProof.noPylong_small (by omega)))
/-- % by a positive divisor of any size -/
theorem op_mod : OpR X (binaryOp .Mod) (rI (fun _ j => 0 < j) fun i j => .int (i % j)) := opI fun i j _ _ _ _ _ hc q => by
  have h1 : (0 : Int) < j := hc
  exact mod_int' (by omega) (by rw [Int.fmod_eq_emod_of_nonneg i (by omega)]; exact q)
theorem unI {f : Value → Sem Value} {g : Int → Int}
    (rule : ∀ (i : Int) (t : Tok) (s : Shared) (Q : Value → Shared → Prop) (E : Value → Shared → Prop), Q (.int (g i) s.toks) { s with toks := s.toks + 1 } → wpAny (model X.prog X.w) X.A (f (.int i t)) Q E s) :
    UnR X f (rU fun i => .int (g i)) := by
  intro pins s σ H x v Q I rx h
  obtain ⟨i, rfl, q⟩ := h
  obtain ⟨t, rfl⟩ := rx
  exact rule i t s _ _ ⟨.int (g i), H, I.tok _, ⟨_, rfl⟩, q⟩
theorem un_neg : UnR X (unaryOp .USub) (rU fun i => .int (-i)) := unI fun _ _ _ _ _ q => neg_int q
/-! ### bools among ints: n += (a < b) -/
end

/-! ### comparisons -/
/-- the scalars that == tells apart as data does -/
def scal : V → V → Bool
  | .non, .non => true | .non, .int _ => true | .int _, .non => true | .non, .bl _ => true | .bl _, .non => true | .non, .str _ => true | .str _, .non => true
  | .int _, .int _ => true | .bl _, .bl _ => true | .str _, .str _ => true | .byt _, .byt _ => true
  | .int _, .str _ => true | .str _, .int _ => true | .bl _, .str _ => true | .str _, .bl _ => true
  | _, _ => false
def rEq : R2 := fun x y H Q => scal x y = true ∧ Q (.bl (decide (x = y))) H
def rNe : R2 := fun x y H Q => scal x y = true ∧ Q (.bl (!decide (x = y))) H

theorem dec_int {i j : Int} : decide (V.int i = V.int j) = (i == j) := by
  rw [Bool.eq_iff_iff]
  simp
theorem dec_bl {i j : Bool} : decide (V.bl i = V.bl j) = (i == j) := by
  rw [Bool.eq_iff_iff]
  simp
theorem dec_str {i j : Str} : decide (V.str i = V.str j) = (i == j) := by
  rw [Bool.eq_iff_iff]
  simp
theorem dec_byt {i j : Array UInt8} : decide (V.byt i = V.byt j) = (i.toList == j.toList) := by
  rw [Bool.eq_iff_iff]
  cases i
  cases j
  simp

section
variable {X : Cx} {a b c : Expr} {ta tb tc : TE} {pos : Pos}
theorem fin_bl {pins : List (Addr × Obj)} {σ : St} {H : Hp} {s : Shared} {Q : VK} {k k' : Bool} (I : Inv X pins σ H s) (q : Q (.bl k) H) (e : k = k') : EP X pins σ Q (.bool k') s := by
  subst e
  exact ⟨.bl k, H, I, rfl, q⟩
theorem op_eq : OpR X (compareOp .Eq) rEq := by
  intro pins s σ H x y v u Q I rx ry h
  obtain ⟨hs, q⟩ := h
  cases x with
  | non =>
    cases rx
    cases y with
    | non => cases ry; exact PySem.EqNone.eq_none_none (fin_bl I q (by simp))
    | bl j => cases ry; exact PySem.EqNone.eq_none_bool (fin_bl I q (by simp))
    | int j => obtain ⟨t', rfl⟩ := ry; exact PySem.EqNone.eq_none_int (fin_bl I q (by simp))
    | str j => obtain ⟨t', rfl⟩ := ry; exact PySem.EqNone.eq_none_str (fin_bl I q (by simp))
    | _ => exact absurd (show false = true from hs) Bool.false_ne_true
  | bl i =>
    cases rx
    cases y with
    | non => cases ry; exact PySem.EqNone.eq_bool_none (fin_bl I q (by simp))
    | bl j => cases ry; exact eq_bool (fin_bl I q dec_bl)
    | str j => obtain ⟨t', rfl⟩ := ry; exact PySem.EqMixed.eq_bool_str (fin_bl I q (by simp))
    | _ => exact absurd (show false = true from hs) Bool.false_ne_true
  | int i =>
    obtain ⟨t, rfl⟩ := rx
    cases y with
    | non => cases ry; exact PySem.EqNone.eq_int_none (fin_bl I q (by simp))
    | int j => obtain ⟨t', rfl⟩ := ry; exact eq_int (fin_bl I q dec_int)
    | str j => obtain ⟨t', rfl⟩ := ry; exact PySem.EqMixed.eq_int_str (fin_bl I q (by simp))
    | _ => exact absurd (show false = true from hs) Bool.false_ne_true
  | str i =>
    obtain ⟨t, rfl⟩ := rx
    cases y with
    | non => cases ry; exact PySem.EqNone.eq_str_none (fin_bl I q (by simp))
    | bl j => cases ry; exact PySem.EqMixed.eq_str_bool (fin_bl I q (by simp))
    | int j => obtain ⟨t', rfl⟩ := ry; exact PySem.EqMixed.eq_str_int (fin_bl I q (by simp))
    | str j => obtain ⟨t', rfl⟩ := ry; exact eq_str (fin_bl I q dec_str)
    | _ => exact absurd (show false = true from hs) Bool.false_ne_true
  | byt i =>
    obtain ⟨t, rfl⟩ := rx
    cases y with
    | byt j => obtain ⟨t', rfl⟩ := ry; exact PySem.W.eq_bytes (fin_bl I q dec_byt)
    | _ => exact absurd (show false = true from hs) Bool.false_ne_true
  | _ => cases y <;> exact absurd (show false = true from hs) Bool.false_ne_true
theorem op_ne : OpR X (compareOp .NotEq) rNe := by
  intro pins s σ H x y v u Q I rx ry h
  obtain ⟨hs, q⟩ := h
  cases x with
  | non =>
    cases rx
    cases y with
    | non => cases ry; exact PySem.EqNone.ne_none_none (fin_bl I q (by simp))
    | bl j => cases ry; exact PySem.EqNone.ne_none_bool (fin_bl I q (by simp))
    | int j => obtain ⟨t', rfl⟩ := ry; exact PySem.EqNone.ne_none_int (fin_bl I q (by simp))
    | str j => obtain ⟨t', rfl⟩ := ry; exact PySem.EqNone.ne_none_str (fin_bl I q (by simp))
    | _ => exact absurd (show false = true from hs) Bool.false_ne_true
  | bl i =>
    cases rx
    cases y with
    | non => cases ry; exact PySem.EqNone.ne_bool_none (fin_bl I q (by simp))
    | bl j => cases ry; exact ne_bool (fin_bl I q (congrArg not dec_bl))
    | str j => obtain ⟨t', rfl⟩ := ry; exact PySem.EqMixed.ne_bool_str (fin_bl I q (by simp))
    | _ => exact absurd (show false = true from hs) Bool.false_ne_true
  | int i =>
    obtain ⟨t, rfl⟩ := rx
    cases y with
    | non => cases ry; exact PySem.EqNone.ne_int_none (fin_bl I q (by simp))
    | int j => obtain ⟨t', rfl⟩ := ry; exact ne_int (fin_bl I q (congrArg not dec_int))
    | str j => obtain ⟨t', rfl⟩ := ry; exact PySem.EqMixed.ne_int_str (fin_bl I q (by simp))
    | _ => exact absurd (show false = true from hs) Bool.false_ne_true
  | str i =>
    obtain ⟨t, rfl⟩ := rx
    cases y with
    | non => cases ry; exact PySem.EqNone.ne_str_none (fin_bl I q (by simp))
    | bl j => cases ry; exact PySem.EqMixed.ne_str_bool (fin_bl I q (by simp))
    | int j => obtain ⟨t', rfl⟩ := ry; exact PySem.EqMixed.ne_str_int (fin_bl I q (by simp))
    | str j => obtain ⟨t', rfl⟩ := ry; exact ne_str (fin_bl I q (congrArg not dec_str))
    | _ => exact absurd (show false = true from hs) Bool.false_ne_true
  | byt i =>
    obtain ⟨t, rfl⟩ := rx
    cases y with
    | byt j => obtain ⟨t', rfl⟩ := ry; exact PySem.W.ne_bytes (fin_bl I q (congrArg not dec_byt))
    | _ => exact absurd (show false = true from hs) Bool.false_ne_true
  | _ => cases y <;> exact absurd (show false = true from hs) Bool.false_ne_true

theorem op_lt : OpR X (compareOp .Lt) (rI0 fun i j => .bl (decide (i < j))) := opB0 fun _ _ _ _ _ _ _ q => lt_int q
theorem op_gt : OpR X (compareOp .Gt) (rI0 fun i j => .bl (decide (j < i))) := opB0 fun _ _ _ _ _ _ _ q => gt_int q
/-- the one string within the other -/
theorem op_in_str : OpR X (compareOp .In) (fun x y H Q => ∃ i j, x = .str i ∧ y = .str j ∧ Q (.bl (!(Builtin.Str.occurrences j i 0 j.length 1).isEmpty)) H) := by
  intro pins s σ H x y v u Q I rx ry h
  obtain ⟨i, j, rfl, rfl, q⟩ := h
  obtain ⟨t, rfl⟩ := rx
  obtain ⟨t', rfl⟩ := ry
  exact in_str (fin_bl I q rfl)

/-- is None, is not None: the right side a value none -/
theorem op_isN : OpR X (compareOp .Is) (fun x y H Q => y = .non ∧ Q (.bl (decide (x = .non))) H) := by
  intro pins s σ H x y v u Q I rx ry h
  obtain ⟨rfl, q⟩ := h
  cases ry
  refine is_none_gen (fin_bl I q ?_)
  cases x <;> first
    | (cases rx; rfl)
    | (obtain ⟨t, rfl⟩ := rx; rfl)
theorem op_notN : OpR X (compareOp .IsNot) (fun x y H Q => y = .non ∧ Q (.bl (!decide (x = .non))) H) := by
  intro pins s σ H x y v u Q I rx ry h
  obtain ⟨rfl, q⟩ := h
  cases ry
  refine isnot_none_gen (fin_bl I q ?_)
  cases x <;> first
    | (cases rx; rfl)
    | (obtain ⟨t, rfl⟩ := rx; rfl)

/-- is, is not of two objects that are tracked lists or instances -/
def isObj : HO → Bool
  | .lst _ => true
  | .ins _ _ _ => true
  | _ => false
theorem nomark (b : Expr) {op : CmpOp} (h : op ≠ .In := by decide) (h2 : op ≠ .NotIn := by decide) : behindInMarks op b = false := by
  have e1 : (op == CmpOp.In) = false := by cases op <;> first | rfl | exact absurd rfl h
  have e2 : (op == CmpOp.NotIn) = false := by cases op <;> first | rfl | exact absurd rfl h2
  cases b <;> simp [behindInMarks, e1, e2]
/-- a comparison as a value; hm: nomark b, or (for in, not in) by with_unfolding_all rfl -/
theorem pe_cmpR {op : CmpOp} {r : R2} (ho : OpR X (compareOp op) r) (ha : PE X a ta) (hb : PE X b tb) (hm : behindInMarks op b = false) : PE X (.Compare a [op] [b] pos) (tOp r ta tb) := by
  intro pins s σ H Q I h
  exact wpAny_Compare1 (binT ha hb I h fun v u s2 x y H2 I2 rx ry q => ho pins s2 σ H2 x y v u Q I2 rx ry q) hm
/-- a reading of a value as a test -/
def tTest (t : TE) : TT := fun σ H Q => t σ H fun x H' => ∃ k, x = .bl k ∧ Q k H'
theorem pt_cmpR {op : CmpOp} {r : R2} (ho : OpR X (compareOp op) r) (ha : PE X a ta) (hb : PE X b tb) (hm : behindInMarks op b = false) : PT X (.Compare a [op] [b] pos) (tTest (tOp r ta tb)) := by
  intro pins s σ H Q I h
  refine wpAny_isTrue_Compare1 (thn (ha pins s σ H _ I h) fun v s1 ⟨x, H1, I1, r1, q1⟩ => thn (hb pins s1 σ H1 _ I1 q1) fun u s2 ⟨y, H2, I2, r2, q2⟩ =>
    thn (ho pins s2 σ H2 x y v u _ I2 r1 r2 q2) fun c s3 ⟨z, H3, I3, r3, k, e, q3⟩ => ?_) hm
  subst e
  cases r3
  exact wpAny_truthy_bool ⟨H3, I3, q3⟩
/-- a op1 b op2 c -/
def tChain (r r' : R2) (ta tb tc : TE) : TE := fun σ H Q => ta σ H fun x H1 => tb σ H1 fun y H2 => r x y H2 fun z H3 => ∃ k, z = .bl k ∧
  (if k = true then tc σ H3 fun w' H4 => r' y w' H4 Q else Q (.bl false) H3)
/-! ### truth -/
/-- a value's truth by the abstract heap -/
def TruV (K : PySem.W.Frag) (x : V) (H : Hp) (k : Bool) : Prop :=
  match x with
  | .non => k = false
  | .bl b => k = b
  | .int i => k = (i != 0)
  | .str y => y.length ≤ sizeLine ∧ k = ((y.length : Int) != 0)
  | .byt y => y.size ≤ sizeLine ∧ k = ((y.size : Int) != 0)
  | .ref p => (∃ xs, SqL K H p xs ∧ k = !xs.isEmpty) ∨ (∃ xs, SqT K H p xs ∧ k = !xs.isEmpty) ∨ ∃ kvs, H p = some (.dK kvs) ∧ k = !kvs.isEmpty
  | _ => False
theorem line63 : (sizeLine : Nat) < 2 ^ 63 := by rw [sizeLine_eq]; decide
/-! ### strs and bytes -/
theorem op_add_str : OpR X (binaryOp .Add) (fun x y H Q => ∃ i j, x = .str i ∧ y = .str j ∧ i.length + j.length ≤ sizeLine ∧ Q (.str (i ++ j)) H) := by
  intro pins s σ H x y v u Q I rx ry h
  obtain ⟨i, j, rfl, rfl, hz, q⟩ := h
  obtain ⟨t, rfl⟩ := rx
  obtain ⟨t', rfl⟩ := ry
  exact add_str (fun t' tk => ⟨.str (i ++ j), H, I.tok _, ⟨_, rfl⟩, q⟩) hz
def PlainIxT (b : Expr) : Prop := ∀ o i, subscripted b false o i = operate [o, i] (getItem o i)
/-! ### scalar builtins, by CallR -/
theorem vals1 {x : V} {us : List Value} (r : Vals [x] us) : ∃ u, us = [u] ∧ RelV x u := by
  cases r with
  | cons r1 r2 => cases r2; exact ⟨_, rfl, r1⟩
theorem call_int1 : CallR X (.type "int") (fun xs H Q => (∃ i, xs = [.int i] ∧ Q (.int i) H) ∨ ∃ k, xs = [.bl k] ∧ Q (.int (if k then 1 else 0)) H) := by
  intro pins s σ H xs us Q I r h
  rcases h with ⟨i, rfl, q⟩ | ⟨k, rfl, q⟩
  · obtain ⟨u, rfl, t, rfl⟩ := vals1 r
    exact call_int_int ⟨.int i, H, I, ⟨_, rfl⟩, q⟩
  · obtain ⟨u, rfl, r1⟩ := vals1 r
    cases r1
    exact call_int_bool ⟨.int (if k then 1 else 0), H, I.tok _, ⟨_, rfl⟩, q⟩
theorem call_str_int : CallR X (.type "str") (fun xs H Q => ∃ i, xs = [.int i] ∧ i.natAbs.log2 < 1920 ∧ Q (.str (toString i)) H) := by
  intro pins s σ H xs us Q I r h
  obtain ⟨i, rfl, hz, q⟩ := h
  obtain ⟨u, rfl, t, rfl⟩ := vals1 r
  exact PySem.P.str_of_int hz ⟨.str _, H, I.tok _, ⟨_, rfl⟩, q⟩
/-- len of a str, a bytes, a list, a tuple -/
def LenV (K : PySem.W.Frag) (x : V) (H : Hp) (n : Nat) : Prop :=
  match x with
  | .str y => y.length ≤ sizeLine ∧ n = y.length
  | .byt y => y.size ≤ sizeLine ∧ n = y.size
  | .ref p => (∃ xs, SqL K H p xs ∧ n = xs.length) ∨ ∃ xs, SqT K H p xs ∧ n = xs.length
  | _ => False
end
end L2

namespace L2
open PySem PySem.Spec PyProof.Rows

/-! ### an instance, its attributes a map -/
structure ObjM (h : Heap) (x dx C : Addr) (mA : Str → Option Value) : Prop where
  obj : h.get? x = some (PySem.W.instObj C dx)
  ns : h.Ns1 dx mA
  ne : dx ≠ x

theorem lookIn_ns {h : Heap} {dx : Addr} {mA : Str → Option Value} (n : h.Ns1 dx mA) : ∃ od, h.get? dx = some od ∧ ∀ name, PySem.W.lookIn name od = some (mA name) := by
  obtain ⟨o, es, ep, ho, hd, hk, _, hm⟩ := n
  refine ⟨o, ho, fun name => ?_⟩
  have e := hm name
  unfold nsFind findBy at e
  rw [← Array.find?_toList] at e
  unfold PySem.W.lookIn
  rw [hd]
  dsimp only
  split
  · rename_i y q
    rw [q] at e
    exact congrArg some e
  · rename_i q
    rw [q] at e
    have a : es.toList.any (·.refKey) = false := by
      rw [List.any_eq_false]
      intro y hy
      obtain ⟨z, t, hkey⟩ := hk y (Array.mem_toList_iff.mp hy)
      simp [DictEntry.refKey, hkey]
    have a' : ¬ es.toList.any (·.refKey) = true := by rw [a]; exact Bool.false_ne_true
    rw [if_neg a']
    exact congrArg some e

theorem ObjM.look {h : Heap} {x dx C : Addr} {mA : Str → Option Value} (I : ObjM h x dx C mA) : ∃ od, PySem.W.InstAt h x (PySem.W.instObj C dx) C (some od) ∧ ∀ name, PySem.W.lookIn name od = some (mA name) :=
  let ⟨od, ho, hl⟩ := lookIn_ns I.ns
  ⟨od, ⟨I.obj, rfl, rfl, ho⟩, hl⟩

section
variable {prog : Program} {w : World} {A : Around} {E : Value → Shared → Prop} {s : Shared} {K : PySem.W.Frag} {x dx C f : Addr} {mA : Str → Option Value} {name : Str} {v : Value}

end

/-! ### the attributes as a list of pairs -/
def putF (f : Str) (v : V) : List (Str × V) → List (Str × V)
  | [] => [(f, v)]
  | (g, x) :: r => if g = f then (g, v) :: r else (g, x) :: putF f v r
section
variable {P : Program} {w : World} {H H' : Hp} {h h' : Heap} {a C dx : Addr} {fs fs' : List (Str × V)}
theorem ins_get (hok : HOk P w H h) (e : H a = some (.ins C dx fs)) : ∃ mA, ObjM h a dx C mA ∧ (∀ f, RelO (fs.lookup f) (mA f)) ∧ PySem.Within mA (fs.map (·.1)) ∧ fs.length ≤ 1000 ∧ H dx = some (.own a) := by
  obtain ⟨d, z, ne, ob, mA, n, r, q⟩ := (show ObjOk P w H h a (.ins C dx fs) from hok a _ e)
  exact ⟨mA, ⟨ob, n, ne⟩, r, q, z, d⟩
end

/-! ### what of the text a class must have -/
structure Cls (K : PySem.W.Frag) (C : Addr) : Prop where
  pg : PySem.W.plainGet K C Str.empty = true
  hd : PySem.W.hasDictIn K C = true
  po : PySem.W.plainOver K C = true
  sa : PySem.W.findIn K (.ref C) "__setattr__" = some (some (.builtin "object.__setattr__"))
theorem Cls.get {K : PySem.W.Frag} {C : Addr} (c : Cls K C) (f : Str) : PySem.W.plainGet K C f = true := c.pg
/-- no class of it has the name -/
def NoAttr (K : PySem.W.Frag) (C : Addr) (f : Str) : Prop := PySem.W.findIn K (.ref C) f = some none
/-- a constant of the class -/
structure Con (K : PySem.W.Frag) (C : Addr) (f : Str) (v : V) (u : Value) : Prop where
  at_ : PySem.W.findIn K (.ref C) f = some (some u)
  rel : RelV v u
  get : PySem.W.specialIn K u "__get__" = some none
  cp : PySem.W.copiedNames.contains f = false
/-- a method: a plain def of the class or of one above it -/
structure Meth (K : PySem.W.Frag) (C : Addr) (m : Str) (f : Addr) : Prop where
  at_ : PySem.W.findIn K (.ref C) m = some (some (.ref f))
  fn : PySem.W.isFn K (.ref f) = true
  kp : PySem.W.keepIn K (.ref f) = true

section
variable {X : Cx} {pins : List (Addr × Obj)} {σ : St} {H : Hp} {s : Shared} {a C dx : Addr} {fs : List (Str × V)} {f : Str} {v : V} {A : Around} {E : Value → Shared → Prop}

end

/-! ### readings and rules -/
/-- e.f, an attribute of the instance -/
def tFld (K : PySem.W.Frag) (ta : TE) (f : Str) : TE := fun σ H Q => ta σ H fun x H1 => ∃ a C dx fs v, x = .ref a ∧ H1 a = some (.ins C dx fs) ∧ Cls K C ∧ NoAttr K C f ∧ fs.lookup f = some v ∧ Q v H1
/-- e.f, a constant of the class -/
def tCon (K : PySem.W.Frag) (ta : TE) (f : Str) : TE := fun σ H Q => ta σ H fun x H1 => ∃ a C dx fs v u, x = .ref a ∧ H1 a = some (.ins C dx fs) ∧ Cls K C ∧ Con K C f v u ∧ fs.lookup f = none ∧ Q v H1
/-- e.f = value -/
def sFld (K : PySem.W.Frag) (ta tv : TE) (f : Str) : TS := fun D σ H => tv σ H fun y H1 => ta σ H1 fun x H2 => ∃ a C dx fs, x = .ref a ∧ H2 a = some (.ins C dx fs) ∧ Cls K C ∧ NoAttr K C f ∧ fs.length < 1000 ∧
  D.nx σ (upd H2 a (.ins C dx (putF f y fs)))
/-- an augmented operator on two values -/
def InOp (X : Cx) (op : Operator) (rd : V → V → Hp → VK → Prop) : Prop :=
  ∀ (pins : List (Addr × Obj)) (s : Shared) (σ : St) (H : Hp) (x y : V) (u v : Value) (Q : VK), Inv X pins σ H s → RelV x u → RelV y v → rd x y H Q → wpAny (model X.prog X.w) X.A (inplaceOp op u v) (EP X pins σ Q) X.xe s
/-- e.f op= value -/
def sFldAug (K : PySem.W.Frag) (ta tv : TE) (rd : V → V → Hp → VK → Prop) (f : Str) : TS := fun D σ H => ta σ H fun x H1 => ∃ a C dx fs v, x = .ref a ∧ H1 a = some (.ins C dx fs) ∧ Cls K C ∧ NoAttr K C f ∧ fs.lookup f = some v ∧
  tv σ H1 fun y H2 => rd v y H2 fun z H3 => ∃ dx' fs', H3 a = some (.ins C dx' fs') ∧ fs'.length < 1000 ∧ D.nx σ (upd H3 a (.ins C dx' (putF f z fs')))

section
variable {X : Cx} {o e value : Expr} {f : Str} {pos pos' tpos : Pos} {ta tv : TE}
def rAdd : V → V → Hp → VK → Prop := fun x y H Q => ∃ i j, x = .int i ∧ y = .int j ∧ Q (.int (i + j)) H
def rSub : V → V → Hp → VK → Prop := fun x y H Q => ∃ i j, x = .int i ∧ y = .int j ∧ Q (.int (i - j)) H
end

/-! ### isinstance -/
section
variable {X : Cx} {pins : List (Addr × Obj)} {σ : St} {H : Hp} {s : Shared} {A : Around} {E : Value → Shared → Prop} {Q : Value → Shared → Prop} {c : Value} {b : Bool}
/-- the type of a value, as the fragment's deciders take it; for an instance its class -/
inductive TyOf (K : PySem.W.Frag) (H : Hp) : V → Value → Prop where
  | non : TyOf K H .non (.type "NoneType")
  | bl (x : Bool) : TyOf K H (.bl x) (.type "bool")
  | int (i : Int) : TyOf K H (.int i) (.type "int")
  | str (x : Str) : TyOf K H (.str x) (.type "str")
  | flt (x : UInt64) : TyOf K H (.flt x) (.type "float")
  | lst {a : Addr} {xs : List V} (e : H a = some (.lst xs)) : TyOf K H (.ref a) (.type "list")
  | frz {a : Addr} {o : Obj} {xs : List V} (e : H a = some (.frz o (.lst xs))) : TyOf K H (.ref a) (.type "list")
  | tup {a : Addr} {xs : List V} (e : H a = some (.tup xs)) : TyOf K H (.ref a) (.type "tuple")
  | dK {a : Addr} {kvs : List (Key × V)} (e : H a = some (.dK kvs)) : TyOf K H (.ref a) (.type "dict")
  | dT {a : Addr} {kvs : List (List Key × V)} (e : H a = some (.dT kvs)) : TyOf K H (.ref a) (.type "dict")
  | ins {a C dx : Addr} {fs : List (Str × V)} (e : H a = some (.ins C dx fs)) (cl : Cls K C) (ha : PySem.W.findIn K (.ref C) "__class__" = some (some (.builtin "object.__class__")))
      (hn : PySem.W.specialIn K (.builtin "object.__class__") "__get__" = some (some (.builtin "getset_descriptor.__get__"))) (htk : PySem.W.takesIn K (.builtin "object.__class__") = some true)
      (hm : PySem.W.mroIn K C (.type "object") = some true) : TyOf K H (.ref a) (.ref C)
/-- isinstance(x, c) for one class c, a built-in or an own one: kitOne's answer -/
theorem isinst_ok {x : V} {u t : Value} (I : Inv X pins σ H s) (rx : RelV x u) (ty : TyOf X.K H x t) (e : PySem.W.kitOne X.K t c = some b) (h : ∀ tk, Q (.bool b) { s with toks := tk }) :
    wpAny (model X.prog X.w) A (call (.builtin "isinstance") [u, c]) Q E s := by
  cases ty with
  | non => cases (show u = Value.none from rx); exact PySem.W.kia_one PySem.W.kitx_none I.kIn True.intro e (fun z => nomatch z) h
  | bl y => cases (show u = Value.bool y from rx); exact PySem.W.kia_one PySem.W.kitx_bool I.kIn True.intro e (fun z => nomatch z) h
  | int i => obtain ⟨t, q⟩ := (show ∃ t, u = Value.int i t from rx); cases q; exact PySem.W.kia_one PySem.W.kitx_int I.kIn True.intro e (fun z => nomatch z) h
  | str y => obtain ⟨t, q⟩ := (show ∃ t, u = Value.str y t from rx); cases q; exact PySem.W.kia_one PySem.W.kitx_str I.kIn True.intro e (fun z => nomatch z) h
  | flt y => obtain ⟨t, q⟩ := (show ∃ t, u = Value.float y t from rx); cases q; exact PySem.W.kia_one PySem.W.kitx_float I.kIn True.intro e (fun z => nomatch z) h
  | @lst a xs ea =>
    cases (show u = Value.ref a from rx)
    obtain ⟨_, _, n, _, h1⟩ := (show ObjOk X.prog X.w H s.heap a (.lst xs) from I.hok a _ ea)
    exact PySem.W.kia_one PySem.W.kitx_list I.kIn ⟨_, h1, rfl⟩ e (fun z => nomatch z) h
  | @frz a ob xs ea =>
    cases (show u = Value.ref a from rx)
    obtain ⟨_, _, _, n, _, h1⟩ := (show ObjOk X.prog X.w H s.heap a (.frz ob (.lst xs)) from I.hok a _ ea)
    exact PySem.W.kia_one PySem.W.kitx_list I.kIn ⟨_, h1, rfl⟩ e (fun z => nomatch z) h
  | @tup a xs ea =>
    cases (show u = Value.ref a from rx)
    obtain ⟨_, _, _, p⟩ := (show ObjOk X.prog X.w H s.heap a (.tup xs) from I.hok a _ ea)
    obtain ⟨o, h1, h2, _⟩ := p
    exact PySem.W.kia_one PySem.W.kitx_tuple I.kIn ⟨o, h1, h2⟩ e (fun z => nomatch z) h
  | @dK a kvs ea =>
    cases (show u = Value.ref a from rx)
    obtain ⟨_, _, vs, _, p⟩ := (show ObjOk X.prog X.w H s.heap a (.dK kvs) from I.hok a _ ea)
    obtain ⟨o, es, ep, h1, h2, _⟩ := p
    exact PySem.W.kia_one PySem.W.kitx_dict I.kIn ⟨o, h1, h2.1⟩ e (fun z => nomatch z) h
  | @dT a kvs ea =>
    cases (show u = Value.ref a from rx)
    obtain ⟨_, _, xs, _, o, es, ep, h1, h2, _⟩ := (show ObjOk X.prog X.w H s.heap a (.dT kvs) from I.hok a _ ea)
    exact PySem.W.kia_one PySem.W.kitx_dict I.kIn ⟨o, h1, h2.1⟩ e (fun z => nomatch z) h
  | @ins a C dx fs ea cl ha hn htk hm =>
    cases (show u = Value.ref a from rx)
    obtain ⟨mA, O, _⟩ := ins_get I.hok ea
    obtain ⟨od, J, _⟩ := O.look
    exact PySem.W.kia_one (PySem.W.kitx_own (cl.get _) cl.hd ha hn htk hm) I.kIn J e (fun z => nomatch z) h
end
end L2

namespace L2
open PySem PySem.Spec PyProof.Rows

/-! ### room -/
structure Room (k : Nat) (A : Around) : Prop where
  hd : A.handled = none
  dp : A.depth + 3 * k + 5 < recursionLimit
  un : A.units + 16 * k + 200 < cLine
theorem Room.mono {j k : Nat} {A : Around} (r : Room k A) (h : j ≤ k) : Room j A := ⟨r.hd, by have := r.dp; omega, by have := r.un; omega⟩
theorem Room.deeper {k : Nat} {A : Around} (r : Room (k + 1) A) (env : Env) : Room k (A.deeper env) :=
  ⟨r.hd, by have := r.dp; show A.depth + 1 + 3 * k + 5 < _; omega, by have := r.un; show A.units + 3 + 16 * k + 200 < _; omega⟩
theorem Room.depth {k : Nat} {A : Around} (r : Room k A) : A.depth < recursionLimit := by have := r.dp; omega
theorem Room.units {k : Nat} {A : Around} (r : Room k A) : A.units + 64 < cLine := by have := r.un; omega
/-! ### argument lists and displays -/
def tNil : TA := fun _ H Q => Q [] H
def tCons (ta : TE) (tr : TA) : TA := fun σ H Q => ta σ H fun x H1 => tr σ H1 fun xs H2 => Q (x :: xs) H2
section
variable {X : Cx} {e : Expr} {es : List Expr} {te : TE} {t : TA} {pos : Pos}
theorem pa_nil : PA X [] tNil := fun _ _ _ _ H Q I h => Calls.spliced_nil ⟨[], H, I, .nil, h⟩
theorem pa_cons (ha : PE X e te) (hr : PA X es t) (hs : starEach (e :: es) X.env = (false, eval e X.env) :: starEach es X.env := by rfl) : PA X (e :: es) (tCons te t) := by
  intro pos pins s σ H Q I h
  rw [hs]
  show wpAny _ _ (spliced ((false, eval e X.env) :: backTo pos (starEach es X.env))) _ _ s
  refine Calls.spliced_cons (thn (ha pins s σ H _ I h) fun u s1 ⟨x, H1, I1, r1, q1⟩ => ?_)
  exact thn (hr pos pins s1 σ H1 _ I1 q1) fun us s2 ⟨xs, H2, I2, r2, q2⟩ => ⟨x :: xs, H2, I2, .cons r1 r2, q2⟩

/-- a tuple, a list of written items -/
def tTup (t : TA) : TE := fun σ H Q => t σ H fun xs H1 => xs.length ≤ sizeLine ∧ ∀ p, H1 p = none → Q (.ref p) (upd H1 p (.tup xs))
def tLst (t : TA) : TE := fun σ H Q => t σ H fun xs H1 => xs.length ≤ sizeLine ∧ ∀ p, H1 p = none → Q (.ref p) (upd H1 p (.lst xs))
theorem pe_tup {x1} (h : PA X es t) : PE X (.Tuple es x1 pos) (tTup t) := by
  intro pins s σ H Q I hq
  refine wpAny_Tuple_spliced (thn (h pos pins s σ H _ I hq) fun us s1 ⟨xs, H1, I1, r, z, q⟩ => ⟨by rw [← r.length]; exact z, ?_⟩)
  have hf : H1 s1.heap.objs.size = none := I1.hok.fresh (Nat.le_refl _)
  refine ⟨.ref s1.heap.objs.size, upd H1 s1.heap.objs.size (.tup xs), I1.laid (t' := s1.toks) (fun b u e => Heap.get?_push_of_some _ e) (Nat.le_refl _) ?_, rfl, q _ hf⟩
  exact ⟨z, us, r, ⟨_, Heap.get?_push_size _ rfl, rfl, _, rfl⟩⟩
theorem pe_lst (h : PA X es t) : PE X (.List es pos) (tLst t) := by
  intro pins s σ H Q I hq
  refine wpAny_List_spliced (thn (h pos pins s σ H _ I hq) fun us s1 ⟨xs, H1, I1, r, z, q⟩ => ⟨by rw [← r.length]; exact z, ?_⟩)
  have hf : H1 s1.heap.objs.size = none := I1.hok.fresh (Nat.le_refl _)
  refine ⟨.ref s1.heap.objs.size, upd H1 s1.heap.objs.size (.lst xs), I1.laid (t' := s1.toks) (fun b u e => Heap.get?_push_of_some _ e) (Nat.le_refl _) ?_, rfl, q _ hf⟩
  exact ⟨z, us, 0, r, Heap.get?_push_size _ rfl⟩
end

/-! ### what a def promises -/
/-- a def's promise: the bound arguments in the parameters' order, the heap, the wanted end, the wanted exception -/
abbrev Sp := List V → Hp → VK → XK → Prop
/-- how an exception lies behind a call (file 08 gives it): the callers' frames, abstract heap and state ahead of the call, the wish, the exception, the state -/
abbrev CXT := List Env → Hp → Shared → XK → Value → Shared → Prop

/-- the state at a call -/
structure Env0 (P : Program) (w : World) (K : PySem.W.Frag) (mg : Str → Option Value) (base : Heap) (A : Around) (outer : List Env) (s : Shared) (H : Hp) : Prop where
  frames : A.frames = some outer
  mod : Mod K mg base
  bs : ∀ b o, base.get? b = some o → s.heap.get? b = some o ∧ H b = none
  bsz : base.objs.size ≤ s.heap.objs.size
  funs : s.heap.FunFrames base outer
  frf : ∀ b ∈ frs outer, H b = none
  hok : HOk P w H s.heap
  bare : AllBare s.gens
/-- a call's end -/
def CE (outer : List Env) (P : Program) (w : World) (H : Hp) (s : Shared) (Q : VK) (u : Value) (s' : Shared) : Prop :=
  ∃ v H', s'.os = s.os ∧ AllBare s'.gens ∧ Un (frs outer) [] H H' s.heap s'.heap ∧ HOk P w H' s'.heap ∧ RelV v u ∧ Q v H'
def CR (CX : CXT) (outer : List Env) (P : Program) (w : World) (H : Hp) (s : Shared) (Q : VK) (E : XK) (r : Result) (s' : Shared) : Prop :=
  match r with
  | .ok (.ret u) => CE outer P w H s Q u s'
  | .ok _ => False
  | .error e => CX outer H s E e s'
structure FnOk (P : Program) (w : World) (K : PySem.W.Frag) (mg : Str → Option Value) (base : Heap) (CX : CXT) (k : Nat) (f : Addr) (fd : FuncData) (ps : List Str) (sp : Sp) : Prop where
  len : ∀ vs H Q E, sp vs H Q E → vs.length = ps.length
  run : ∀ (A : Around) (outer : List Env) (s : Shared) (H : Hp) (args : Args) (us : List Value) (vs : List V) (Q : VK) (E : XK), Room k A → Env0 P w K mg base A outer s H → BindsTo s fd args (ps.zip us) → Vals vs us → sp vs H Q E →
    codeAny (model P w) A (.call (.ref f) args) (CR CX outer P w H s Q E) s
section
variable {X : Cx} {pins : List (Addr × Obj)} {σ : St} {H : Hp} {s s' : Shared}
/-- from a body: what a callee wants -/
theorem Inv.env0 (I : Inv X pins σ H s) : Env0 X.prog X.w X.K X.mg X.base X.A X.stack s H :=
  ⟨I.ok.frames, I.ok.mod, I.bs, Nat.le_trans I.ok.bsz I.sz, I.stack, I.stkFree, I.hok, I.bare⟩
/-- behind a call -/
theorem Inv.after {Q : VK} {u : Value} (I : Inv X pins σ H s) (h : CE X.stack X.prog X.w H s Q u s') : EP X pins σ Q u s' := by
  obtain ⟨v, H', os, bare, un, hok, r, q⟩ := h
  obtain ⟨hh, g, d, t, os'⟩ := s'
  obtain rfl : os' = s.os := os
  exact ⟨v, H', I.call (h' := hh) (g' := g) (d' := d) (t' := t) (ch := []) un hok bare (fun b z => absurd z (by simp)), r, q⟩
end

/-! ### calls -/
/-- f(..): the written arguments, then the defaults dvs; E: what is wanted of an exception -/
def tCall (sp : Sp) (dvs : List V) (E : XK) (t : TA) : TE := fun σ H Q => t σ H fun vs H1 => sp (vs ++ dvs) H1 Q E
/-- o.m(..) of an instance of the class at C -/
def tMeth (C : Addr) (m : Str) (sp : Sp) (dvs : List V) (E : XK) (ta : TE) (t : TA) : TE := fun σ H Q => ta σ H fun x H1 => ∃ a dx fs, x = .ref a ∧ H1 a = some (.ins C dx fs) ∧ fs.lookup m = none ∧
  t σ H1 fun vs H2 => sp (x :: (vs ++ dvs)) H2 Q E
/-- C(..): a new instance and its dict, then __init__ -/
def tMake (C : Addr) (sp : Sp) (dvs : List V) (E : XK) (t : TA) : TE := fun σ H Q => t σ H fun vs H1 => ∀ x dx, H1 x = none → H1 dx = none → dx ≠ x →
  sp (.ref x :: (vs ++ dvs)) (upd (upd H1 dx (.own x)) x (.ins C dx [])) (fun v H2 => v = .non ∧ Q (.ref x) H2) E

/-- how the parameters are bound: us the positional arguments, kw the keywords' values by name, ds the defaults that fill up -/
def Binds (K : PySem.W.Frag) (fd : FuncData) (ps : List Str) (ds : List Value) : Prop :=
  ∀ (s : Shared) (us : List Value), K.In s.heap → (us ++ ds).length = ps.length → BindsTo s fd ⟨us, []⟩ (ps.zip (us ++ ds))
/-- every parameter is given -/
theorem Binds.all {K : PySem.W.Frag} {fd : FuncData} {ps : List Str} (h : ∀ us : List Value, us.length = ps.length → bindArgs fd ⟨us, []⟩ = pure (ps.zip us)) : Binds K fd ps [] := fun s us _ hl => by
  rw [List.append_nil] at hl ⊢
  exact .of_eq (h us hl)

/-- an exception of a callee reaches what this body wants of exceptions -/
def Passes (CX : CXT) (X : Cx) (E : XK) : Prop := ∀ (pins : List (Addr × Obj)) (σ : St) (H : Hp) (s : Shared) (e : Value) (s' : Shared), Inv X pins σ H s → CX X.stack H s E e s' → X.xe e s'

section
variable {X : Cx} {CX : CXT} {k : Nat} {f C : Addr} {fd : FuncData} {ps : List Str} {sp : Sp} {dvs : List V} {ds : List Value} {E : XK} {x m : Str} {p pos apos : Pos} {e o : Expr} {es : List Expr} {ta : TE} {t : TA}

/-- the callee runs -/
theorem run_fn {pins : List (Addr × Obj)} {σ : St} {H : Hp} {s : Shared} {Q : VK} {us : List Value} {vs : List V} (F : FnOk X.prog X.w X.K X.mg X.base CX k f fd ps sp) (hr : Room k X.A) (hb : Binds X.K fd ps ds) (hd : Vals dvs ds) (hx : Passes CX X E)
    (I : Inv X pins σ H s) (r : Vals vs us) (h : sp (vs ++ dvs) H Q E) : wpAny (model X.prog X.w) X.A (call (.ref f) us) (EP X pins σ Q) X.xe s := by
  have r2 : Vals (vs ++ dvs) (us ++ ds) := r.append hd
  have hl : (us ++ ds).length = ps.length := by rw [← r2.length]; exact F.len _ _ _ _ h
  refine wpAny_call (codeAny_mono (F.run X.A X.stack s H ⟨us, []⟩ (us ++ ds) (vs ++ dvs) Q E hr I.env0 (hb s us I.kIn hl) r2 h) fun r s' hq => ?_)
  cases r with
  | error e => exact hx pins σ H s e s' I hq
  | ok fl =>
    cases fl with
    | ret u => exact I.after hq
    | next => exact False.elim hq
    | brk => exact False.elim hq
    | cont => exact False.elim hq

theorem pe_call (F : FnOk X.prog X.w X.K X.mg X.base CX k f fd ps sp) (hr : Room k X.A) (hg : Gl X x) (hm : X.mg x = some (.ref f)) (hk : PySem.W.keepIn X.K (.ref f) = true) (hb : Binds X.K fd ps ds) (hd : Vals dvs ds) (hx : Passes CX X E)
    (ha : PA X (e :: es) t) (hdb : (x == ("__debug__" : Str)) = false := by decide) (he : starEach (e :: es) X.env = (false, eval e X.env) :: starEach es X.env := by rfl) (hpl : (backTo pos (starEach es X.env)).any (·.1) = false := by rfl) :
    PE X (.Call (.Name x p) (e :: es) [] pos) (tCall sp dvs E t) := by
  intro pins s σ H Q I h
  refine wpAny_Call_Name_kw (ld_glob I hg hm ?_ hdb)
  refine PySem.W.callWith_K (h₀ := X.base) I.ok.mod.kin hk (thn (ha pos pins s σ H _ I h) fun us s1 ⟨vs, H1, I1, r, q⟩ => ⟨I1.kIn, ?_⟩) he hpl
  exact run_fn F hr hb hd hx I1 r q
/-- what a class must have to be made -/
structure Mk (K : PySem.W.Frag) (C f : Addr) : Prop where
  makes : PySem.W.makesIn K C = true
  init : PySem.W.findIn K (.ref C) "__init__" = some (some (.ref f))
  fn : PySem.W.isFn K (.ref f) = true
  kp : PySem.W.keepIn K (.ref C) = true

end

/-! ### keywords -/
/-- the values of the keywords, from the left -/
def PK (X : Cx) (kws : List Keyword) (t : TA) : Prop :=
  ∀ (pos : Pos) (pins : List (Addr × Obj)) (s : Shared) (σ : St) (H : Hp) (Q : List V → Hp → Prop), Inv X pins σ H s → t σ H Q → wpAny (model X.prog X.w) X.A (evalAll ((backToKw pos (keywordEach kws X.env)).map (·.2))) (AP X pins σ Q) X.xe s
section
variable {X : Cx} {CX : CXT} {k : Nat} {f C : Addr} {fd : FuncData} {ps ks : List Str} {sp : Sp} {E : XK} {x m : Str} {p pos apos kpos : Pos} {e o : Expr} {es : List Expr} {kws : List Keyword} {te ta : TE} {t tk : TA} {nm : Option Str}
/-- how a call with keywords binds: g puts the positional values us and the keywords' values ws (names ks) in the parameters' order, defaults among them -/
structure KBinds (K : PySem.W.Frag) (fd : FuncData) (ps ks : List Str) (g : List Value → List Value → List Value) (gV : List V → List V → List V) : Prop where
  to : ∀ (s : Shared) (us ws : List Value), K.In s.heap → (g us ws).length = ps.length → BindsTo s fd ⟨us, ks.zip ws⟩ (ps.zip (g us ws))
  rel : ∀ {vs : List V} {us : List Value} {zs : List V} {ws : List Value}, Vals vs us → Vals zs ws → Vals (gV vs zs) (g us ws)
def tCallK (sp : Sp) (gV : List V → List V → List V) (E : XK) (t tk : TA) : TE := fun σ H Q => t σ H fun vs H1 => tk σ H1 fun zs H2 => sp (gV vs zs) H2 Q E
variable {g : List Value → List Value → List Value} {gV : List V → List V → List V}
end

/-! ### a def's body keeps its promise -/
/-- names: the parameters first -/
structure FnScope (N P : List Str) (sc : Scope) : Prop where
  kind : sc.kind = .function
  co : sc.isCoroutine = false
  gen : sc.isGenerator = false
  nd : N.Nodup
  pre : N.take P.length = P
  par : ∀ x ∈ P, sc.names.lookup x = some .local ∨ sc.names.lookup x = some .cell
  nofree : ∀ y ∈ sc.names, y.2 ≠ .free

theorem bindL_out {kindOf : Str → Option NameKind} {x : Str} : ∀ {binds : List (Str × Value)} {m : Str → Option Value}, (∀ v, (x, v) ∉ binds) → bindL kindOf binds m x = m x
  | [], _, _ => rfl
  | (n, v) :: r, m, h => by
    unfold bindL
    rw [bindL_out fun w hw => h w (List.mem_cons_of_mem _ hw)]
    split
    · have : x ≠ n := by rintro rfl; exact h v List.mem_cons_self
      simp [this]
    · rfl
theorem bindC_out {kindOf : Str → Option NameKind} {x : Str} : ∀ {binds : List (Str × Value)} {m : Str → Option Value}, (∀ v, (x, v) ∉ binds) → bindC kindOf binds m x = m x
  | [], _, _ => rfl
  | (n, v) :: r, m, h => by
    unfold bindC
    rw [bindC_out fun w hw => h w (List.mem_cons_of_mem _ hw)]
    split
    · rfl
    · have : x ≠ n := by rintro rfl; exact h v List.mem_cons_self
      simp [this]
theorem bindL_get {kindOf : Str → Option NameKind} {x : Str} {v : Value} : ∀ {P : List Str} {vs : List Value} {i : Nat} {m : Str → Option Value}, P.Nodup → P[i]? = some x → vs[i]? = some v → kindOf x = some .local →
    bindL kindOf (P.zip vs) m x = some v
  | [], _, _, _, _, h, _, _ => by simp at h
  | _ :: _, [], _, _, _, _, h, _ => by simp at h
  | p :: P, w :: vs, 0, m, nd, h1, h2, hk => by
    simp at h1 h2; subst h1; subst h2
    show bindL kindOf ((p, w) :: P.zip vs) m p = _
    unfold bindL
    rw [bindL_out fun v hv => (List.nodup_cons.mp nd).1 (List.of_mem_zip hv).1, if_pos hk]
    simp
  | p :: P, w :: vs, i + 1, m, nd, h1, h2, hk => by
    show bindL kindOf ((p, w) :: P.zip vs) m x = _
    unfold bindL
    exact bindL_get (i := i) (List.nodup_cons.mp nd).2 (by simpa using h1) (by simpa using h2) hk
theorem bindC_get {kindOf : Str → Option NameKind} {x : Str} {v : Value} : ∀ {P : List Str} {vs : List Value} {i : Nat} {m : Str → Option Value}, P.Nodup → P[i]? = some x → vs[i]? = some v → kindOf x ≠ some .local →
    bindC kindOf (P.zip vs) m x = some v
  | [], _, _, _, _, h, _, _ => by simp at h
  | _ :: _, [], _, _, _, _, h, _ => by simp at h
  | p :: P, w :: vs, 0, m, nd, h1, h2, hk => by
    simp at h1 h2; subst h1; subst h2
    show bindC kindOf ((p, w) :: P.zip vs) m p = _
    unfold bindC
    rw [bindC_out fun v hv => (List.nodup_cons.mp nd).1 (List.of_mem_zip hv).1, if_neg hk]
    simp
  | p :: P, w :: vs, i + 1, m, nd, h1, h2, hk => by
    show bindC kindOf ((p, w) :: P.zip vs) m x = _
    unfold bindC
    exact bindC_get (i := i) (List.nodup_cons.mp nd).2 (by simpa using h1) (by simpa using h2) hk

/-- the names' values at the entry -/
def start (N : List Str) (vs : List V) : St := vs.map some ++ List.replicate (N.length - vs.length) none

/-- the context of a def's body, at its entry; an exception leaves the frame, then lies as CX says -/
def cxOf (CX : CXT) (P : Program) (w : World) (K : PySem.W.Frag) (mg : Str → Option Value) (base : Heap) (N : List Str) (qual : Str) (scope : Scope) (f : Addr) (cd : Value) (A : Around) (outer : List Env) (s : Shared) (H : Hp) (E : XK) : Cx where
  prog := P
  w := w
  K := K
  mg := mg
  base := base
  A := A.deeper (envOfC qual scope s.heap.objs.size f cd)
  N := N
  s₀ := s
  H₀ := H
  env := envOfC qual scope s.heap.objs.size f cd
  outer := outer
  stack := envOfC qual scope s.heap.objs.size f cd :: outer
  ex := []
  calm := true
  fn := fun _ => true
  pn := []
  xe := fun e s' => wpAny (model P w) (A.deeper (envOfC qual scope s.heap.objs.size f cd)) (leaving (envOfC qual scope s.heap.objs.size f cd) e) (fun _ s'' => CX outer H s E e s'') (fun e' s'' => CX outer H s E e' s'') s'

theorem cell_has {sc : Scope} {n : Nat} {x : Str} (h : sc.names.lookup x = some .cell) : ∃ c, (cellsFrom n sc.names []).lookup x = some c := by
  have q := PySem.W.cellsFrom_some sc.names n [] (.inl h)
  exact Option.isSome_iff_exists.mp q

theorem inv_start {CX : CXT} {P : Program} {w : World} {K : PySem.W.Frag} {mg : Str → Option Value} {base : Heap} {N ps : List Str} {qual : Str} {scope : Scope} {f : Addr} {cd : Value} {A : Around} {outer : List Env} {s s1 : Shared} {H : Hp} {E : XK} {us : List Value} {vs : List V}
    (S : FnScope N ps scope) (hd : A.handled = none) (e0 : Env0 P w K mg base A outer s H) (hl : vs.length = ps.length) (r : Vals vs us)
    (x : InCallC s s.heap.objs.size (bindL (envOfC qual scope s.heap.objs.size f cd).kindOf (ps.zip us) fun _ => none) (cellsFrom (s.heap.objs.size + 1) scope.names []) (bindC (envOfC qual scope s.heap.objs.size f cd).kindOf (ps.zip us) fun _ => none) s1) :
    Inv (cxOf CX P w K mg base N qual scope f cd A outer s H E) [] (start N vs) H s1 := by
  have hpl : ps.length ≤ N.length := by have := congrArg List.length S.pre; rw [List.length_take] at this; omega
  obtain ⟨h1, tk, rfl, hk⟩ := x.done
  have noA : ∀ b : Addr, b ∉ (cxOf CX P w K mg base N qual scope f cd A outer s H E).ex := fun b z => absurd (show b ∈ ([] : List Addr) from z) (by simp)
  refine ⟨⟨e0.mod, S.kind, rfl, rfl, Nat.le_refl _, fun y z c h1 h2 => ?_, fun y hy => ?_, fun y c _ h => ?_, fun _ => hd, Around.frames_deeper e0.frames, .inr ⟨rfl, rfl⟩, fun b z => absurd z (noA b), e0.bs, e0.bsz, fun b _ _ => noA b, fun b z => absurd z (noA b), e0.funs, e0.frf⟩,
    rfl, e0.bare, Un.kept hk, ⟨_, x.toInCall.ns, fun i y v h1 h2 h3 => ?_⟩, fun y c h => ⟨_, x.cell y c h⟩, e0.hok.fresh (Nat.le_refl _), fun y c h => ?_, fun p hp => absurd (show p ∈ ([] : List (Addr × Obj)) from hp) (by simp), e0.hok.kept hk, ?_⟩
  · exact name_of_addr x.apart (PySem.mem_of_lookup h1) (PySem.mem_of_lookup h2)
  · have hy : scope.names.lookup y = some .cell ∨ scope.names.lookup y = some .free := hy
    rcases hy with hy | hy
    · exact cell_has hy
    · exact absurd rfl (S.nofree _ (PySem.mem_of_lookup hy))
  · exact Nat.le_of_lt (x.above y c (PySem.mem_of_lookup h))
  · have hi : i < vs.length := by
      unfold start at h2
      by_cases hi : i < vs.length
      · exact hi
      · rw [List.getElem?_append_right (by simpa using hi)] at h2
        rw [List.getElem?_replicate] at h2
        split at h2 <;> cases h2
    have ha : vs[i]? = some v := by
      unfold start at h2
      rw [List.getElem?_append_left (by simpa using hi), List.getElem?_map] at h2
      cases e : vs[i]? with
      | none => rw [e] at h2; cases h2
      | some a => rw [e] at h2; cases h2; rfl
    obtain ⟨u, hu, rv⟩ := r.get ha
    have hp : ps[i]? = some y := by
      rw [← S.pre, List.getElem?_take_of_lt (by omega)]; exact h1
    have ndP : ps.Nodup := by rw [← S.pre]; exact S.nd.sublist (List.take_sublist _ _)
    refine ⟨u, rv, ?_⟩
    rcases S.par y (List.mem_of_getElem? hp) with k | k
    · exact .inl ⟨k, bindL_get ndP hp hu k⟩
    · obtain ⟨c, e⟩ := cell_has (n := s.heap.objs.size + 1) k
      refine .inr ⟨.inl k, c, e, ?_⟩
      have q := x.cell y c e
      rw [bindC_get ndP hp hu (by show scope.names.lookup y ≠ _; rw [k]; decide)] at q
      exact q
  · exact e0.hok.fresh (Nat.le_of_lt (x.above y c (PySem.mem_of_lookup h)))
  · unfold start
    show _ = N.length
    rw [List.length_append, List.length_map, List.length_replicate]
    omega

/-- THE RULE: a def (or a method) of the text, by its body. The body's reading t is chosen for each entry; it is run at the parameters' values -/
theorem fn_of {CX : CXT} {P : Program} {w : World} {K : PySem.W.Frag} {mg : Str → Option Value} {base : Heap} {k : Nat} {f : Addr} {name qual : Str} {params : Arguments} {body : List Stmt} {scope : Scope} {dV kV doc pm cdv ct oc : Value} {an od : Option Addr}
    {osl : Array (Option Value)} {N ps : List Str} {sp : Sp} (lk : K.lookup f = some ⟨oc, od, .func (PySem.W.fnOf name qual params body scope dV kV doc pm an cdv ct), osl⟩) (hcd : PySem.W.codeIn K cdv qual = true) (S : FnScope N ps scope)
    (len : ∀ vs H Q E, sp vs H Q E → vs.length = ps.length)
    (hbody : ∀ (A : Around) (outer : List Env) (s : Shared) (H : Hp) (vs : List V) (Q : VK) (E : XK), Room k (A.deeper (envOfC qual scope s.heap.objs.size f cdv)) → sp vs H Q E →
      ∃ t, PSs (cxOf CX P w K mg base N qual scope f cdv A outer s H E) body t ∧ t { nx := fun _ H' => Q .non H', rt := Q } (start N vs) H) :
    FnOk P w K mg base CX (k + 1) f (PySem.W.fnOf name qual params body scope dV kV doc pm an cdv ct) ps sp := by
  refine ⟨len, fun A outer s H args us vs Q E hr e0 hb r hsp => ?_⟩
  have hl := len _ _ _ _ hsp
  have KX : K.In s.heap := e0.mod.kin.keeps fun b o e => (e0.bs b o e).1
  have lim : s.heap.NoLimit := e0.mod.nolimit.keeps fun b o e => (e0.bs b o e).1
  have hkind : ∀ y ∈ ps.zip us, scope.names.lookup y.1 = some .local ∨ (scope.names.lookup y.1 = some .cell ∧ ((cellsFrom (s.heap.objs.size + 1) scope.names []).lookup y.1).isSome = true) := fun ⟨n, v⟩ hy => by
    rcases S.par n (List.of_mem_zip hy).1 with q | q
    · exact .inl q
    · exact .inr ⟨q, PySem.W.cellsFrom_some _ _ _ (.inl q)⟩
  refine codeAny_call_function hr.depth (KX _ _ lk) rfl S.co S.gen rfl (PySem.W.codeRec_of KX hcd) (hb _ _ _ _ ?_)
  refine wpAny_newFunctionEnv_cells S.kind hkind fun env he s1 x => ?_
  subst he
  refine ⟨lim.keeps x.toInCall.keep, codeAny_func ?_⟩
  obtain ⟨t, ht, hq⟩ := hbody A outer s H vs Q E (hr.deeper _) hsp
  have I : Inv (cxOf CX P w K mg base N qual scope f cdv A outer s H E) [] (start N vs) H s1 := inv_start S hr.hd e0 hl r x
  refine wpAny_mono (ht [] s1 (start N vs) H _ I hq) (fun fl s' hs => ?_) fun e s' hs => hs
  have fin : ∀ {σ' : St} {H' : Hp} {v : V} {u : Value}, Inv (cxOf CX P w K mg base N qual scope f cdv A outer s H E) [] σ' H' s' → RelV v u → Q v H' → CE outer P w H s Q u s' :=
    fun {σ' H' v u} J rv q => ⟨v, H', J.os, J.bare, J.base, J.hok, rv, q⟩
  cases fl with
  | ret u =>
    obtain ⟨v, σ', H', J, rv, q⟩ := hs
    exact fin J rv q
  | next =>
    obtain ⟨σ', H', J, q⟩ := hs
    exact fin (v := V.non) (u := Value.none) J rfl q
  | brk =>
    obtain ⟨_, _, _, q⟩ := hs
    exact False.elim q
  | cont =>
    obtain ⟨_, _, _, q⟩ := hs
    exact False.elim q
end L2

namespace L2
open PySem PySem.Spec PyProof.Rows
section
variable {X : Cx} {x : Str} {p pos : Pos} {e : Expr} {es : List Expr} {t : TA} {id T : String} {r : List V → Hp → VK → Prop}

def tCB (r : List V → Hp → VK → Prop) (t : TA) : TE := fun σ H Q => t σ H fun vs H1 => r vs H1 Q
/-- f(e, ..), f a built-in function -/
theorem pe_callB (hc : CallR X (.builtin id) r) (hg : Gl X x) (hm : X.mg x = none) (hv : bootBuiltins x = some (.builtin id)) (ha : PA X (e :: es) t) (hn : x ≠ "__name__" := by decide) (hdb : (x == ("__debug__" : Str)) = false := by decide)
    (he : starEach (e :: es) X.env = (false, eval e X.env) :: starEach es X.env := by rfl) (hpl : (backTo pos (starEach es X.env)).any (·.1) = false := by rfl) : PE X (.Call (.Name x p) (e :: es) [] pos) (tCB r t) := by
  intro pins s σ H Q I h
  refine wpAny_Call_Name_kw (ld_blt I hg hm hv ?_ hn hdb)
  exact PyProof.Rows.callWith_builtin1 (thn (ha pos pins s σ H _ I h) fun us s1 ⟨vs, H1, I1, r1, q1⟩ => hc pins s1 σ H1 vs us Q I1 r1 q1) he hpl
/-- T(e, ..), T a built-in type -/
theorem pe_callTy (hc : CallR X (.type T) r) (hg : Gl X x) (hm : X.mg x = none) (hv : bootBuiltins x = some (.type T)) (ha : PA X (e :: es) t) (hn : x ≠ "__name__" := by decide) (hdb : (x == ("__debug__" : Str)) = false := by decide)
    (he : starEach (e :: es) X.env = (false, eval e X.env) :: starEach es X.env := by rfl) (hpl : (backTo pos (starEach es X.env)).any (·.1) = false := by rfl) : PE X (.Call (.Name x p) (e :: es) [] pos) (tCB r t) := by
  intro pins s σ H Q I h
  refine wpAny_Call_Name_kw (ld_blt I hg hm hv ?_ hn hdb)
  exact PyProof.Rows.callWith_type1 (thn (ha pos pins s σ H _ I h) fun us s1 ⟨vs, H1, I1, r1, q1⟩ => hc pins s1 σ H1 vs us Q I1 r1 q1) he hpl
end
end L2

namespace HT
open PySem PyProof.Rows

/-- t < u of tuples of ints -/
def lexLt : List Int → List Int → Bool
  | [], [] => false
  | [], _ :: _ => true
  | _ :: _, [] => false
  | x :: xs, y :: ys => if x = y then lexLt xs ys else decide (x < y)
section
open PySem.SeqAt
open PySem.AutoSeq1 (wpAny_loadPart')
open PySem.MeetsSeq PySem.MeetsSeq2 PySem.MeetsSeq3

end

section
variable {prog : Program} {w : World} {A : Around} {E : Value → Shared → Prop} {s : Shared}

/-! ### t[a:b], not the whole -/
/-- a slice's bound as a place among n (d where it is left out) -/
def sIx (n d : Nat) : Option Int → Nat
  | none => d
  | some v => if v < 0 then (v + (n : Int)).toNat else min v.toNat n
end
end HT

namespace L2
open PySem PySem.Spec PyProof.Rows

/-! ### the parts of a slice -/
abbrev TO := St → Hp → (Option Int → Hp → Prop) → Prop
/-- a slice's part (left out, or an int) -/
def PO (X : Cx) (e : Option Expr) (t : TO) : Prop :=
  ∀ (pins : List (Addr × Obj)) (s : Shared) (σ : St) (H : Hp) (Q : Option Int → Hp → Prop), Inv X pins σ H s → t σ H Q →
    wpAny (model X.prog X.w) X.A (evalPart e X.env) (fun u s' => ∃ o H', Inv X pins σ H' s' ∧ IsPart u o ∧ Q o H') X.xe s
def tNoPart : TO := fun _ H Q => Q none H
def tPart (t : TE) : TO := fun σ H Q => t σ H fun x H1 => ∃ i, x = .int i ∧ Q (some i) H1

section
variable {X : Cx} {e : Expr} {te : TE} {lo hi : Option Expr} {tl th : TO} {pos p2 : Pos}

theorem po_none : PO X none tNoPart := by
  intro pins s σ H Q I h
  rw [evalPart_none]
  exact wpAny_pure ⟨none, H, I, .none, h⟩
theorem po_some (h : PE X e te) : PO X (some e) (tPart te) := by
  intro pins s σ H Q I hw
  rw [evalPart_some]
  refine thn (h pins s σ H _ I hw) fun u s1 ⟨x, H1, I1, r1, q1⟩ => ?_
  obtain ⟨i, rfl, q⟩ := q1
  obtain ⟨t, rfl⟩ := r1
  exact ⟨some i, H1, I1, .int i t, q⟩

/-- what a slice of a value is, by values: the slice object stands at sl -/
def SlR (X : Cx) (r : V → Option Int → Option Int → Hp → VK → Prop) : Prop :=
  ∀ (pins : List (Addr × Obj)) (s : Shared) (σ : St) (H : Hp) (x : V) (v vl vu : Value) (lo hi : Option Int) (sl : Addr) (Q : VK), Inv X pins σ H s → RelV x v → s.heap.IsSliceOf sl vl vu .none → IsPart vl lo → IsPart vu hi → r x lo hi H Q →
    ∃ T id, typeLookup (.type T) "__getitem__" = pure (some (.builtin id)) ∧ s.TypeIs v T ∧ wpAny (model X.prog X.w) X.A (getItem v (.ref sl)) (EP X pins σ Q) X.xe s
def tSl (r : V → Option Int → Option Int → Hp → VK → Prop) (te : TE) (tl th : TO) : TE := fun σ H Q => te σ H fun x H1 => tl σ H1 fun l H2 => th σ H2 fun u H3 => r x l u H3 Q
/-- a[lo:hi], any a -/
theorem pe_slice {r : V → Option Int → Option Int → Hp → VK → Prop} (hr : SlR X r) (he : PE X e te) (hl : PO X lo tl) (hu : PO X hi th) : PE X (.Subscript e (.Slice lo hi none p2) pos) (tSl r te tl th) := by
  intro pins s σ H Q I h
  refine Subscript_ (thn (he pins s σ H _ I h) fun v s1 ⟨x, H1, I1, r1, q1⟩ => ?_)
  refine wpAny_Slice (thn (hl pins s1 σ H1 _ I1 q1) fun vl s2 ⟨l, H2, I2, pl, q2⟩ => thn (hu pins s2 σ H2 _ I2 q2) fun vu s3 ⟨u, H3, I3, pu, q3⟩ => ?_)
  rw [evalPart_none]
  refine wpAny_pure ?_
  have I4 : Inv X pins σ H3 { s3 with heap := s3.heap.push { cls := .type "slice", data := .fields #[vl, vu, .none] } } := I3.kept (t' := s3.toks) fun b ob q => Heap.get?_push_of_some _ q
  obtain ⟨T, id, hT, ht, hg⟩ := hr pins { s3 with heap := s3.heap.push { cls := .type "slice", data := .fields #[vl, vu, .none] } } σ H3 x v vl vu l u s3.heap.objs.size Q I4 r1 (Heap.IsSliceOf.new ..) pl pu q3
  show wpAny (model X.prog X.w) X.A (subscriptTail e (.Slice lo hi none p2) v (.ref s3.heap.objs.size)) (EP X pins σ Q) X.xe { s3 with heap := s3.heap.push { cls := .type "slice", data := .fields #[vl, vu, .none] } }
  exact tail_any (ops := [.ref s3.heap.objs.size, v]) ht hT hg (by with_unfolding_all rfl)

/-- the items of xs[lo:hi] -/
def cutV (xs : List V) (lo hi : Option Int) : List V := (xs.drop (HT.sIx xs.length 0 lo)).take (HT.sIx xs.length xs.length hi - HT.sIx xs.length 0 lo)
theorem cutV_length (xs : List V) (lo hi : Option Int) : (cutV xs lo hi).length ≤ xs.length := by
  unfold cutV
  rw [List.length_take, List.length_drop]
  omega
/-- t[lo:hi], not the whole of it (the whole would be t itself) -/
def rSlT (K : PySem.W.Frag) : V → Option Int → Option Int → Hp → VK → Prop := fun x lo hi H Q => ∃ a xs, x = .ref a ∧ SqT K H a xs ∧
  ¬ (HT.sIx xs.length 0 lo = 0 ∧ HT.sIx xs.length xs.length hi = xs.length) ∧ ∀ p, H p = none → Q (.ref p) (upd H p (.tup (cutV xs lo hi)))
/-! ### t < u, t + u -/
def rLtT (K : PySem.W.Frag) : R2 := fun x y H Q => ∃ a b ns ms, x = .ref a ∧ y = .ref b ∧ SqT K H a (ns.map V.int) ∧ SqT K H b (ms.map V.int) ∧ Q (.bl (HT.lexLt ns ms)) H
/-- t + u, t not empty: u empty gives t itself -/
def rCatT (K : PySem.W.Frag) : R2 := fun x y H Q => ∃ a b xs ys, x = .ref a ∧ y = .ref b ∧ SqT K H a xs ∧ SqT K H b ys ∧ xs ≠ [] ∧ xs.length + ys.length ≤ sizeLine ∧
  (ys = [] → Q (.ref a) H) ∧ (ys ≠ [] → ∀ p, H p = none → Q (.ref p) (upd H p (.tup (xs ++ ys))))
end
end L2

namespace L2
open PySem PySem.Spec PyProof.Rows

/-! ### places -/
/-- the place that an index of any sign means -/
def ixN (n : Nat) (i : Int) : Option Nat := if 0 ≤ i then (if i < n then some i.toNat else none) else if -(n : Int) ≤ i then some (i + n).toNat else none
def atI {α : Type} (xs : List α) (i : Int) : Option α := (ixN xs.length i).bind fun j => xs[j]?
theorem ixN_seq {n : Nat} {i : Int} {j : Nat} (h : ixN n i = some j) : seqIndex? i n = some j ∧ j < n ∧ -(n : Int) ≤ i ∧ i < n := by
  unfold ixN at h
  by_cases h0 : 0 ≤ i
  · rw [if_pos h0] at h
    by_cases h1 : i < n
    · rw [if_pos h1] at h
      have e : i.toNat = j := Option.some.inj h
      exact ⟨by rw [seqIndex_of h0 h1, e], by omega, by omega, h1⟩
    · rw [if_neg h1] at h; cases h
  · rw [if_neg h0] at h
    by_cases h1 : -(n : Int) ≤ i
    · rw [if_pos h1] at h
      have e : (i + n).toNat = j := Option.some.inj h
      exact ⟨by rw [seqIndex_neg (by omega) h1, e], by omega, h1, by omega⟩
    · rw [if_neg h1] at h; cases h
theorem atI_get {α : Type} {xs : List α} {i : Int} {v : α} (h : atI xs i = some v) : ∃ j, seqIndex? i xs.length = some j ∧ xs[j]? = some v ∧ j < xs.length ∧ -(xs.length : Int) ≤ i ∧ i < xs.length := by
  unfold atI at h
  cases e : ixN xs.length i with
  | none => rw [e] at h; cases h
  | some j =>
    rw [e] at h
    obtain ⟨h1, h2, h3, h4⟩ := ixN_seq e
    exact ⟨j, h1, h, h2, h3, h4⟩
theorem atI_nat {α : Type} {xs : List α} {j : Nat} {v : α} (h : xs[j]? = some v) : atI xs (j : Int) = some v := by
  have hj : j < xs.length := (List.getElem?_eq_some_iff.mp h).1
  have e : ixN xs.length (j : Int) = some j := by
    unfold ixN
    rw [if_pos (by omega), if_pos (by omega)]; simp
  unfold atI; rw [e]; exact h
/-! ### what may be subscripted -/
/-- what stands as an index of a plain subscript -/
def PlainIx (b : Expr) : Prop := ∀ o i, subscripted b false o i = operate [o, i] (getItem o i)
/-- a subscript by values -/
def IxR (X : Cx) (r : R2) : Prop :=
  ∀ (value slice : Expr) (pins : List (Addr × Obj)) (s : Shared) (σ : St) (H : Hp) (x y : V) (v u : Value) (Q : VK), Inv X pins σ H s → RelV x v → RelV y u → r x y H Q →
    subscripted slice false v u = operate [v, u] (getItem v u) → wpAny (model X.prog X.w) X.A (subscriptTail value slice v u) (EP X pins σ Q) X.xe s
/-- a call of a builtin's method by values: the receiver, the arguments -/
def MtR (X : Cx) (id : String) (r : V → List V → Hp → VK → Prop) : Prop :=
  ∀ (pins : List (Addr × Obj)) (s : Shared) (σ : St) (H : Hp) (x : V) (xs : List V) (v : Value) (us : List Value) (Q : VK), Inv X pins σ H s → RelV x v → Vals xs us → r x xs H Q →
    wpAny (model X.prog X.w) X.A (call (.builtin id) (v :: us)) (EP X pins σ Q) X.xe s
section
variable {X : Cx} {a b : Expr} {ta tb : TE} {pos : Pos}
/-- a[b] -/
theorem pe_ix {r : R2} (hr : IxR X r) (ha : PE X a ta) (hb : PE X b tb) (hs : PlainIx b) : PE X (.Subscript a b pos) (tOp r ta tb) := by
  intro pins s σ H Q I h
  exact Subscript_ (binT ha hb I h fun v u s2 x y H2 I2 rx ry q => hr a b pins s2 σ H2 x y v u Q I2 rx ry q (hs _ _))

def rIxL (K : PySem.W.Frag) : R2 := fun x y H Q => ∃ p xs i v, x = .ref p ∧ y = .int i ∧ SqL K H p xs ∧ atI xs i = some v ∧ Q v H
def rIxT (K : PySem.W.Frag) : R2 := fun x y H Q => ∃ p xs i v, x = .ref p ∧ y = .int i ∧ SqT K H p xs ∧ atI xs i = some v ∧ Q v H
def rIxS : R2 := fun x y H Q => ∃ z i c, x = .str z ∧ y = .int i ∧ z.length ≤ sizeLine ∧ atI z.cps.toList i = some c ∧ Q (.str ⟨#[c]⟩) H
theorem ix_list : IxR X (rIxL X.K) := by
  intro value slice pins s σ H x y v u Q I rx ry h hs
  obtain ⟨p, xs, i, z, rfl, rfl, hq, he, q⟩ := h
  cases rx
  obtain ⟨t, rfl⟩ := ry
  obtain ⟨its, r, pl, hz⟩ := I.list hq
  obtain ⟨j, h1, h2, h3, h4, h5⟩ := atI_get he
  obtain ⟨w, ew, rw'⟩ := r.get h2
  have hl := r.length
  have hn := line63
  have fin : EP X pins σ Q w s := ⟨z, H, I, rw', q⟩
  by_cases h0 : 0 ≤ i
  · have hj : i.toNat = j := by
      rw [seqIndex_of h0 h5] at h1
      exact Option.some.inj h1
    exact item_listR pl.isList h0 (by omega) (by rw [hj]; simpa using ew) fin hs
  · have hj : (i + (its.toArray.size : Int)).toNat = j := by
      rw [seqIndex_neg (by omega) h4] at h1
      rw [List.size_toArray, ← hl]
      exact Option.some.inj h1
    exact subscriptTail_builtinR (x := w) pl.isList.typeIs slot_list_getitem.lookup
      (wpAny_getItem_list_neg (Q := fun r s' => r = w ∧ EP X pins σ Q r s') pl.isList (by omega) (by rw [List.size_toArray] <;> omega) (by omega) (by rw [hj]; simpa using ew) ⟨rfl, fin⟩) hs
theorem ix_tup : IxR X (rIxT X.K) := by
  intro value slice pins s σ H x y v u Q I rx ry h hs
  obtain ⟨p, xs, i, z, rfl, rfl, hq, he, q⟩ := h
  cases rx
  obtain ⟨t, rfl⟩ := ry
  obtain ⟨its, r, pl, hz⟩ := I.tuple hq
  obtain ⟨j, h1, h2, h3, h4, h5⟩ := atI_get he
  obtain ⟨w, ew, rw'⟩ := r.get h2
  have hl := r.length
  have hn := line63
  have fin : EP X pins σ Q w s := ⟨z, H, I, rw', q⟩
  exact subscriptTail_builtinR (x := w) pl.typeIs slot_tuple_getitem.lookup
    (getItem_tuple (j := j) (Q := fun r s' => r = w ∧ EP X pins σ Q r s') pl (by omega) (by omega) (by rw [List.size_toArray, ← hl]; exact h1) (by simpa using ew) ⟨rfl, fin⟩) hs
theorem ix_str : IxR X rIxS := by
  intro value slice pins s σ H x y v u Q I rx ry h hs
  obtain ⟨z, i, c, rfl, rfl, hz, he, q⟩ := h
  obtain ⟨t, rfl⟩ := rx
  obtain ⟨t', rfl⟩ := ry
  obtain ⟨j, h1, h2, h3, h4, h5⟩ := atI_get he
  have hl : z.cps.toList.length = z.length := by simp [Str.length]
  rw [hl] at h1 h4 h5
  have hn := line63
  exact tail_any (typeIs_str s z t) slot_str_getitem.lookup (getItem_str (c := c) (by
    have e1 : decide (i < -(2 ^ 63 : Int)) = false := decide_eq_false (by omega)
    have e2 : decide (i ≥ 2 ^ 63) = false := decide_eq_false (by omega)
    rw [e1, e2, Bool.or_false]) (by rw [h1]; simpa using h2) ⟨.str ⟨#[c]⟩, H, I.tok _, ⟨_, rfl⟩, q⟩) hs
/-- list, tuple or str -/
def rIx (K : PySem.W.Frag) : R2 := fun x y H Q => rIxL K x y H Q ∨ rIxT K x y H Q ∨ rIxS x y H Q
/-! ### xs[i] = v, any sign -/
def rSetL : V → V → V → Hp → (Hp → Prop) → Prop := fun o i v H Q => ∃ p xs k j, o = .ref p ∧ i = .int k ∧ H p = some (.lst xs) ∧ ixN xs.length k = some j ∧ Q (upd H p (.lst (xs.set j v)))
/-! ### slices -/
theorem slice_bounds (lo hi : Option Int) (n : Nat) : (sliceBounds lo hi none n).1 = ((HT.sIx n 0 lo : Nat) : Int) ∧ (sliceBounds lo hi none n).2.1 = ((HT.sIx n n hi : Nat) : Int) ∧ (sliceBounds lo hi none n).2.2 = 1 := by
  refine ⟨?_, ?_, rfl⟩
  · cases lo with
    | none => simp [sliceBounds, HT.sIx]
    | some i =>
      simp only [sliceBounds, HT.sIx, Option.getD_none, show (1 : Int) > 0 by decide, if_true]
      by_cases h : i < 0
      · simp only [h, if_true] <;> omega
      · simp only [h, if_false] <;> omega
  · cases hi with
    | none => simp [sliceBounds, HT.sIx]
    | some i =>
      simp only [sliceBounds, HT.sIx, Option.getD_none, show (1 : Int) > 0 by decide, if_true]
      by_cases h : i < 0
      · simp only [h, if_true] <;> omega
      · simp only [h, if_false] <;> omega
theorem slicePick_cut (its : List Value) (lo hi : Option Int) : slicePick its.toArray lo hi none = ((its.drop (HT.sIx its.length 0 lo)).take (HT.sIx its.length its.length hi - HT.sIx its.length 0 lo)).toArray := by
  obtain ⟨h1, h2, h3⟩ := slice_bounds lo hi its.toArray.size
  unfold slicePick
  rw [h1, h2, h3]
  simp only [sliceRange_one, pick_run, List.size_toArray] <;> rfl
/-- xs[lo:hi] of a list: a new list -/
def rSlL (K : PySem.W.Frag) : V → Option Int → Option Int → Hp → VK → Prop := fun x lo hi H Q => ∃ a xs, x = .ref a ∧ SqL K H a xs ∧ ∀ p, H p = none → Q (.ref p) (upd H p (.lst (cutV xs lo hi)))
theorem sl_list : SlR X (rSlL X.K) := by
  intro pins s σ H x v vl vu lo hi sl Q I rx hs pl pu h
  obtain ⟨a, xs, rfl, hx, q⟩ := h
  cases rx
  obtain ⟨its, r, ht, hz⟩ := I.list hx
  have hlen := r.length
  refine ⟨"list", _, slot_list_getitem.lookup, ht.isList.typeIs, ?_⟩
  refine wpAny_getItem_list_slice ht.isList hs pl pu .none (by simp) ?_ (by rw [List.size_toArray] <;> omega)
  rw [slicePick_cut, ← hlen]
  refine ⟨.ref s.heap.objs.size, _, I.laid (t' := s.toks) (o := .lst (cutV xs lo hi)) (fun b ob q => Heap.get?_push_of_some _ q) (Nat.le_refl _) ?_, rfl, q _ (I.hok.fresh (Nat.le_refl _))⟩
  exact ⟨Nat.le_trans (cutV_length xs lo hi) hz, _, 0, (r.drop (HT.sIx xs.length 0 lo)).take (HT.sIx xs.length xs.length hi - HT.sIx xs.length 0 lo), Heap.get?_push_size _ rfl⟩

/-! ### in, not in: flat items -/
def flatV : V → Bool
  | .non => true
  | .bl _ => true
  | .int _ => true
  | .str _ => true
  | _ => false
/-- == of flat values -/
def eqV : V → V → Bool
  | .non, .non => true
  | .bl a, .bl b => a == b
  | .bl a, .int b => (if a then 1 else 0) == b
  | .int a, .bl b => a == (if b then 1 else 0)
  | .int a, .int b => a == b
  | .str a, .str b => a == b
  | _, _ => false
/-- the items' answers, read off the values (a value's own answer does not lean on its token) -/
def eqU (x : V) (u : Value) : Bool := match u with
  | .none => eqV .non x
  | .bool b => eqV (.bl b) x
  | .int i _ => eqV (.int i) x
  | .str z _ => eqV (.str z) x
  | _ => false
def inV (x : V) (xs : List V) : Bool := xs.any fun y => eqV y x
/-- x in a list or tuple of flat items -/
def rIn (K : PySem.W.Frag) (neg : Bool) : R2 := fun x y H Q => ∃ p xs, y = .ref p ∧ (SqL K H p xs ∨ SqT K H p xs) ∧ flatV x = true ∧ xs.all flatV = true ∧ Q (.bl (if neg then !inV x xs else inV x xs)) H
/-! ### len, list(x), tuple(x) of any list or tuple that is read -/
theorem call_len_seq : CallR X (.builtin "len") (fun xs H Q => ∃ p ys, xs = [.ref p] ∧ (SqL X.K H p ys ∨ SqT X.K H p ys) ∧ Q (.int ys.length) H) := by
  intro pins s σ H xs us Q I r h
  obtain ⟨p, ys, rfl, hq, q⟩ := h
  obtain ⟨u, rfl, rx⟩ := vals1 r
  cases rx
  have hn := line63
  rcases hq with hq | hq
  · obtain ⟨its, r', pl, hz⟩ := I.list hq
    have hlen := r'.length
    exact Calls.call_len_list pl.isList (by simp only [List.size_toArray] <;> omega) ⟨.int ys.length, H, I.tok _, ⟨s.toks + 1, by rw [List.size_toArray, hlen]⟩, q⟩
  · obtain ⟨its, r', pl, hz⟩ := I.tuple hq
    have hlen := r'.length
    exact len_tuple pl (by simp only [List.size_toArray] <;> omega) ⟨.int ys.length, H, I.tok _, ⟨s.toks + 1, by rw [List.size_toArray, hlen]⟩, q⟩
theorem call_len_str : CallR X (.builtin "len") (fun xs H Q => ∃ z, xs = [.str z] ∧ z.length ≤ sizeLine ∧ Q (.int z.length) H) := by
  intro pins s σ H xs us Q I r h
  obtain ⟨z, rfl, hz, q⟩ := h
  obtain ⟨u, rfl, t, rfl⟩ := vals1 r
  have hn := line63
  exact len_str (by omega) ⟨.int z.length, H, I.tok _, ⟨_, rfl⟩, q⟩
/-! ### the call of a builtin's method: o.m(..) -/
/-- the value is of that builtin type -/
def tyV (K : PySem.W.Frag) (T : String) (x : V) (H : Hp) : Prop := match x with
  | .str _ => T = "str"
  | .int _ => T = "int"
  | .ref p => (T = "list" ∧ ∃ xs, SqL K H p xs) ∨ (T = "tuple" ∧ ∃ o, K.lookup p = some o ∧ o.cls = .type "tuple" ∧ o.dict = none) ∨
      (T = "dict" ∧ ((∃ kvs, H p = some (.dK kvs)) ∨ ∃ kvs, H p = some (.dT kvs))) ∨ (T = "set" ∧ ∃ S n, H p = some (.set S n))
  | _ => False
theorem tyV_is {pins : List (Addr × Obj)} {σ : St} {H : Hp} {s : Shared} {T : String} {x : V} {v : Value} (I : Inv X pins σ H s) (r : RelV x v) (ty : tyV X.K T x H) :
    s.TypeIs v T ∧ ∀ a, v = .ref a → ∃ ob, s.heap.get? a = some ob ∧ ob.dict = none := by
  cases x with
  | str z =>
    obtain ⟨t, rfl⟩ := r
    cases (show T = "str" from ty)
    exact ⟨typeIs_str s z t, fun _ e => nomatch e⟩
  | int i =>
    obtain ⟨t, rfl⟩ := r
    cases (show T = "int" from ty)
    exact ⟨typeIs_int s i t, fun _ e => nomatch e⟩
  | ref p =>
    cases r
    rcases ty with ⟨rfl, xs, hq⟩ | ⟨rfl, o, hk, hc, hd⟩ | ⟨rfl, hk⟩ | ⟨rfl, S, n, hk⟩
    · obtain ⟨its, _, pl, _⟩ := I.list hq
      refine ⟨pl.isList.typeIs, fun a e => ?_⟩
      cases e
      obtain ⟨o, n, e, c, hd, _⟩ := pl
      exact ⟨o, e, hd⟩
    · refine ⟨⟨o, I.kIn p o hk, hc⟩, fun a e => ?_⟩
      cases e
      exact ⟨o, I.kIn _ o hk, hd⟩
    · have z : ∃ o, s.heap.get? p = some o ∧ o.ExactDict := by
        rcases hk with ⟨kvs, hk⟩ | ⟨kvs, hk⟩
        · obtain ⟨_, _, _, _, o, _, _, e, ex, _⟩ := I.hok p _ hk
          exact ⟨o, e, ex⟩
        · obtain ⟨_, _, _, _, o, _, _, e, ex, _⟩ := I.hok p _ hk
          exact ⟨o, e, ex⟩
      obtain ⟨o, e, ex⟩ := z
      refine ⟨⟨o, e, ex.1⟩, fun a e2 => ?_⟩
      cases e2
      exact ⟨o, e, ex.2.1⟩
    · obtain ⟨o, _, _, _, e, ex, _⟩ := I.hok p _ hk
      refine ⟨⟨o, e, ex.1⟩, fun a e2 => ?_⟩
      cases e2
      exact ⟨o, e, ex.2.1⟩
  | _ => exact False.elim ty
def tBM0 (K : PySem.W.Frag) (T : String) (r : V → List V → Hp → VK → Prop) (to : TE) : TE := fun σ H Q => to σ H fun x H1 => tyV K T x H1 ∧ r x [] H1 Q
def tBM (K : PySem.W.Frag) (T : String) (r : V → List V → Hp → VK → Prop) (to : TE) (t : TA) : TE := fun σ H Q => to σ H fun x H1 => tyV K T x H1 ∧ t σ H1 fun xs H2 => r x xs H2 Q
variable {o e : Expr} {es : List Expr} {to : TE} {t : TA} {name : Str} {apos cpos : Pos} {T id : String} {r : V → List V → Hp → VK → Prop}
theorem pe_bm0 (pa : PlainAttrs T) (slot : Slot T name id) (hty : typeOf (.builtin id) = pure (.type "method_descriptor")) (hm : MtR X id r) (ho : PE X o to)
    (hbase : attributeBase o name X.env (eval o X.env) = eval o X.env := by rfl) (hline : (apos.endLine == cpos.line) = true := by rfl) : PE X (.Call (.Attribute o name apos) [] [] cpos) (tBM0 X.K T r to) := by
  intro pins s σ H Q I h
  refine wpAny_Call_method0_late hbase hline (thn (ho pins s σ H _ I h) fun v s1 ⟨x, H1, I1, r1, ty, q1⟩ => ?_)
  obtain ⟨h1, h2⟩ := tyV_is I1 r1 ty
  exact ⟨T, id, pa, slot, hty, h1, h2, Calls.callWith_builtin rfl (PySem.evalArgs_none (hm pins s1 σ H1 x [] v [] Q I1 r1 .nil q1))⟩
theorem pe_bm (pa : PlainAttrs T) (slot : Slot T name id) (hty : typeOf (.builtin id) = pure (.type "method_descriptor")) (hm : MtR X id r) (ho : PE X o to) (ha : PA X (e :: es) t)
    (hbase : attributeBase o name X.env (eval o X.env) = eval o X.env := by rfl)
    (hfew : ((backTo cpos (starEach (e :: es) X.env)).all (fun x => !x.1) && (backToKw cpos (keywordEach [] X.env)).all (fun x => x.1.isSome)
      && decide ((e :: es).length + ([] : List Keyword).length + (if ([] : List Keyword).isEmpty then 0 else 1) < 30)) = true := by rfl)
    (hline : (apos.endLine == cpos.line) = true := by rfl) (hs : starEach (e :: es) X.env = (false, eval e X.env) :: starEach es X.env := by rfl) (hplain : (backTo cpos (starEach es X.env)).any (·.1) = false := by rfl) :
    PE X (.Call (.Attribute o name apos) (e :: es) [] cpos) (tBM X.K T r to t) := by
  intro pins s σ H Q I h
  refine wpAny_Call_method_late hbase hfew hline rfl (thn (ho pins s σ H _ I h) fun v s1 ⟨x, H1, I1, r1, ty, q1⟩ => ?_)
  obtain ⟨h1, h2⟩ := tyV_is I1 r1 ty
  refine ⟨T, id, pa, slot, hty, h1, h2, ?_⟩
  have hA := ha cpos pins s1 σ H1 _ I1 q1
  rw [hs] at hA ⊢
  refine Calls.callWith_builtin (by show (false || (backTo cpos (starEach es X.env)).any (·.1)) = false; rw [hplain] <;> rfl) (Calls.evalArgs_plain ?_)
  exact thn hA fun us s2 ⟨vs, H2, I2, r2, q2⟩ => hm pins s2 σ H2 x vs v us Q I2 r1 r2 q2
/- xs.append(e), list.index on a module's tuple .. are MtR facts of 06m -/
end
end L2

namespace L2
open PySem PySem.Spec PyProof.Rows

def MtM (X : Cx) (id : String) (r : V → List V → Hp → VK → Prop) : Prop :=
  ∀ (pins : List (Addr × Obj)) (s : Shared) (σ : St) (H : Hp) (x : V) (xs : List V) (v : Value) (us : List Value) (Q : VK), Inv X pins σ H s → RelV x v → Vals xs us → r x xs H Q →
    wpAny (model X.prog X.w) X.A (call (.builtin id) (v :: us)) (EP X pins σ Q) X.xe s

/-! ### lists of values -/
theorem Vals.one : ∀ {x : V} {us : List Value}, Vals [x] us → ∃ u, us = [u] ∧ RelV x u
  | _, _, .cons r .nil => ⟨_, rfl, r⟩
theorem Vals.two : ∀ {x y : V} {us : List Value}, Vals [x, y] us → ∃ u v, us = [u, v] ∧ RelV x u ∧ RelV y v
  | _, _, _, .cons r (.cons q .nil) => ⟨_, _, rfl, r, q⟩
theorem Vals.zero : ∀ {us : List Value}, Vals [] us → us = []
  | _, .nil => rfl
theorem Vals.dropLast {xs : List V} {us : List Value} (h : Vals xs us) : Vals xs.dropLast us.dropLast := by
  induction h with
  | nil => exact .nil
  | cons r t ih =>
    cases t with
    | nil => exact .nil
    | cons q t' => exact .cons r ih
theorem erase_last {α : Type} (l : List α) : l.eraseIdx (l.length - 1) = l.dropLast := by
  induction l with
  | nil => rfl
  | cons a r ih =>
    cases r with
    | nil => rfl
    | cons b r =>
      have e : (a :: b :: r).length - 1 = ((b :: r).length - 1) + 1 := by
        have h1 : (a :: b :: r).length = r.length + 2 := rfl
        have h2 : (b :: r).length = r.length + 1 := rfl
        omega
      rw [e, List.eraseIdx_cons_succ, ih]
      all_goals rfl
section
variable {X : Cx} {pins : List (Addr × Obj)} {σ : St} {H : Hp} {s : Shared} {l b : Addr} {xs ys zs : List V}

/-! ### the two steps: a tracked list is rewritten, a new list is laid -/
theorem Inv.lset {its its' : List Value} {n : Nat} {f : Array Value → Array Value} {t' : Nat} (I : Inv X pins σ H s) (hH : H l = some (.lst xs))
    (e : s.heap.get? l = some { cls := .type "list", data := .seq its.toArray n }) (hf : f its.toArray = its'.toArray) (hv : Vals ys its') (hz : ys.length ≤ sizeLine) :
    Inv X pins σ (upd H l (.lst ys)) { s with heap := s.heap.update l (Obj.mapSeq f), toks := t' } := by
  have q := PySem.IsL.update e f
  rw [hf] at q
  refine I.write (x := l) (e := l) (by rw [hH]; exact trivial) (.inl rfl) (fun b' u hb hu => (Heap.get?_update_other s.heap (Obj.mapSeq f) (Ne.symm hb)).trans hu) ⟨_, q⟩ ?_
  exact ⟨hz, its', _, hv, q⟩
theorem Inv.lnew {its : List Value} {t' : Nat} (I : Inv X pins σ H s) (hv : Vals ys its) (hz : ys.length ≤ sizeLine) :
    Inv X pins σ (upd H s.heap.objs.size (.lst ys)) { s with heap := s.heap.push { cls := .type "list", data := .seq its.toArray }, toks := t' } :=
  I.laid (fun _ _ q => Heap.get?_push_of_some _ q) (Nat.le_refl _) ⟨hz, its, 0, hv, Heap.get?_push_size _ rfl⟩
theorem Inv.fresh (I : Inv X pins σ H s) : H s.heap.objs.size = none := I.hok.fresh (Nat.le_refl _)
theorem Inv.lstM (I : Inv X pins σ H s) (hH : H l = some (.lst xs)) : xs.length ≤ sizeLine ∧ ∃ (its : List Value) (n : Nat), Vals xs its ∧ xs.length = its.length ∧ s.heap.get? l = some { cls := .type "list", data := .seq its.toArray n } := by
  obtain ⟨z, its, n, r, e⟩ := I.hok l _ hH
  exact ⟨z, its, n, r, r.length, e⟩

end

section
variable {X : Cx}

/-! ### methods -/
def rAppend : V → List V → Hp → VK → Prop := fun x vs H Q => ∃ l xs y, x = .ref l ∧ vs = [y] ∧ H l = some (.lst xs) ∧ xs.length < sizeLine ∧ Q .non (upd H l (.lst (xs ++ [y])))
theorem mt_append : MtM X "list.append" rAppend := by
  intro pins s σ H x vs v us Q I rx rv h
  obtain ⟨l, xs, y, rfl, rfl, hH, hz, q⟩ := h
  cases rx
  obtain ⟨u, rfl, ru⟩ := rv.one
  obtain ⟨z, its, n, r, hl, e⟩ := I.lstM hH
  refine call_meets F.slot_list_append ⟨_, e, rfl⟩ F.entry_list_append (F.args_list_append_2 _ _) (PySem.list_append l its.toArray n u (by rw [List.size_toArray]; omega)) ⟨e, ?_⟩
  refine ⟨.non, _, I.lset (its' := its ++ [u]) hH e (by simp) (r.append (.cons ru .nil)) ?_, rfl, q⟩
  rw [List.length_append, List.length_singleton]
  omega

def rExtend : V → List V → Hp → VK → Prop := fun x vs H Q => ∃ l b xs zs, x = .ref l ∧ vs = [.ref b] ∧ H l = some (.lst xs) ∧ H b = some (.lst zs) ∧ xs.length + zs.length ≤ sizeLine ∧ Q .non (upd H l (.lst (xs ++ zs)))
def rPop : V → List V → Hp → VK → Prop := fun x vs H Q => ∃ l xs y, x = .ref l ∧ vs = [] ∧ H l = some (.lst xs) ∧ xs[xs.length - 1]? = some y ∧ Q y (upd H l (.lst xs.dropLast))
theorem mt_pop : MtM X "list.pop" rPop := by
  intro pins s σ H x vs v us Q I rx rv h
  obtain ⟨l, xs, y, rfl, rfl, hH, hy, q⟩ := h
  cases rx
  have hus := rv.zero
  subst hus
  obtain ⟨z, its, n, r, hl, e⟩ := I.lstM hH
  obtain ⟨u, hu, ru⟩ := r.get hy
  have hy' : its.toArray[its.toArray.size - 1]? = some u := by
    show its.toArray[its.length - 1]? = some u
    rw [← Array.getElem?_toList, ← hl]
    exact hu
  refine call_meets F.slot_list_pop ⟨_, e, rfl⟩ F.entry_list_pop (F.args_list_pop_1 _) (MeetsSeq.list_pop_last l its.toArray n u hy' (by rw [List.size_toArray]; omega)) ⟨e, ?_⟩
  refine ⟨y, _, I.lset (its' := its.dropLast) hH e ?_ r.dropLast ?_, ru, q⟩
  · show its.toArray.eraseIdxIfInBounds (its.toArray.size - 1) = its.dropLast.toArray
    rw [List.size_toArray, List.eraseIdxIfInBounds_toArray, erase_last]
  · rw [List.length_dropLast]
    omega

def rPopAt : V → List V → Hp → VK → Prop := fun x vs H Q => ∃ l xs i k y, x = .ref l ∧ vs = [.int i] ∧ H l = some (.lst xs) ∧ -(2 ^ 63) ≤ i ∧ i < 2 ^ 63 ∧ seqIndex? i xs.length = some k ∧ xs[k]? = some y ∧ Q y (upd H l (.lst (xs.eraseIdx k)))
def rReverse : V → List V → Hp → VK → Prop := fun x vs H Q => ∃ l xs, x = .ref l ∧ vs = [] ∧ H l = some (.lst xs) ∧ Q .non (upd H l (.lst xs.reverse))
def rClear : V → List V → Hp → VK → Prop := fun x vs H Q => ∃ l xs, x = .ref l ∧ vs = [] ∧ H l = some (.lst xs) ∧ Q .non (upd H l (.lst []))
/-! ### list + list, list += list, list * int -/
def rCat : R2 := fun x y H Q => ∃ l b xs zs, x = .ref l ∧ y = .ref b ∧ H l = some (.lst xs) ∧ H b = some (.lst zs) ∧ xs.length + zs.length ≤ sizeLine ∧ ∀ p, H p = none → Q (.ref p) (upd H p (.lst (xs ++ zs)))
theorem op_cat : OpR X (binaryOp .Add) rCat := by
  intro pins s σ H x y v u Q I rx ry h
  obtain ⟨l, b, xs, zs, rfl, rfl, hH, hB, hz, q⟩ := h
  cases rx
  cases ry
  obtain ⟨z, its, n, r, hl, e⟩ := I.lstM hH
  obtain ⟨z2, its2, n2, r2, hl2, e2⟩ := I.lstM hB
  refine PySem.P.add_list e e2 ?_ (by rw [List.size_toArray, List.size_toArray]; omega)
  have ea : its.toArray ++ its2.toArray = (its ++ its2).toArray := by simp
  rw [ea]
  exact ⟨.ref _, _, I.lnew (t' := s.toks) (r.append r2) (by rw [List.length_append]; omega), rfl, q _ I.fresh⟩
/-- a list times an int (a negative one is nothing) -/
def rRep : R2 := fun x y H Q => ∃ l k xs, x = .ref l ∧ y = .int k ∧ H l = some (.lst xs) ∧ -(2 ^ 63) ≤ k ∧ k < 2 ^ 63 ∧ xs.length * k.toNat ≤ sizeLine ∧
  ∀ p, H p = none → Q (.ref p) (upd H p (.lst (List.replicate k.toNat xs).flatten))
/-! ### del xs[i] -/
end

/-! ### xs[a:b] = ys -/
section
variable {prog : Program} {w : World} {A : Around} {E : Value → Shared → Prop} {s : Shared}
end

section
variable {X : Cx}
end
end L2

namespace Att
open PySem PySem.W PySem.Calls PyProof.Rows

/-! ### the script -/
theorem ints_of_wellAll {P : Params} {h : Heap} : ∀ (ns : List Int) (vs : List Value), WellAll P h vs (ns.map WData.int) → IntsAre vs ns := by
  intro ns
  induction ns with
  | nil =>
    intro vs w
    rw [List.map_nil] at w
    cases w
    exact .nil
  | cons n ns ih =>
    intro vs w
    rw [List.map_cons] at w
    cases w with
    | cons a b =>
      cases a
      exact .cons _ _ (ih _ b)

theorem script_of {l : OpenLaw} {n : Nat} (hn : l.most = some n) {P : Params} {h : Heap} {args : List WData} {vals : List Value}
    (hpre : l.row.toRowW.claim.pre args = true) (hwl : WellAll P h vals args) :
    ∃ a vs ns, vals = [Value.ref a] ∧ args = [WData.list (ns.map WData.int)] ∧ h.get? a = some { cls := .type "list", data := .seq vs.toArray } ∧ IntsAre vs ns ∧ ns.length ≤ n := by
  have hsh : WShape.hasAll [] args [.list .int] = true := (pre_splitW hpre).1
  have hc : l.pre.holds [] { args := args } = true := (pre_splitW hpre).2
  obtain ⟨d, r, rfl, h1, h2⟩ := hasAllW_cons hsh
  obtain rfl := hasAllW_nil h2
  obtain ⟨xs, rfl, h3⟩ := hasW_list h1
  obtain ⟨ns, rfl⟩ := items_int h3
  have hlen : ns.length ≤ n := by
    unfold OpenLaw.pre at hc
    have h4 : (WTm.not (.lt (.lit (.int (n : Int))) (.len (.arg 0)))).holds [] { args := [.list (ns.map .int)] } = true := by
      have h4 := (holds_andW hc).1
      rw [hn] at h4
      exact h4
    have h5 := condW_of h4 (w_not (w_lt w_lit (w_len_list (w_arg rfl))))
    rw [List.length_map] at h5
    refine Nat.le_of_not_lt fun q => ?_
    have q' : (n : Int) < ((ns.length : Nat) : Int) := by omega
    first
      | (rw [decide_eq_true q'] at h5; exact absurd h5 (by decide))
      | (simp at h5; omega)
  cases hwl with
  | cons w1 w2 =>
    cases w2
    cases w1 with
    | list ho hall => exact ⟨_, _, ns, rfl, rfl, ho, ints_of_wellAll ns _ hall, hlen⟩

theorem post_true (l : OpenLaw) (args : List WData) : l.row.toRowW.claim.post args (.bool true) args = true :=
  postW_of (r := l.row.toRowW) (X := (true == true))
    (show WShape.has [] (.bool true) .bool = true by first | rfl | decide | simp [WShape.has, WShape.arms, WShape.armsAll])
    (show (WTm.eq .res (.lit (.bool true))).value [] { args := args, res := some (.bool true), after := args } = some (.bool (true == true)) from w_eq_bool (w_res rfl) w_lit) rfl

/-! ### the attachment: holds_open's last premise (the goal 'hc' behind k_head) from a wpAny of the law's body -/
/-- the same from a codeAny of the CALL (for a layer whose function contracts speak of calls) -/
theorem attach_call {l : OpenLaw} {n : Nat} {q : Program} {loose : List Str} {XP : (Str → Option Value) → Heap → Prop} {YP : World → Heap → Prop} {d : DefRec}
    (hn : l.most = some n) (hdf : d.params.defaults = [])
    (call : ∀ (w : World) (s₀ s₁ : Shared) (mg mb : Str → Option Value) (fa : Addr) (o : Obj) (pm cd doc : Value) (a : Addr) (vs : List Value) (ns : List Int),
      Ground q loose [] XP w s₀ mg mb s₁.heap → YP w s₁.heap →
      s₁.heap.get? fa = some o → o.data = .func (docDef d.name d.params d.body d.scope pm cd doc) → s₁.heap.CodeRec cd d.name → mg d.name = some (.ref fa) →
      s₁.heap.get? a = some { cls := .type "list", data := .seq vs.toArray } → IntsAre vs ns → ns.length ≤ n → s₁.gens = #[] →
      codeAny (model l.prog w) callerA (.call (.ref fa) ⟨[.ref a], []⟩) (fun r s' => r = .ok (.ret (.bool true)) ∧ OldK s₁.heap s'.heap ∧ s'.os = s₁.os ∧ AllBare s'.gens) s₁) :
    WalkO q loose XP YP l.row.toRowW d [] (fun f vs => PySem.call f vs) := by
  intro w s₀ s₁ mg mb G Y fa o pm cd doc dV kV ho hd hcd hD hmg hg args vals as hpre hlay hrd hwl hlo
  obtain rfl : dV = .none := Dflts.none hD hdf
  obtain rfl : kV = .none := Dflts.noKw hD
  obtain ⟨a, vs, ns, rfl, rfl, hobj, hints, hlen⟩ := script_of hn hpre hwl
  refine enter_call (codeAny_mono (call w s₀ s₁ mg mb fa o pm cd doc a vs ns G Y ho (fd_plain hd) hcd hmg hobj hints hlen hg) fun r s' hq => ?_)
  obtain ⟨rfl, h2, h3, h4⟩ := hq
  exact ⟨.inl ⟨.bool true, .bool true, [], rfl, fun _ => rfl, .bool true, post_true l _, fun _ => ⟨List.Pairwise.nil, fun _ hm => (nomatch hm)⟩⟩, h2, h3, h4⟩

/-! ### rules over ANY heap (no ledger) from facts about the written part K: the library's own take a ledger (News) for what they write -/
section
variable {prog : Program} {w : World} {A : Around} {E : Value → Shared → Prop} {s : Shared} {K : Frag}

/-! the whole heap as the ledger: makes every rule that writes through a ledger a rule over any heap -/
def noObjs (h : Heap) : Heap := { h with objs := #[] }
def ledger (h : Heap) (L d : Addr) : List (Addr × Obj) := (List.range h.objs.size).filterMap fun a => if a = L ∨ a = d then none else (h.get? a).map fun o => (a, o)
end
end Att

namespace L2
open PySem PySem.Spec PyProof.Rows

theorem vals_ints : ∀ {vs : List Value} {ns : List Int}, IntsAre vs ns → Vals (ns.map V.int) vs
  | _, _, .nil => .nil
  | _, _, .cons n t h => .cons ⟨t, rfl⟩ (vals_ints h)

/-- nothing is tracked but the script, known to the object (or it is an object of the module) -/
def Only (H : Hp) : Prop := ∀ b, H b = none ∨ ∃ o xs, H b = some (.frz o (.lst xs))

/-- THE HEAD: the law's promise, at the heap behind the top. F, the promise of the law's def, may use that base is part of the heap (so K.In base, base.Ns mainGlobals mg stand in Mod) -/
theorem law_call {P : Program} {w : World} {K : PySem.W.Frag} {mg mb : Str → Option Value} {CX : CXT} {k : Nat} {fa a : Addr} {fd : FuncData} {x : Str} {sp : Sp} {s₁ : Shared} {vs : List Value} {ns : List Int}
    (KX : K.In s₁.heap) (hns : s₁.heap.Ns mainGlobals mg) (hb : s₁.heap.Ns builtinsNs mb) (hbb : ∀ x : Str, x ≠ "__name__" → mb x = bootBuiltins x) (hlim : s₁.heap.NoLimit) (hg : s₁.gens = #[])
    (ha : s₁.heap.get? a = some { cls := .type "list", data := .seq vs.toArray }) (hi : IntsAre vs ns) (hl : ns.length ≤ sizeLine) (hr : Room k callerA)
    (F : ∀ base : Heap, K.In base → base.Ns mainGlobals mg → FnOk P w K mg base CX k fa fd [x] sp) (hbind : ∀ (s : Shared) (u : Value), BindsTo s fd ⟨[u], []⟩ [(x, u)])
    (hsp : ∀ H : Hp, Only H → SqL K H a (ns.map V.int) → sp [.ref a] H (fun v _ => v = .bl true) fun _ _ _ => False)
    (hCX : ∀ H e s', CX [] H s₁ (fun _ _ _ => False) e s' → False) :
    codeAny (model P w) callerA (.call (.ref fa) ⟨[.ref a], []⟩) (fun r s' => r = .ok (.ret (.bool true)) ∧ OldK s₁.heap s'.heap ∧ s'.os = s₁.os ∧ AllBare s'.gens) s₁ := by
  have rv := vals_ints hi
  have lenV := hi.length
  -- from an abstract heap in which nothing but the script may be tracked
  have core : ∀ H : Hp, Only H → SqL K H a (ns.map V.int) → HOk P w H s₁.heap → (∀ b, H b ≠ none → b = a) → (H a ≠ none → K.lookup a = none) →
      codeAny (model P w) callerA (.call (.ref fa) ⟨[.ref a], []⟩) (fun r s' => r = .ok (.ret (.bool true)) ∧ OldK s₁.heap s'.heap ∧ s'.os = s₁.os ∧ AllBare s'.gens) s₁ := by
    intro H hO hS hok hA hK
    have base_of : ∀ {b : Addr} {o : Obj}, s₁.heap.get? b = some o → H b = none → (hidT s₁.heap H).get? b = some o := fun e n => hidT_get e n
    have noA : ∀ {b : Addr} {o : Obj} {es : Array DictEntry} {ep : Nat}, s₁.heap.get? b = some o → o.data = .dict es ep → H b = none := fun {b o es ep} e d => by
      cases q : H b with
      | none => rfl
      | some u =>
        have e' : b = a := hA b (by rw [q]; simp)
        subst e'
        rw [ha] at e; cases e
        have d' : Data.seq vs.toArray _ = Data.dict es ep := d
        cases d'
    have nsK : ∀ {b : Addr} {m : Str → Option Value}, s₁.heap.Ns b m → (hidT s₁.heap H).Ns b m := fun {b m} ⟨o, es, ep, e, d, r⟩ => ⟨o, es, ep, base_of e (noA e d), d, r⟩
    have hKb : K.In (hidT s₁.heap H) := fun b o e => base_of (KX b o e) (by
      cases q : H b with
      | none => rfl
      | some u =>
        have e' : b = a := hA b (by rw [q]; simp)
        subst e'
        rw [hK (by rw [q]; simp)] at e; cases e)
    have hM : Mod K mg (hidT s₁.heap H) := ⟨hKb, nsK hns, ⟨mb, nsK hb, hbb⟩, let ⟨mc, h1, h2⟩ := hlim; ⟨mc, nsK h1, h2⟩⟩
    have e0 : Env0 P w K mg (hidT s₁.heap H) callerA [] s₁ H := ⟨rfl, hM, fun b o e => of_hidT e, Nat.le_of_eq (hidT_size _ _), trivial, fun b hb => absurd (show b ∈ ([] : List Addr) from hb) (by simp), hok, .of_eq hg⟩
    refine codeAny_mono ((F _ hKb (nsK hns)).run callerA [] s₁ H ⟨[.ref a], []⟩ [.ref a] [.ref a] _ _ hr e0 (hbind s₁ (.ref a)) (.cons rfl .nil) (hsp H hO hS)) fun r s' h => ?_
    cases r with
    | error e => exact (hCX H e s' h).elim
    | ok fl =>
      cases fl with
      | next => exact False.elim h
      | brk => exact False.elim h
      | cont => exact False.elim h
      | ret u =>
        obtain ⟨v, H', os, bare, un, hok', r', q⟩ := h
        have q' : v = .bl true := q
        subst q'
        obtain rfl : u = Value.bool true := r'
        refine ⟨rfl, OldK.of_keep fun b o e => ?_, os, bare⟩
        cases q : H b with
        | none => exact un.keep b o e q (by intro z; exact absurd (show b ∈ ([] : List Addr) from z) (by simp)) (by simp)
        | some u =>
          rcases hO b with z | ⟨ob, xs, z⟩
          · rw [q] at z; cases z
          · have z2 := un.frzs b ob _ z
            obtain ⟨e1, _⟩ := hok b _ z
            obtain ⟨e2, _⟩ := hok' b _ z2
            rw [e] at e1; cases e1
            exact e2
  cases hk : K.lookup a with
  | some o =>
    -- the script is one of the module's own objects
    have e := KX a o hk
    rw [ha] at e
    cases e
    refine core (fun _ => none) (fun _ => .inl rfl) (.inr ⟨_, vs.toArray, _, hk, rfl, rfl, rfl, by rw [List.size_toArray, lenV]; exact hl, by simpa using rv⟩) (fun b u z => by have z' : (none : Option HO) = some u := z; cases z') (fun b z => absurd rfl z) fun z => absurd rfl z
  | none =>
    refine core (fun b => if b = a then some (.frz { cls := .type "list", data := .seq vs.toArray } (.lst (ns.map V.int))) else none) (fun b => ?_) (.inl (.inr ⟨{ cls := .type "list", data := .seq vs.toArray }, if_pos rfl⟩)) (fun b u z => ?_) (fun b z => ?_) fun _ => hk
    · by_cases hb : b = a
      · exact .inr ⟨_, _, if_pos hb⟩
      · exact .inl (if_neg hb)
    · by_cases hb : b = a
      · have z' := (if_pos hb).symm.trans z
        cases z'
        subst hb
        exact ⟨ha, by rw [List.length_map]; exact hl, vs, _, rv, ha⟩
      · have z' := (if_neg hb).symm.trans z
        cases z'
    · by_cases hb : b = a
      · exact hb
      · exact absurd (if_neg hb) z
end L2

namespace L2
open PySem PySem.Spec PyProof.Rows

abbrev KOf {K : PySem.W.Frag} {h : Heap} (_ : K.In h) : PySem.W.Frag := K

/-- the goal that k_head leaves (case hc), from the law's promise. F gives the function object fd (K's own) once, then the promise over every base -/
theorem walk_of {l : PySem.W.OpenLaw} {n k : Nat} {q : Program} {loose : List Str} {XP : (Str → Option Value) → Heap → Prop} {YP : World → Heap → Prop} {d : DefRec} {K : Params → PySem.W.Frag} {CX : World → CXT} {sp : World → Sp} {x : Str}
    (hn : l.most = some n) (hn2 : n ≤ sizeLine) (hdf : d.params.defaults = []) (hr : Room k callerA)
    (hY : ∀ (w : World) (h : Heap), YP w h → (K w.params).In h)
    (F : ∀ (w : World) (mg : Str → Option Value) (fa : Addr) (h : Heap), (K w.params).In h → h.Ns mainGlobals mg → mg d.name = some (.ref fa) →
      ∃ fd : FuncData, (∀ (s : Shared) (u : Value), BindsTo s fd ⟨[u], []⟩ [(x, u)]) ∧
        ∀ base : Heap, (K w.params).In base → base.Ns mainGlobals mg → FnOk l.prog w (K w.params) mg base (CX w) k fa fd [x] (sp w))
    (hsp : ∀ (w : World) (H : Hp) (a : Addr) (ns : List Int), ns.length ≤ n → Only H → SqL (K w.params) H a (ns.map V.int) → sp w [.ref a] H (fun v _ => v = .bl true) fun _ _ _ => False)
    (hCX : ∀ (w : World) (H : Hp) (s : Shared) (e : Value) (s' : Shared), CX w [] H s (fun _ _ _ => False) e s' → False) :
    PySem.W.WalkO q loose XP YP l.row.toRowW d [] (fun f vs => PySem.call f vs) := by
  refine Att.attach_call hn hdf fun w s₀ s₁ mg mb fa o pm cd doc a vs ns G Y ho hd hcd hmg hobj hints hlen hg => ?_
  have KX := hY w _ Y
  obtain ⟨fd, hb, hF⟩ := F w mg fa _ KX G.T.g hmg
  exact law_call KX G.T.g G.T.b G.T.builtins G.T.nolimit hg hobj hints (Nat.le_trans hlen hn2) hr hF hb (fun H hO hS => hsp w H a ns hlen hO hS) fun H e s' => hCX w H s₁ e s'
end L2



/-! SHORT WORDS over the layer: a def of the text, its body, what a loop and a test want. -/
namespace L2
open PySem PySem.Spec PyProof.Rows

/-! ### the text by places -/
/-- the j-th statement of a class's body -/
def inClass (s : Stmt) (j : Nat) : Stmt := match s with
  | .ClassDef _ _ _ body _ _ _ _ _ _ _ => body.getD j (.Pass ⟨0, 0, 0, 0⟩)
  | _ => .Pass ⟨0, 0, 0, 0⟩
def defArgs (s : Stmt) : Arguments := match s with
  | .FunctionDef _ a _ _ _ _ _ _ _ _ => a
  | _ => { posonlyargs := [], args := [], vararg := none, kwonlyargs := [], kw_defaults := [], kwarg := none, defaults := [] }
def defBody (s : Stmt) : List Stmt := match s with
  | .FunctionDef _ _ b _ _ _ _ _ _ _ => b
  | _ => []
def defScope (s : Stmt) : Scope := match s with
  | .FunctionDef _ _ _ _ _ _ sc _ _ _ => sc
  | _ => { kind := .function, names := [], isGenerator := false, isCoroutine := false }

/-! ### no exception leaves a def -/
abbrev CX0 : CXT := fun _ _ _ _ _ _ => False
abbrev E0 : XK := fun _ _ _ => False
theorem pass0 {X : Cx} : Passes CX0 X E0 := fun _ _ _ _ _ _ _ h => h.elim

/-! ### a def (or method) of the text as it stands behind the top -/
structure Fun (K : PySem.W.Frag) (x qual : Str) (st : Stmt) (f : Addr) (fd : FuncData) : Prop where
  ex : ∃ (oc : Value) (od : Option Addr) (kV doc pm : Value) (an : Option Addr) (cdv ct : Value) (osl : Array (Option Value)),
    fd = PySem.W.fnOf x qual (defArgs st) (defBody st) (defScope st) .none kV doc pm an cdv ct ∧ K.lookup f = some ⟨oc, od, .func fd, osl⟩ ∧ PySem.W.codeIn K cdv qual = true
  kp : PySem.W.keepIn K (.ref f) = true
section
variable {P : Program} {w : World} {K : PySem.W.Frag} {mg : Str → Option Value} {base : Heap}
/-- THE RULE for a def: its body as a term of rules, and the reading of that term -/
theorem Fun.ok {x qual : Str} {st : Stmt} {f : Addr} {fd : FuncData} {N ps : List Str} {k : Nat} {sp : Sp} (F : Fun K x qual st f fd) (S : FnScope N ps (defScope st)) (len : ∀ vs H Q E, sp vs H Q E → vs.length = ps.length)
    (hbody : ∀ (cdv : Value) (A : Around) (outer : List Env) (s : Shared) (H : Hp) (vs : List V) (Q : VK) (E : XK), Room k (A.deeper (envOfC qual (defScope st) s.heap.objs.size f cdv)) → sp vs H Q E →
      ∃ t, PSs (cxOf CX0 P w K mg base N qual (defScope st) f cdv A outer s H E).nox (defBody st) t ∧ t { nx := fun _ H' => Q .non H', rt := Q } (start N vs) H) : FnOk P w K mg base CX0 (k + 1) f fd ps sp := by
  obtain ⟨oc, od, kV, doc, pm, an, cdv, ct, osl, rfl, lk, hcd⟩ := F.ex
  refine fn_of lk hcd S len fun A outer s H vs Q E hr hsp => ?_
  obtain ⟨t, h, q⟩ := hbody cdv A outer s H vs Q E hr hsp
  exact ⟨t, h.nox, q⟩
/-- how its arguments bind (no defaults): h is «fun _ _ _ _ _ _ us hl => match us, hl with | [_, _], _ => rfl», one _ a parameter -/
theorem Fun.binds {x qual : Str} {st : Stmt} {f : Addr} {fd : FuncData} {ps : List Str} (F : Fun K x qual st f fd)
    (h : ∀ (kV doc pm : Value) (an : Option Addr) (cdv ct : Value) (us : List Value), us.length = ps.length → bindArgs (PySem.W.fnOf x qual (defArgs st) (defBody st) (defScope st) .none kV doc pm an cdv ct) ⟨us, []⟩ = pure (ps.zip us)) : Binds K fd ps [] := by
  obtain ⟨oc, od, kV, doc, pm, an, cdv, ct, osl, rfl, lk, hcd⟩ := F.ex
  exact .all (h kV doc pm an cdv ct)
theorem fun_mk {x qual : Str} {st : Stmt} {f : Addr} {oc : Value} {od an : Option Addr} {osl : Array (Option Value)} {kV doc pm cdv ct : Value} (l : K.lookup f = some ⟨oc, od, .func (PySem.W.fnOf x qual (defArgs st) (defBody st) (defScope st) .none kV doc pm an cdv ct), osl⟩)
    (c : PySem.W.codeIn K cdv qual = true) (k : PySem.W.keepIn K (.ref f) = true) : Fun K x qual st f (PySem.W.fnOf x qual (defArgs st) (defBody st) (defScope st) .none kV doc pm an cdv ct) := ⟨⟨oc, od, kV, doc, pm, an, cdv, ct, osl, rfl, l, c⟩, k⟩
end
/-! ### expressions in short: the name that stands in the i-th slot -/
section
variable {X : Cx}
theorem pv (i : Nat) {x : Str} {pos : Pos} (hN : X.N[i]? = some x := by rfl) (hv : Vis X.env.scope x := by first | exact Or.inl rfl | exact Or.inr (Or.inl rfl) | exact Or.inr (Or.inr rfl)) (hd : (x == ("__debug__" : Str)) = false := by decide)
    (hcd : (x == ("__classdict__" : Str)) = false := by decide) : PE X (.Name x pos) (tVar i) := pe_var hN hv hd hcd
end

/-! ### tests -/
theorem iteF {A B : Prop} (h : B) : if false = true then A else B := by
  rw [if_neg Bool.false_ne_true]
  exact h
theorem iteT {A B : Prop} (h : A) : if true = true then A else B := by
  rw [if_pos rfl]
  exact h
theorem ite2 {c A B : Prop} [Decidable c] (h1 : c → A) (h2 : ¬ c → B) : if c then A else B := by
  by_cases h : c
  · rw [if_pos h]
    exact h1 h
  · rw [if_neg h]
    exact h2 h
theorem iteNS {c A B : Prop} [Decidable c] (hc : c) (h : B) : if (!decide c) = true then A else B := by
  rw [decide_eq_true hc]
  exact iteF h

/-! ### heaps -/
/-- all that was tracked is as it was -/
def Same (H H' : Hp) : Prop := ∀ b o, H b = some o → H' b = some o
theorem Same.refl (H : Hp) : Same H H := fun _ _ h => h
theorem Same.trans {H H1 H2 : Hp} (a : Same H H1) (b : Same H1 H2) : Same H H2 := fun c o h => b c o (a c o h)
theorem Same.free {H H' : Hp} (e : Same H H') {l : Addr} (h : H' l = Option.none) : H l = Option.none := by
  cases q : H l with
  | none => rfl
  | some o =>
    rw [e l o q] at h
    cases h
theorem Same.seq {K : PySem.W.Frag} {H H' : Hp} {a : Addr} {xs : List V} (e : Same H H') (h : SqL K H a xs) : SqL K H' a xs := by
  rcases h with (h | ⟨o, h⟩) | h
  · exact .inl (.inl (e _ _ h))
  · exact .inl (.inr ⟨o, e _ _ h⟩)
  · exact .inr h

end L2

section
set_option linter.all false
/-! A COMPREHENSION over the layer: [elt for x in iter], [elt for x in iter if test]; sum, min of a list of ints. -/
namespace L2
open PySem PySem.Spec PyProof.Rows

/-- the context of the block: its own names N, its cells cl (the captured names'), its records fp, entered at s with H -/
def cxComp (X : Cx) (scope : Scope) (cl : List (Str × Addr)) (N : List Str) (fp : List Addr) (s : Shared) (H : Hp) : Cx where
  prog := X.prog
  w := X.w
  K := X.K
  mg := X.mg
  base := X.base
  A := X.A
  N := N
  s₀ := s
  H₀ := H
  env := compEnvC scope cl s.heap.objs.size X.env
  outer := X.stack
  stack := X.stack
  ex := fp
  fn := fun _ => false
  calm := X.calm
  pn := []
  xe := fun _ _ => False

def SubC (cells : List (Str × Addr)) : List (Str × Addr) → Prop
  | [] => True
  | p :: r => cells.lookup p.1 = some p.2 ∧ SubC cells r
theorem SubC.get {cells : List (Str × Addr)} : ∀ {cl : List (Str × Addr)} {y : Str} {c : Addr}, SubC cells cl → cl.lookup y = some c → cells.lookup y = some c
  | [], _, _, _, h => by simp at h
  | (z, d) :: r, y, c, hs, h => by
    cases e : y == z with
    | true =>
      simp only [List.lookup_cons, e] at h
      cases h
      rw [beq_iff_eq.mp e]
      exact hs.1
    | false =>
      simp only [List.lookup_cons, e] at h
      exact SubC.get hs.2 h
/-- the captured names ys: the j-th stands in the slot js[j] of the def's own names -/
def CapsOk (X : Cx) (scope : Scope) (cl : List (Str × Addr)) : List Str → List Nat → Prop
  | [], [] => True
  | y :: ys, j :: js => (X.N[j]? = some y ∧ (X.env.scope.names.lookup y = some .cell ∨ X.env.scope.names.lookup y = some .free) ∧
      ((relabel scope X.env).names.lookup y = some .cell ∨ (relabel scope X.env).names.lookup y = some .free) ∧ ∃ c, cl.lookup y = some c) ∧ CapsOk X scope cl ys js
  | _, _ => False
def capSt (σ : St) (js : List Nat) : St := js.map fun j => (σ[j]?).getD none
theorem CapsOk.len {X : Cx} {scope : Scope} {cl : List (Str × Addr)} : ∀ {ys : List Str} {js : List Nat}, CapsOk X scope cl ys js → js.length = ys.length
  | [], [], _ => rfl
  | _ :: _, _ :: _, h => congrArg Nat.succ (CapsOk.len h.2)
  | [], _ :: _, h => h.elim
  | _ :: _, [], h => h.elim
theorem CapsOk.get {X : Cx} {scope : Scope} {cl : List (Str × Addr)} {σ : St} : ∀ {ys : List Str} {js : List Nat} {k : Nat} {y : Str} {v : V}, CapsOk X scope cl ys js → ys[k]? = some y → (capSt σ js)[k]? = some (some v) →
    ∃ j : Nat, σ[j]? = some (some v) ∧ X.N[j]? = some y ∧ (X.env.scope.names.lookup y = some .cell ∨ X.env.scope.names.lookup y = some .free) ∧
      ((relabel scope X.env).names.lookup y = some .cell ∨ (relabel scope X.env).names.lookup y = some .free) ∧ ∃ c, cl.lookup y = some c
  | [], _, _, _, _, _, h, _ => by simp at h
  | _ :: _, [], _, _, _, h, _, _ => h.elim
  | y :: ys, j :: js, 0, z, v, h, e1, e2 => by
    simp at e1
    subst e1
    refine ⟨j, ?_, h.1⟩
    have e : (σ[j]?).getD none = some v := by simpa [capSt] using e2
    cases q : σ[j]? with
    | none => rw [q] at e; cases e
    | some o => rw [q] at e; exact congrArg some e
  | y :: ys, j :: js, k + 1, z, v, h, e1, e2 => CapsOk.get (k := k) h.2 (by simpa using e1) (by simpa [capSt] using e2)

structure CompOk (X : Cx) (scope : Scope) (cl : List (Str × Addr)) (x : Str) (ys : List Str) (js : List Nat) : Prop where
  clos : closureFor scope X.env = pure cl
  nocell : ∀ y ∈ scope.names, y.2 ≠ .cell
  kind : scope.kind = .function
  names : ∀ y ∈ scope.names, y.2 = .local → scope.names.lookup y.1 = some .local
  hx : scope.names.lookup x = some .local
  sub : SubC X.env.cells cl
  has : ((relabel scope X.env).names.all fun p => !(p.2 == .cell || p.2 == .free) || (cl.lookup p.1).isSome) = true
  caps : CapsOk X scope cl ys js
  nd : (x :: ys).Nodup

theorem CompOk.hasC {X : Cx} {scope : Scope} {cl : List (Str × Addr)} {x : Str} {ys : List Str} {js : List Nat} (C : CompOk X scope cl x ys js) {y : Str}
    (h : (relabel scope X.env).names.lookup y = some .cell ∨ (relabel scope X.env).names.lookup y = some .free) : ∃ c, cl.lookup y = some c := by
  have all := List.all_eq_true.mp C.has
  rcases h with h | h
  · have q := all _ (PySem.mem_of_lookup h)
    exact Option.isSome_iff_exists.mp (by simpa using q)
  · have q := all _ (PySem.mem_of_lookup h)
    exact Option.isSome_iff_exists.mp (by simpa using q)

section
variable {X : Cx} {pins : List (Addr × Obj)} {σ : St} {H : Hp} {s : Shared} {scope : Scope} {cl : List (Str × Addr)} {x : Str} {ys : List Str} {js : List Nat} {fp : List Addr}

theorem comp_ok (I : Inv X pins σ H s) (C : CompOk X scope cl x ys js) (hf : ∀ b ∈ fp, FpOk X pins H b) (ho : ∀ b ∈ fp, ∃ o, s.heap.get? b = some o) :
    (cxComp X scope cl (x :: ys) fp s H).Ok := by
  have kindS : (relabel scope X.env).kind = .function := C.kind
  refine ⟨I.mod, kindS, I.ok.glob, I.ok.blt, Nat.le_refl _, fun y z c h1 h2 => I.ok.inj y z c (C.sub.get h1) (C.sub.get h2), fun y h => C.hasC h, fun y c h _ => absurd (show false = true from h) Bool.false_ne_true, I.ok.hd, I.ok.frames, .inl rfl, fun b hb => ?_, I.bs, Nat.le_trans I.ok.bsz I.sz, fun b o e hb => ?_, fun b hb hfs => ?_, I.stack, I.stkFree⟩
  · obtain ⟨o, e⟩ := ho b hb
    exact ⟨Nat.ne_of_lt (Heap.lt_size e), fun y c h => (hf b hb).2.2.2.2.1 y c (C.sub.get h)⟩
  · obtain ⟨_, _, _, h4, _⟩ := hf b hb
    rcases h4 with z | z
    · exact I.ok.noex b o e z
    · exact absurd (Nat.lt_of_lt_of_le (Heap.lt_size e) (Nat.le_trans I.ok.bsz z)) (Nat.lt_irrefl _)
  · obtain ⟨_, h2, h3, _⟩ := hf b hb
    rcases List.mem_cons.mp (I.stkSub b hfs) with z | z
    · exact h2 z
    · exact h3 z

theorem inv_comp {h₁ : Heap} {tk : Nat} {m : Str → Option Value} (I : Inv X pins σ H s) (C : CompOk X scope cl x ys js) (hf : ∀ b ∈ fp, FpOk X pins H b) (ho : ∀ b ∈ fp, ∃ o, s.heap.get? b = some o)
    (ns : h₁.Ns s.heap.objs.size m) (old : ∀ b o, s.heap.get? b = some o → h₁.get? b = some o) :
    Inv (cxComp X scope cl (x :: ys) fp s H) [] (none :: capSt σ js) H { s with heap := h₁, toks := tk } := by
  have cellK : ∀ c v, s.heap.IsCell c v → h₁.IsCell c v := fun c v ⟨o, e, d⟩ => ⟨o, old c o e, d⟩
  refine ⟨comp_ok I C hf ho, rfl, I.bare, Un.kept old, ⟨m, ns, fun i y v e1 e2 e3 => ?_⟩, fun y c h => ?_, I.hok.fresh (Nat.le_refl _), fun y c h => I.freeC y c (C.sub.get h), fun p hp => absurd hp (by simp [cxComp]), I.hok.kept old, ?_⟩
  · cases i with
    | zero => simp at e2
    | succ k =>
      obtain ⟨j, q1, q2, q3, q4, c, q5⟩ := C.caps.get (σ := σ) (k := k) (y := y) (v := v) (by simpa [cxComp] using e1) (by simpa using e2)
      obtain ⟨m0, _, hl⟩ := I.loc
      have vis : Vis X.env.scope y := q3.elim (fun z => .inr (.inl z)) (fun z => .inr (.inr z))
      obtain ⟨u, r, l⟩ := hl j y v q2 q1 vis
      refine ⟨u, r, ?_⟩
      rcases l with ⟨k1, _⟩ | ⟨_, c', k2, k3⟩
      · have k1' : X.env.scope.names.lookup y = some .local := k1
        rcases q3 with z | z <;> (rw [z] at k1'; cases k1')
      · have e : X.env.cells.lookup y = some c := C.sub.get q5
        rw [k2] at e
        cases e
        exact .inr ⟨q4, _, q5, cellK _ _ k3⟩
  · obtain ⟨v, z⟩ := I.cell y c (C.sub.get h)
    exact ⟨v, cellK c v z⟩
  · show (none :: capSt σ js).length = (x :: ys).length
    rw [List.length_cons, List.length_cons]
    unfold capSt
    rw [List.length_map, C.caps.len]
end

/-- the loop of a comprehension, whatever its target -/
theorem compLoop_any {prog : Program} {w : World} {A : Around} {R : Result → Shared → Prop} {s : Shared} {elt target iter : Expr} {ifs : List Expr} {scope : Scope} {pos : Pos} {it acc : Value} {env : Env} (I : Nat → Shared → Prop)
    (turn : ∀ n s, I n s → wpAny (model prog w) A (pyNext it) (fun r s₁ => match r with
      | none => R (.ok .next) s₁
      | some v => wpAny (model prog w) A (letOwnedTupleGo target it v) (fun _ s₁' => wpAny (model prog w) A (assign target env v) (fun _ s₂ =>
          wpAny (model prog w) A (forIn ifs true fun c r => if r = true then do let ok ← isTrue c env (eval c env); pure (ForInStep.yield ok) else pure (ForInStep.yield r)) (fun ok s₃ =>
            if ok = true then wpAny (model prog w) A (eval elt env) (fun x s₄ =>
              wpAny (model prog w) A (call (.builtin "list.append") [acc, x]) (fun _ s₅ => ∃ m, m < n ∧ I m s₅) (fun _ _ => False) s₄) (fun _ _ => False) s₃
            else ∃ m, m < n ∧ I m s₃) (fun _ _ => False) s₂) (fun _ _ => False) s₁') (fun _ _ => False) s₁) (fun _ _ => False) s)
    (n : Nat) (h : I n s) :
    codeAny (model prog w) A (.compLoop (.ListComp elt [⟨target, iter, ifs, 0⟩] scope pos) 0 it acc env) R s := by
  refine codeAny_loop rfl I (fun n s hI => ?_) n h
  show wpAny _ A ((compTurn (.ListComp elt [⟨target, iter, ifs, 0⟩] scope pos) 0 it acc env).onRaise (fun x => do noteFrame x env; theTreesLotGoes x)) _ _ s
  refine wpAny_noted ?_
  rw [compTurn_list]
  have no : ∀ (e : Value) (s : Shared), False → notedBy (model prog w) A env (fun e s' => R (.error e) s') e s := fun _ _ f => f.elim
  refine wpAny_bind (wpAny_standAt (wpAny_bind (wpAny_mono (turn n s hI) (fun r s₁ h₁ => ?_) no)))
  cases r with
  | none => exact wpAny_pure h₁
  | some v =>
    refine wpAny_bind (wpAny_mono h₁ (fun _ s₁' h₁' => ?_) no)
    refine wpAny_bind (wpAny_mono h₁' (fun _ s₂ h₂ => wpAny_bind (wpAny_mono h₂ (fun ok s₃ h₃ => ?_) no)) no)
    cases ok with
    | false => exact wpAny_pure ⟨rfl, h₃⟩
    | true =>
      exact wpAny_bind (wpAny_bind (wpAny_mono h₃ (fun x s₄ h₄ => wpAny_bind (wpAny_mono h₄ (fun _ s₅ h₅ => wpAny_pure (wpAny_pure ⟨rfl, h₅⟩)) no)) no))

/-- the tests of a clause -/
def PTs (X : Cx) (ifs : List Expr) (t : TT) : Prop :=
  ∀ (pins : List (Addr × Obj)) (s : Shared) (σ : St) (H : Hp) (Q : Bool → Hp → Prop), Inv X pins σ H s → t σ H Q →
    wpAny (model X.prog X.w) X.A (forIn ifs true fun c r => if r = true then do let ok ← isTrue c X.env (eval c X.env); pure (ForInStep.yield ok) else pure (ForInStep.yield r)) (TP X pins σ Q) X.xe s
def tYes : TT := fun _ H Q => Q true H
theorem pts_nil {X : Cx} : PTs X [] tYes := fun _ _ _ H _ I h => wpAny_tests_nil ⟨H, I, h⟩
/-- how a comprehension is read: W by the turn, a measure, the items so far, the heap (with the new list at D) -/
def CompBody (J : It) (js : List Nat) (tt : TT) (te : TE) (σ : St) (Q : VK) (H1 : Hp) : Prop := ∀ D, H1 D = none → ∃ W : Nat → Nat → List V → Hp → Prop, (∃ m, W 0 m [] (upd H1 D (.lst []))) ∧
  ∀ i m ys H, W i m ys H → (J.stop i H ∧ Q (.ref D) H) ∨ (J.go i H ∧ ∀ x H', J.yld i H x H' → tt (some x :: capSt σ js) H' fun b H2 =>
    if b = true then te (some x :: capSt σ js) H2 fun y H3 => H3 D = some (.lst ys) ∧ ys.length < sizeLine ∧ ∃ m', m' < m ∧ W (i + 1) m' (ys ++ [y]) (upd H3 D (.lst (ys ++ [y])))
    else ∃ m', m' < m ∧ W (i + 1) m' ys H2)
def tComp (wi : TI) (js : List Nat) (tt : TT) (te : TE) : TE := fun σ H Q => wi σ H fun J H1 => CompBody J js tt te σ Q H1

section
variable {X : Cx} {scope : Scope} {cl : List (Str × Addr)} {x : Str} {ys : List Str} {js : List Nat} {elt iter : Expr} {ifs : List Expr} {px pos : Pos} {wi : TI} {tt : TT} {te : TE}

/-- the block, with what is done with the new list behind it (use) -/
theorem comp_run {use : Option (Value → Sem Unit)} {pins : List (Addr × Obj)} {σ : St} {H : Hp} {s : Shared} {QQ : Value → Shared → Prop} {Q : VK}
    (hc : X.calm = true) (C : CompOk X scope cl x ys js) (hi : PI X (.Name x px) iter wi)
    (ht : ∀ fp s H, PTs (cxComp X scope cl (x :: ys) fp s H) ifs tt) (he : ∀ fp s H, PE (cxComp X scope cl (x :: ys) fp s H) elt te)
    (I : Inv X pins σ H s) (h : tComp wi js tt te σ H Q)
    (fin : ∀ (D : Addr) (H' : Hp) (s' : Shared) (C : Addr) (m : Str → Option Value), Inv X pins σ H' s' → Q (.ref D) H' → s'.heap.Ns C m →
      (∀ (σ2 : St) (s2 : Shared) (h' : Heap) (tk : Nat), Inv X pins σ2 H' s2 → Heap.SameBut C s2.heap h' → Inv X pins σ2 H' { s2 with heap := h', toks := tk }) → C ≠ X.env.locals → (∀ y c, X.env.cells.lookup y = some c → c ≠ C) →
      compPost (model X.prog X.w) X.A X.xe use QQ (.ref D) C (.ok .next) s')
    (hs : ∀ x, foldedSetIterable iter X.env x = pure x := by intro _; rfl) :
    wpAny (model X.prog X.w) X.A (comprehension (.ListComp elt [⟨.Name x px, iter, ifs, 0⟩] scope pos) scope X.env (firstIterPos [⟨.Name x px, iter, ifs, 0⟩] pos) (newList []) false (eval iter X.env) use) QQ X.xe s := by
  refine wpAny_comprehension_free (g := ⟨.Name x px, iter, ifs, 0⟩) (gs := []) rfl hs C.clos C.kind C.names (thn (hi pins s σ H _ I h) fun v s1 h1 => thn h1 fun itv s2 h2 => ?_)
  obtain ⟨it, fp, tn, J, H2, e, I2, T, st2, f2, q⟩ := h2
  subst e
  have hf2 : H2 s2.heap.objs.size = none := I2.hok.fresh (Nat.le_refl _)
  obtain ⟨W, ⟨m0, w0⟩, turn⟩ := q s2.heap.objs.size hf2
  refine wpAny_newObj_type (wpAny_newFunctionEnv C.nocell (by intro y hy; simp at hy) (fun h₁ hns₁ hsb₁ => ?_) C.kind)
  dsimp only at hns₁ hsb₁ ⊢
  have I3 : Inv X pins σ (upd H2 s2.heap.objs.size (.lst [])) { s2 with heap := s2.heap.push { cls := .type "list", dict := none, data := .seq ([] : List Value).toArray } } :=
    I2.laid (t' := s2.toks) (fun b u e => Heap.get?_push_of_some _ e) (Nat.le_refl _) ⟨Nat.zero_le _, [], 0, .nil, Heap.get?_push_size _ rfl⟩
  have o2 : ∀ b ∈ fp, ∃ o, s2.heap.get? b = some o := fun b hb => let ⟨o, e, _⟩ := T.obj _ _ st2 b hb; ⟨o, e⟩
  have ne2 : ∀ b ∈ fp, b ≠ s2.heap.objs.size := fun b hb => by obtain ⟨o, e⟩ := o2 b hb; exact Nat.ne_of_lt (Heap.lt_size e)
  have up3 : ∀ b o, s2.heap.get? b = some o → (s2.heap.push { cls := .type "list", dict := none, data := .seq ([] : List Value).toArray }).get? b = some o := fun b o e => Heap.get?_push_of_some _ e
  generalize hG : s2.heap.push { cls := .type "list", dict := none, data := .seq ([] : List Value).toArray } = G at I3 hns₁ hsb₁ up3 ⊢
  have f3 : ∀ b ∈ fp, FpOk X pins (upd H2 s2.heap.objs.size (.lst [])) b := fun b hb => by
    obtain ⟨a1, a2⟩ := f2 b hb
    exact ⟨by rw [upd_ne (ne2 b hb)]; exact a1, a2⟩
  have H3n : ∀ b ∈ fp, (upd H2 s2.heap.objs.size (HO.lst [])) b = none := fun b hb => (f3 b hb).1
  generalize hH3 : upd H2 s2.heap.objs.size (HO.lst []) = H3 at I3 w0 H3n f3
  have o3 : ∀ b ∈ fp, ∃ o, ({ s2 with heap := G } : Shared).heap.get? b = some o := fun b hb => let ⟨o, e⟩ := o2 b hb; ⟨o, up3 b o e⟩
  have st3 : tn 0 G := T.keep _ _ _ st2 fun b _ o e => up3 b o e
  have old : ∀ b o, ({ s2 with heap := G } : Shared).heap.get? b = some o → h₁.get? b = some o := fun b o e => hsb₁.extBut b o (Nat.ne_of_lt (Heap.lt_size (show G.get? b = some o from e))) (Heap.get?_push_of_some _ e)
  have st4 : tn 0 h₁ := T.keep _ _ _ st3 fun b _ o e => old b o e
  have IB := inv_comp (s := { s2 with heap := G }) (h₁ := h₁) (tk := s2.toks + ([] : List (Str × Value)).length) I3 C f3 o3 hns₁ old
  generalize hs3 : ({ s2 with heap := G } : Shared) = s3 at I3 IB o3 old
  have e3 : s3.heap = G := by rw [← hs3]
  have stat : ∀ {H' : Hp}, (∀ b ∈ fp, H' b = none) → ∀ b ∈ fp, FpOk (cxComp X scope cl (x :: ys) fp s3 H3) [] H' b := fun hn b hb => by
    obtain ⟨a1, a2, a3, a4, a5, a6⟩ := f3 b hb
    obtain ⟨o, e⟩ := o3 b hb
    refine ⟨hn b hb, Nat.ne_of_lt (Heap.lt_size e), fun z => ?_, .inl hb, fun y c h => a5 y c (C.sub.get h), fun p hp => absurd hp (by simp [cxComp])⟩
    rcases List.mem_cons.mp (I3.stkSub b z) with z | z
    · exact a2 z
    · exact a3 z
  have pg : PG (cxComp X scope cl (x :: ys) fp s3 H3) (.Name x px) (gName 0) := pg_name (i := 0) C.nd rfl (.inl (lookup_relabel_local C.hx)) (.inr (lookup_relabel_local C.hx))
  have loop : ∀ s4 : Shared, s4 = { s3 with heap := h₁, toks := s2.toks + ([] : List (Str × Value)).length } →
      codeAny (model X.prog X.w) X.A (.compLoop (.ListComp elt [⟨.Name x px, iter, ifs, 0⟩] scope pos) 0 (.ref it) (.ref s2.heap.objs.size) (compEnvC scope cl s3.heap.objs.size X.env))
        (compPost (model X.prog X.w) X.A X.xe use QQ (.ref s2.heap.objs.size) s3.heap.objs.size) s4 := by
    rintro s4 rfl
    refine compLoop_any (fun n s' => ∃ i zs H' σ', Inv (cxComp X scope cl (x :: ys) fp s3 H3) [] σ' H' s' ∧ (∃ o, σ' = o :: capSt σ js) ∧ tn i s'.heap ∧ (∀ b ∈ fp, H' b = none) ∧ W i n zs H') ?_ m0 ⟨0, [], H3, _, IB, ⟨_, rfl⟩, st4, H3n, w0⟩
    rintro n s5 ⟨i, zs, H5, σ5, I5, ⟨o5, eσ⟩, st5, fr5, w5⟩
    subst eσ
    rcases turn i n zs H5 w5 with ⟨stop, qn⟩ | ⟨go, step⟩
    · refine thn (T.done (cxComp X scope cl (x :: ys) fp s3 H3) rfl rfl rfl hc i [] s5 _ H5 _ I5 (stat fr5) st5 stop) fun r s6 ⟨hr, I6⟩ => ?_
      subst hr
      obtain ⟨m6, hn6, _⟩ := id I6.loc
      have IX : Inv X pins σ H5 s6 := I3.call' I6.os I6.base I6.hok I6.bare fun b hb => by
        obtain ⟨a1, a2, a3, a4, a5, a6⟩ := f3 b hb
        exact ⟨a4, a2, a5, a6⟩
      have hC1 : s3.heap.objs.size ≠ X.env.locals := Nat.ne_of_gt I3.lt
      have hC2 : ∀ y c, X.env.cells.lookup y = some c → c ≠ s3.heap.objs.size := fun y c h => by
        obtain ⟨v, o, e, _⟩ := I3.cell y c h
        exact Nat.ne_of_lt (Heap.lt_size e)
      refine fin s2.heap.objs.size H5 s6 s3.heap.objs.size m6 IX qn hn6 (fun σ2 sA h' tk IA sb => ?_) hC1 hC2
      refine IA.turned (it := s3.heap.objs.size) (fun b o hb e => sb.extBut b o hb e) I6.free hC1 (.inr I3.sz) hC2 fun p hp => ?_
      exact Nat.ne_of_lt (Heap.lt_size (I3.pin p hp).1)
    · refine thn (T.item (cxComp X scope cl (x :: ys) fp s3 H3) rfl rfl rfl hc i [] s5 _ H5 _ I5 (stat fr5) st5 go) fun r s6 ⟨u, hr, h6⟩ => ?_
      subst hr
      refine thn h6 fun _ s7 ⟨xv, H7, I7, r7, y7, st7, fr7⟩ => ?_
      have I7' := I7.pinned (stat fr7) (T.obj _ _ st7)
      have q7 : gName 0 xv (o5 :: capSt σ js) H7 fun σ8 H8 => σ8 = some xv :: capSt σ js ∧ tt (some xv :: capSt σ js) H8 fun b H2 =>
          if b = true then te (some xv :: capSt σ js) H2 fun y H3 => H3 s2.heap.objs.size = some (.lst zs) ∧ zs.length < sizeLine ∧ ∃ m', m' < n ∧ W (i + 1) m' (zs ++ [y]) (upd H3 s2.heap.objs.size (.lst (zs ++ [y])))
          else ∃ m', m' < n ∧ W (i + 1) m' zs H2 := ⟨rfl, step xv H7 y7⟩
      refine thn (pg _ s7 _ H7 xv u _ I7' r7 q7) fun _ s8 ⟨σ8, H8, I8, e8, q8⟩ => ?_
      subst e8
      have again : ∀ {s9 : Shared} {H9 : Hp} {zs' : List V}, Inv (cxComp X scope cl (x :: ys) fp s3 H3) ([] ++ pinsAt fp s7.heap) (some xv :: capSt σ js) H9 s9 → (∃ m', m' < n ∧ W (i + 1) m' zs' H9) →
          ∃ m, m < n ∧ ∃ i zs H' σ', Inv (cxComp X scope cl (x :: ys) fp s3 H3) [] σ' H' s9 ∧ (∃ o, σ' = o :: capSt σ js) ∧ tn i s9.heap ∧ (∀ b ∈ fp, H' b = none) ∧ W i m zs H' := fun {s9 H9 zs'} I9 w9 => by
        obtain ⟨m', hm, w9⟩ := w9
        refine ⟨m', hm, i + 1, zs', H9, _, I9.unpinned, ⟨_, rfl⟩, T.keep _ _ _ st7 fun b hb o e => (I9.pin (b, o) (List.mem_append_right _ (List.mem_append_right _ (mem_pinsAt hb e)))).1, fun b hb => ?_, w9⟩
        obtain ⟨o, e, d⟩ := T.obj _ _ st7 b hb
        exact (I9.pin (b, o) (List.mem_append_right _ (List.mem_append_right _ (mem_pinsAt hb e)))).2.1
      refine thn (ht fp s3 H3 _ s8 _ H8 _ I8 q8) fun b s9 ⟨H9, I9, q9⟩ => ?_
      cases b with
      | false =>
        rw [if_neg Bool.false_ne_true] at q9 ⊢
        exact again I9 q9
      | true =>
        rw [if_pos rfl] at q9 ⊢
        refine thn (he fp s3 H3 _ s9 _ H9 _ I9 q9) fun yv s10 ⟨y, H10, I10, r10, hD, hz, w10⟩ => ?_
        have ap := mt_append (X := cxComp X scope cl (x :: ys) fp s3 H3) _ s10 _ H10 (.ref s2.heap.objs.size) [y] (.ref s2.heap.objs.size) [yv] (fun _ H' => H' = upd H10 s2.heap.objs.size (.lst (zs ++ [y]))) I10 rfl (.cons r10 .nil) ⟨_, zs, y, rfl, rfl, hD, hz, rfl⟩
        refine thn ap fun _ s11 ⟨_, H11, I11, _, e11⟩ => ?_
        subst e11
        exact again I11 w10
  subst hs3
  exact codeAny_compStart_list (loop _ rfl) (T.self _ 0 _ _ _ st4 (loop _ rfl))

theorem pe_comp (hc : X.calm = true) (C : CompOk X scope cl x ys js) (hi : PI X (.Name x px) iter wi)
    (ht : ∀ fp s H, PTs (cxComp X scope cl (x :: ys) fp s H) ifs tt) (he : ∀ fp s H, PE (cxComp X scope cl (x :: ys) fp s H) elt te)
    (hs : ∀ x, foldedSetIterable iter X.env x = pure x := by intro _; rfl) :
    PE X (.ListComp elt [⟨.Name x px, iter, ifs, 0⟩] scope pos) (tComp wi js tt te) := by
  intro pins s σ H Q I h
  rw [eval_ListComp]
  exact comp_run (use := none) hc C hi ht he I h (fun D H' s' C m I' q hn back _ _ => ⟨m, hn, fun h' sb => ⟨.ref D, H', back σ s' h' s'.toks I' sb, rfl, q⟩⟩) hs

/-- y = [elt for x in iter if ..] -/
def tSetC (i : Nat) (te : TE) : TS := fun D σ H => te σ H fun v H1 => D.nx (σ.set i (some v)) H1
end

/-! ### lists of ints: sum, min -/
section
variable {X : Cx}
end
end L2

end

section
set_option linter.all false
/-! SHORT WORDS of my own: a def by its name; isinstance; a comprehension over a range -/
namespace L2
open PySem PySem.Spec PyProof.Rows
/-- a def of the text stands behind the top as the text says -/
def DefAt (K : PySem.W.Frag) (mg : Str → Option Value) (x : Str) (st : Stmt) (ps : List Str) : Prop := ∃ f fd, Fun K x x st f fd ∧ mg x = some (.ref f) ∧ Binds K fd ps []
/-- it keeps its promise, k calls deep -/
def Own (P : Program) (w : World) (K : PySem.W.Frag) (mg : Str → Option Value) (base : Heap) (x : Str) (k : Nat) (ps : List Str) (sp : Sp) : Prop :=
  ∃ f fd, FnOk P w K mg base CX0 k f fd ps sp ∧ mg x = some (.ref f) ∧ PySem.W.keepIn K (.ref f) = true ∧ Binds K fd ps []
section
variable {P : Program} {w : World} {K : PySem.W.Frag} {mg : Str → Option Value} {base : Heap} {x : Str} {k : Nat} {ps N : List Str} {sp : Sp} {st : Stmt}
theorem own_of (D : DefAt K mg x st ps) (S : FnScope N ps (defScope st)) (len : ∀ vs H Q E, sp vs H Q E → vs.length = ps.length)
    (hbody : ∀ (f : Addr) (cdv : Value) (A : Around) (outer : List Env) (s : Shared) (H : Hp) (vs : List V) (Q : VK) (E : XK), Room k (A.deeper (envOfC x (defScope st) s.heap.objs.size f cdv)) → sp vs H Q E →
      ∃ t, PSs (cxOf CX0 P w K mg base N x (defScope st) f cdv A outer s H E).nox (defBody st) t ∧ t { nx := fun _ H' => Q .non H', rt := Q } (start N vs) H) : Own P w K mg base x (k + 1) ps sp := by
  obtain ⟨f, fd, F, m, b⟩ := D
  exact ⟨f, fd, F.ok S len (hbody f), m, F.kp, b⟩
end
section
variable {X : Cx} {x : Str} {k : Nat} {ps : List Str} {sp : Sp} {e : Expr} {es : List Expr} {t : TA} {p pos : Pos}
theorem pe_own (F : Own X.prog X.w X.K X.mg X.base x k ps sp) (hr : Room k X.A) (hg : Gl X x) (ha : PA X (e :: es) t) (hdb : (x == ("__debug__" : Str)) = false := by decide)
    (he : starEach (e :: es) X.env = (false, eval e X.env) :: starEach es X.env := by rfl) (hpl : (backTo pos (starEach es X.env)).any (·.1) = false := by rfl) :
    PE X (.Call (.Name x p) (e :: es) [] pos) (tCall sp [] E0 t) := by
  obtain ⟨f, fd, F, hm, hk, hb⟩ := F
  exact pe_call F hr hg hm hk hb .nil pass0 ha hdb he hpl
end
theorem B_len : bootBuiltins "len" = some (.builtin "len") := by decide +kernel
theorem B_isinstance : bootBuiltins "isinstance" = some (.builtin "isinstance") := by decide +kernel
theorem B_int : bootBuiltins "int" = some (.type "int") := by decide +kernel
theorem B_str : bootBuiltins "str" = some (.type "str") := by decide +kernel
theorem B_tuple : bootBuiltins "tuple" = some (.type "tuple") := by decide +kernel
theorem lt_size {n : Nat} (h : n ≤ 1000000) : n < sizeLine := Nat.lt_of_le_of_lt h (by decide)
/-! ### isinstance -/
section
variable {X : Cx}
/-- a class as it stands in an argument -/
def clV : V → Option Value
  | .ty n => some (.type n)
  | .ref a => some (.ref a)
  | _ => none
theorem clV_rel {x : V} {u c : Value} (h : clV x = some c) (r : RelV x u) : u = c := by
  cases x with
  | ty n => cases (show u = Value.type n from r); cases h; rfl
  | ref a => cases (show u = Value.ref a from r); cases h; rfl
  | _ => cases h
theorem call_isinst : CallR X (.builtin "isinstance") (fun xs H Q => ∃ x y t c b, xs = [x, y] ∧ clV y = some c ∧ TyOf X.K H x t ∧ PySem.W.kitOne X.K t c = some b ∧ Q (.bl b) H) := by
  intro pins s σ H xs us Q I r h
  obtain ⟨x, y, t, c, b, rfl, hc, ty, e, q⟩ := h
  obtain ⟨u, u', rfl, ru, ru'⟩ := r.two
  obtain rfl := clV_rel hc ru'
  exact isinst_ok I ru ty e fun tk => ⟨.bl b, H, I.tok tk, rfl, q⟩
end
/-! ### a comprehension over a range: the test p, the element g; what is made on the way is forgotten -/
theorem same_upd {H : Hp} {p : Addr} (h : H p = none) (o : HO) : Same H (upd H p o) := fun b u q => by rw [upd_ne (ne_of_none q h)]; exact q
/-! ### == and != of data: ints, bools, texts, None, lists and tuples of these, at any depth up to 64 -/
mutual
inductive DatIn (K : PySem.W.Frag) (H : Hp) : V → PyData → Prop where
  | non : DatIn K H .non .none
  | bl (b : Bool) : DatIn K H (.bl b) (.bool b)
  | int (i : Int) : DatIn K H (.int i) (.int i)
  | str (x : Str) : DatIn K H (.str x) (.str x)
  | lst {a : Addr} {xs : List V} {ds : List PyData} : SqL K H a xs → DatAll K H xs ds → DatIn K H (.ref a) (.list ds)
  | tup {a : Addr} {xs : List V} {ds : List PyData} : SqT K H a xs → DatAll K H xs ds → DatIn K H (.ref a) (.tuple ds)
inductive DatAll (K : PySem.W.Frag) (H : Hp) : List V → List PyData → Prop where
  | nil : DatAll K H [] []
  | cons {x : V} {d : PyData} {xs : List V} {ds : List PyData} : DatIn K H x d → DatAll K H xs ds → DatAll K H (x :: xs) (d :: ds)
end
section
variable {X : Cx} {pins : List (Addr × Obj)} {σ : St} {H : Hp} {s : Shared}
mutual
theorem DatIn.reads (I : Inv X pins σ H s) : ∀ {x : V} {d : PyData} {u : Value}, DatIn X.K H x d → RelV x u → ∃ as, Reads s.heap u d as
  | _, _, _, .non, r => by cases r; exact ⟨_, .none⟩
  | _, _, _, .bl b, r => by cases r; exact ⟨_, .bool b⟩
  | _, _, _, .int i, r => by obtain ⟨t, rfl⟩ := r; exact ⟨_, .int i t⟩
  | _, _, _, .str x, r => by obtain ⟨t, rfl⟩ := r; exact ⟨_, .str x t⟩
  | _, _, _, .lst h t, r => by
    cases r
    obtain ⟨its, rv, ⟨o, n, e, c, _, d⟩, _⟩ := I.list h
    obtain ⟨as, q⟩ := DatAll.reads I t rv
    exact ⟨_, .list e c d (by simpa using q)⟩
  | _, _, _, .tup h t, r => by
    cases r
    obtain ⟨its, rv, ⟨o, e, c, n, d⟩, _⟩ := I.tuple h
    obtain ⟨as, q⟩ := DatAll.reads I t rv
    exact ⟨_, .tuple e c d (by simpa using q)⟩
theorem DatAll.reads (I : Inv X pins σ H s) : ∀ {xs : List V} {ds : List PyData} {us : List Value}, DatAll X.K H xs ds → Vals xs us → ∃ as, ReadsAll s.heap us ds as
  | _, _, _, .nil, .nil => ⟨_, .nil⟩
  | _, _, _, .cons h t, .cons r rr => by
    obtain ⟨as, q⟩ := DatIn.reads I h r
    obtain ⟨bs, q'⟩ := DatAll.reads I t rr
    exact ⟨_, .cons q q'⟩
end
end
section
variable {X : Cx}
def rEqD (K : PySem.W.Frag) (neg : Bool) : R2 := fun x y H Q => ∃ d e, DatIn K H x d ∧ DatIn K H y e ∧ PySem.SeqAt.shaped d = true ∧ PySem.SeqAt.shaped e = true ∧ Q (.bl (if neg = true then !PyData.eqv d e else PyData.eqv d e)) H
theorem op_eqD (hu : X.A.units + 64 < cLine) : OpR X (compareOp .Eq) (rEqD X.K false) := by
  intro pins s σ H x y v u Q I rx ry h
  obtain ⟨d, e, hd, he, sd, se, q⟩ := h
  obtain ⟨as, r1⟩ := hd.reads I rx
  obtain ⟨bs, r2⟩ := he.reads I ry
  exact eq_dataH r1 r2 sd se hu ⟨.bl _, H, I, rfl, q⟩
end
/-! ### the same rules within a comprehension's block -/
section
variable {X : Cx} {scope : Scope} {cl : List (Str × Addr)} {N : List Str} {fp : List Addr} {s : Shared} {H : Hp}
end
end L2

end

section
set_option linter.all false
/-! list(range(a, b)); a list of lists -/
namespace L2
open PySem PySem.Spec PyProof.Rows
section
variable {X : Cx}
def tRng2 (ta : TA) : TE := fun σ H Q => ta σ H fun vs H1 => ∃ i j : Int, vs = [.int i, .int j] ∧ ∀ r, H1 r = none → Q (.ref r) (upd H1 r (.rng i j))
end
end L2

end

section
set_option linter.all false
/-! x in a list of data, where it is not; a comprehension over a list; what keeps tuples -/
namespace L2
open PySem PySem.Spec PyProof.Rows
section
variable {X : Cx} {pins : List (Addr × Obj)} {σ : St} {H : Hp} {s : Shared}
def rNotInD (K : PySem.W.Frag) : R2 := fun x y H Q => ∃ p xs dx ds, y = .ref p ∧ SqL K H p xs ∧ DatIn K H x dx ∧ DatAll K H xs ds ∧ PySem.SeqAt.shaped dx = true ∧ (∀ d ∈ ds, PySem.SeqAt.shaped d = true ∧ PyData.eqv d dx = false) ∧ Q (.bl false) H
end
/-! ### a comprehension over a list that stays -/
theorem comp_list {K : PySem.W.Frag} {a : Addr} {xs : List V} {js : List Nat} {tt : TT} {te : TE} {σ : St} {H : Hp} {Q : VK} (p : V → Bool) (g : V → V) (hS : SqL K H a xs)
    (ht : ∀ (x : V) (H' : Hp) (R : Bool → Hp → Prop), x ∈ xs → Same H H' → (∀ H'', Same H' H'' → R (p x) H'') → tt (some x :: capSt σ js) H' R)
    (he : ∀ (x : V) (H' : Hp) (R : VK), x ∈ xs → p x = true → Same H H' → (∀ H'', Same H' H'' → R (g x) H'') → te (some x :: capSt σ js) H' R)
    (hn : xs.length < sizeLine) (fin : ∀ (D : Addr) (H' : Hp), Same H H' → H D = none → H' D = some (.lst ((xs.filter p).map g)) → Q (.ref D) H') :
    CompBody (Itl K a) js tt te σ Q H := by
  intro D hD
  refine ⟨fun i m ys H' => m = xs.length - i ∧ i ≤ xs.length ∧ H' D = some (.lst ys) ∧ ys = ((xs.take i).filter p).map g ∧ Same H H', ⟨xs.length, rfl, Nat.zero_le _, upd_same, rfl, same_upd hD _⟩, ?_⟩
  rintro i m ys H1 ⟨rfl, hi, hd, hy, sm⟩
  have hq := sm.seq hS
  by_cases hlt : i < xs.length
  · have hx : xs[i]? = some xs[i] := List.getElem?_eq_getElem hlt
    have hm : xs[i] ∈ xs := List.getElem_mem hlt
    have et : xs.take (i + 1) = xs.take i ++ [xs[i]] := (List.take_append_getElem hlt).symm
    refine .inr ⟨⟨xs, xs[i], hq, hx⟩, fun x H' y => ?_⟩
    obtain ⟨e1, e2⟩ := y
    have e3 := e2 xs hq
    rw [hx] at e3
    cases e3
    subst e1
    refine ht _ _ _ hm sm fun H2 s2 => ?_
    have len : ys.length < sizeLine := by
      rw [hy, List.length_map]
      exact Nat.lt_of_le_of_lt (Nat.le_trans (List.length_filter_le _ _) (by rw [List.length_take]; exact Nat.min_le_right _ _)) hn
    refine ite2 (fun c => ?_) (fun c => ?_)
    · refine he _ _ _ hm c (sm.trans s2) fun H3 s3 => ?_
      have d3 : H3 D = some (.lst ys) := s3 _ _ (s2 _ _ hd)
      refine ⟨d3, len, xs.length - (i + 1), by omega, rfl, hlt, upd_same, ?_, fun b o q => ?_⟩
      · rw [et, List.filter_append, List.map_append, hy]
        simp [c]
      · have hb : b ≠ D := fun z => by rw [z, hD] at q; cases q
        rw [upd_ne hb]
        exact s3 _ _ (s2 _ _ (sm _ _ q))
    · refine ⟨xs.length - (i + 1), by omega, rfl, hlt, s2 _ _ hd, ?_, sm.trans s2⟩
      rw [et, List.filter_append, List.map_append, hy]
      simp [c]
  · have e : i = xs.length := by omega
    subst e
    rw [List.take_length] at hy
    exact .inl ⟨⟨xs, hq, Nat.le_refl _⟩, fin D H1 sm hD (by rw [hd, hy])⟩
/-- every tuple is kept -/
def TupS (H H' : Hp) : Prop := ∀ b xs, H b = some (.tup xs) → H' b = some (.tup xs)
theorem Same.tups {H H' : Hp} (s : Same H H') : TupS H H' := fun b xs e => s b _ e
theorem TupS.trans {H H1 H2 : Hp} (a : TupS H H1) (b : TupS H1 H2) : TupS H H2 := fun c xs h => b c xs (a c xs h)
theorem tups_lst {H : Hp} {l : Addr} {ys zs : List V} (h : H l = some (.lst ys)) : TupS H (upd H l (.lst zs)) := fun b xs e => by
  rw [upd_ne (ne_of e h (by intro z; cases z))]
  exact e
end L2

end

section
set_option linter.all false
namespace L2
open PySem PySem.Spec PyProof.Rows
section
variable {X : Cx}
def rIndex : V → List V → Hp → VK → Prop := fun x vs H Q => ∃ (l : Addr) (ns : List Int) (i : Int) (j : Nat), x = .ref l ∧ vs = [.int i] ∧ H l = some (.lst (ns.map V.int)) ∧ ns[j]? = some i ∧ (∀ m : Nat, m < j → ns[m]? ≠ some i) ∧ Q (.int j) H
end
end L2

end

section
set_option linter.all false
namespace L2
open PySem PySem.Spec PyProof.Rows PySem.W
section
variable {prog : Program} {w : World} {A : Around} {E : Value → Shared → Prop} {s : Shared} {K : Frag} {x D : Addr} {ox : Obj}
/-- what an own exception's class must have -/
structure XCls (K : Frag) (D : Addr) : Prop where
  ga : findIn K (.ref D) "__getattribute__" = some (some (.builtin "BaseException.__getattribute__"))
  gt : findIn K (.ref D) "__getattr__" = some none
  ca : findIn K (.ref D) "__class__" = some (some (.builtin "object.__class__"))
  cg : specialIn K (.builtin "object.__class__") "__get__" = some (some (.builtin "getset_descriptor.__get__"))
  ct : takesIn K (.builtin "object.__class__") = some true
  mo : mroIn K D (.type "object") = some true
  mb : mroIn K D (.type "BaseException") = some true
  cl : (clsIn K D).isSome = true
theorem xc_find (c : XCls K D) : findObj K D none "__class__" = some (.bind (.builtin "getset_descriptor.__get__") (.builtin "object.__class__")) := by
  obtain ⟨cd, hc⟩ := Option.isSome_iff_exists.mp c.cl
  unfold findObj
  rw [hc, Option.bind_some, c.ca, Option.bind_some]
  simp [c.cg, c.ct]
theorem xc_class {Q : Option Value → Shared → Prop} (c : XCls K D) (X : K.In s.heap) (I : InstAt s.heap x ox D none) (h : Q (some (.ref D)) { s with toks := s.toks + 1 }) :
    wpAny (model prog w) A (getAttr? (.ref x) "__class__") Q E s := by
  obtain ⟨hh, g, d, t, os⟩ := s
  have L0 := I.type (M := model prog w)
  have L1 := looks_findIn (M := model prog w) X c.ga
  have L2 := looks_findIn (M := model prog w) X c.gt
  have L3 := looks_find (M := model prog w) X I (xc_find c)
  have L4 := looks_mroIn (M := model prog w) X c.mb
  have f3 := F.attr_ValueError.ga.bind (.ref x)
  have hx2 : (Value.builtin "BaseException.__getattribute__" == Value.builtin "object.__getattribute__") = false := by decide +kernel
  have hx1 : (onTheHeap (Value.ref D) && Value.builtin "BaseException.__getattribute__" == Value.builtin "object.__getattribute__") = false := by rw [hx2]; rfl
  unfold getAttr? getAttrBy? getAttrBy
  refine wpAny_bind (wpAny_mkText (wpAny_bind (wpAny_attempt (wpAny_holding (wpAny_bind (L0.at (wpAny_bind (L1.at ?_))))))))
  dsimp only
  rw [hx1, if_neg Bool.false_ne_true]
  unfold getAttrByItsOwn hookBefore
  refine wpAny_bind (L2.at ?_)
  refine wpAny_bind (wpAny_attempt (wpAny_holding ?_))
  unfold callGetattribute boundAndCalled
  rw [if_neg (by decide)]
  rw [f3]
  repeat (any_goals (first | assumption | wp_step))
  refine codeAny_call_builtin F.attr_ValueError.ga.plain F.entry_bexc_ga ?_
  have hk : builtinKind "BaseException.__getattribute__" = some .slot := by decide +kernel
  have hsp : splitId "BaseException.__getattribute__" = some ("BaseException", "__getattribute__") := by decide +kernel
  have hao := F.args_bexc_ga (.ref x) (.str (Str.ofString "__class__") t)
  simp only [List.cons_append, List.nil_append]
  simp only [checkBuiltinCall, hk, hsp]
  refine wpAny_bind ?_
  unfold isInstance
  refine wpAny_bind (L0.at ?_)
  refine L4.at ?_
  repeat (any_goals (first | assumption | wp_step))
  refine wpAny_loadPart_at I.at_ (wpAny_pure ?_)
  dsimp only [headPart]
  rw [I.cls]
  refine wpAny_bind (L3.at ?_)
  dsimp only
  unfold Builtin.ObjectAttr.bindTo
  repeat (any_goals (first | assumption | wp_step))
  refine class_get (ox := ox) (od := none) X I c.mo ?_
  dsimp only
  repeat (any_goals (first | assumption | exact h | wp_step))
/-- an exception of an own class, for isinstance -/
theorem kitx_exc (c : XCls K D) : KitX K (.ref x) (.ref D) (fun h => ∃ ox, InstAt h x ox D none) where
  ty := fun _ _ _ ⟨_, I⟩ => I.type
  it := fun _ _ X _ => by
    obtain ⟨cd, hc⟩ := Option.isSome_iff_exists.mp c.cl
    unfold clsIn at hc
    split at hc
    · rename_i ho
      intro A' Q' E' s' k q
      unfold isType loadHead
      exact wpAny_bind (wpAny_loadPart (k _ _ (X _ _ ho)) (wpAny_pure q))
    · cases hc
  ne := fun h tp dd its n sl X htp => by
    obtain ⟨cd, hc⟩ := Option.isSome_iff_exists.mp c.cl
    cases q : (Value.ref D == Value.ref tp) with
    | false => rfl
    | true =>
      have e : D = tp := Value.ref.inj (beq_iff_eq.mp q)
      subst e
      unfold clsIn at hc
      split at hc
      · rename_i ho
        have z := (X _ _ ho).symm.trans htp
        cases z
      · cases hc
  ca := fun X ⟨_, I⟩ k => xc_class c X I k
end
end L2

end

section
set_option linter.all false
namespace L2
open PySem PySem.Spec PyProof.Rows
/-- an exception on its way: B is all that there was when it was made, but the frames -/
structure Fly (B : Heap) (l : List Env) (e : Addr) (cls fl : Value) (h : Heap) : Prop where
  stays : B.StaysIn h
  new : B.get? e = none
  frames : h.FunFrames B l
  exc : ∃ (vs : Array Value) (T : Addr) (ts : Array Value), h.get? e = some { cls := cls, data := .fields vs } ∧ vs[1]? = some (.ref T) ∧ B.get? T = none ∧ T ≠ e ∧
    h.get? T = some { cls := .type "traceback", data := .fields ts } ∧ ts[3]? = some fl
theorem upd_at {h : Heap} {a : Addr} {cls : Value} {vs : Array Value} (f : Array Value → Array Value) (e : h.get? a = some { cls := cls, data := .fields vs }) :
    (h.update a (Obj.mapFields f)).get? a = some { cls := cls, data := .fields (f vs) } :=
  Heap.get?_update_self (Obj.mapFields f) e rfl
theorem upd_off {h : Heap} {a b : Addr} (f : Obj → Obj) (n : b ≠ a) : (h.update a f).get? b = h.get? b := Heap.get?_update_other h f (Ne.symm n)
theorem ne_rec {h : Heap} {b e : Addr} {o : Obj} {c : Value} {vs : Array Value} (e1 : h.get? b = some o) (nf : ∀ ws, o.data ≠ .fields ws) (e2 : h.get? e = some { cls := c, data := .fields vs }) : b ≠ e := by
  rintro rfl
  rw [e1] at e2
  cases e2
  exact nf vs rfl
theorem fr_notrec {B h : Heap} {l : List Env} {e : Addr} {c : Value} {vs : Array Value} (hl : h.FunFrames B l) (e2 : h.get? e = some { cls := c, data := .fields vs }) : e ∉ l.filterMap (·.frame) := fun hm => by
  obtain ⟨_, o, ho, nf⟩ := hl.mem hm
  exact ne_rec ho nf e2 rfl
theorem stays_off {B h : Heap} {a : Addr} {f : Obj → Obj} (s : B.StaysIn h) (n : B.get? a = none) : B.StaysIn (h.update a f) := fun b o e => by
  rw [upd_off f (fun z => by rw [z, n] at e; cases e)]
  exact s b o e
section
variable {M : Model} {A : Around} {E : Value → Shared → Prop} {s : Shared} {B : Heap} {env : Env} {outer l : List Env} {L e : Addr} {cls fl head : Value} {vs : Array Value} {Q : Unit → Shared → Prop}
/-- the frame is entered in the exception's record -/
theorem fly_entry {had : Bool} (hfr : A.frames = some (env :: outer)) (hl : s.heap.FunFrames B (env :: outer)) (hf : env.frame = some L) (hB : B.StaysIn s.heap)
    (he : s.heap.get? e = some { cls := cls, data := .fields vs }) (hne : B.get? e = none) (hsz : 1 < vs.size)
    (q : ∀ h', Fly B (env :: outer) e cls (rawInt L) h' → s.heap.UpToSlots h' → Q () { s with heap := h' }) :
    wpAny M A (do let a ← frameOf env; let pl ← entryPlaceOf L had; let b ← EntryCells.newEntry head a .none (rawInt L) .none pl; setField (.ref e) 1 b) Q E s := by
  have nfr := fr_notrec hl he
  refine wpAny_bind (wpAny_frameOf_fun hfr hl hf fun h1 so => wpAny_bind (wpAny_entryPlaceOf fun pl hpl => ?_))
  unfold EntryCells.newEntry newFields
  refine wpAny_bind (wpAny_newObj_type ?_ (hpl.sizeOk5 _ _ _ _ _))
  have z1 : h1.objs.size = s.heap.objs.size := so.1
  have e1 : h1.get? e = some { cls := cls, data := .fields vs } := (so.2.1 e nfr).trans he
  have b1 : B.StaysIn h1 := fun b o ho => (so.2.1 b fun hm => by rw [(hl.mem hm).1] at ho; cases ho).trans (hB b o ho)
  generalize hob : (([head, Value.ref L, .none, rawInt L, .none] ++ (if pl.isEmpty then List.replicate 6 Value.none else pl)).toArray : Array Value) = ts
  have t3 : ts[3]? = some (rawInt L) := by
    rw [← hob]
    rfl
  have e2 := Heap.get?_push_of_some (h := h1) { cls := .type "traceback", dict := none, data := .fields ts } e1
  refine wpAny_setField e2 rfl hsz (q _ ?_ ?_)
  · have te : h1.objs.size ≠ e := Nat.ne_of_gt (Heap.lt_size e1)
    refine ⟨fun b o ho => ?_, hne, ?_, _, h1.objs.size, ts, upd_at _ e2, by simp [hsz], b1.fresh, te, ?_, t3⟩
    · rw [upd_off _ (fun z => by rw [z, hne] at ho; cases ho)]
      exact Heap.get?_push_of_some _ (b1 b o ho)
    · refine hl.of_keeps fun b o ho nf => ?_
      obtain ⟨sl, hs⟩ := so.2.2 b o ho
      refine ⟨{ o with slots := sl }, ?_, rfl⟩
      rw [upd_off _ (ne_rec ho nf he)]
      exact Heap.get?_push_of_some _ hs
    · rw [upd_off _ te]
      exact Heap.get?_push_size h1 rfl
  · intro b o ho nf
    obtain ⟨sl, hs⟩ := so.2.2 b o ho
    refine ⟨sl, ?_⟩
    rw [upd_off _ (ne_rec ho nf he)]
    exact Heap.get?_push_of_some _ hs
/-- it is set down -/
theorem fly_land (F : Fly B l e cls fl s.heap) (q : ∀ h', Fly B l e cls .none h' → s.heap.UpToSlots h' → Q () { s with heap := h' }) : wpAny M A (setFlight (.ref e) none) Q E s := by
  obtain ⟨st, nw, fr, vs, T, ts, he, h1, hT, te, eT, h3⟩ := F
  have z3 : 3 < ts.size := (Array.getElem?_eq_some_iff.mp h3).1
  unfold setFlight
  refine wpAny_bind (wpAny_field he rfl h1 ?_)
  rw [if_pos (show (Value.ref T != Value.none) = true from by simp)]
  have keep : ∀ b o, s.heap.get? b = some o → (∀ ws, o.data ≠ .fields ws) → (s.heap.update T (Obj.mapFields (·.setIfInBounds 3 ((none : Option Addr).elim Value.none fun f => rawInt f)))).get? b = some o := fun b o ho nf => by
    rw [upd_off _ (ne_rec ho nf eT)]
    exact ho
  refine wpAny_setField eT rfl z3 (q _ ⟨stays_off st hT, nw, fr.of_keeps fun b o ho nf => ⟨o, keep b o ho nf, rfl⟩, vs, T, _, ?_, h1, hT, te, upd_at _ eT, by simp [z3]⟩ fun b o ho nf => ⟨o.slots, keep b o ho nf⟩)
  rw [upd_off _ (Ne.symm te)]
  exact he
/-- a frame that it comes to -/
theorem fly_note (hfr : A.frames = some (env :: outer)) (hf : env.frame = some L) (F : Fly B (env :: outer) e cls .none s.heap)
    (q : ∀ h', Fly B (env :: outer) e cls (rawInt L) h' → s.heap.UpToSlots h' → Q () { s with heap := h' }) : wpAny M A (noteFrame (.ref e) env) Q E s := by
  obtain ⟨st, nw, fr, vs, T, ts, he, h1, hT, te, eT, h3⟩ := F
  have z3 : 3 < ts.size := (Array.getElem?_eq_some_iff.mp h3).1
  unfold noteFrame
  simp only [hf]
  refine wpAny_bind (wpAny_field he rfl h1 ?_)
  rw [if_pos (show (Value.ref T != Value.none) = true from by simp)]
  refine wpAny_bind (wpAny_field eT rfl h3 ?_)
  rw [if_neg (show ¬ ((Value.none == rawInt L) = true) from by simp [rawInt])]
  have keep : ∀ b o, s.heap.get? b = some o → (∀ ws, o.data ≠ .fields ws) → (s.heap.update T (Obj.mapFields (·.setIfInBounds 3 Value.none))).get? b = some o := fun b o ho nf => by
    rw [upd_off _ (ne_rec ho nf eT)]
    exact ho
  refine wpAny_bind (wpAny_setField eT rfl z3 ?_)
  refine fly_entry (vs := vs) hfr (fr.of_keeps fun b o ho nf => ⟨o, keep b o ho nf, rfl⟩) hf (stays_off st hT) ?_ nw (Array.getElem?_eq_some_iff.mp h1).1 fun h' F' u => q h' F' fun b o ho nf => u b o (keep b o ho nf) nf
  · rw [upd_off _ (Ne.symm te)]
    exact he
/-- it leaves a frame -/
theorem fly_leave (hfr : A.frames = some (env :: outer)) (hf : env.frame = some L) (F : Fly B (env :: outer) e cls .none s.heap)
    (q : ∀ h', Fly B outer e cls .none h' → s.heap.UpToSlots h' → Q () { s with heap := h' }) : wpAny M A (leaving env (.ref e)) Q E s := by
  unfold leaving
  refine wpAny_bind (fly_note hfr hf F fun h1 F1 u1 => fly_land (s := { s with heap := h1 }) F1 fun h2 F2 u2 => q h2 ⟨F2.stays, F2.new, F2.frames.2.2, F2.exc⟩ (u1.trans u2))
/-- a new one leaves its first frame -/
theorem fly_first (hfr : A.frames = some (env :: outer)) (hl : s.heap.FunFrames B (env :: outer)) (hf : env.frame = some L) (hB : B.StaysIn s.heap)
    (he : s.heap.get? e = some { cls := cls, data := .fields vs }) (hne : B.get? e = none) (h1 : vs[1]? = some .none)
    (q : ∀ h', Fly B outer e cls .none h' → s.heap.UpToSlots h' → Q () { s with heap := h' }) : wpAny M A (leaving env (.ref e)) Q E s := by
  unfold leaving noteFrame
  simp only [hf]
  refine wpAny_bind (wpAny_bind (wpAny_field he rfl h1 ?_))
  rw [if_neg (by decide)]
  exact fly_entry hfr hl hf hB he hne (Array.getElem?_eq_some_iff.mp h1).1 fun h2 F1 u1 => fly_land (s := { s with heap := h2 }) F1 fun h3 F2 u2 => q h3 ⟨F2.stays, F2.new, F2.frames.2.2, F2.exc⟩ (u1.trans u2)
end
end L2

end

section
set_option linter.all false
namespace L2
open PySem PySem.Spec PyProof.Rows
/-- how an exception lies behind a call -/
def CXE (P : Program) (w : World) : CXT := fun outer H s E e s' => ∃ (a : Addr) (cls : Value) (H' : Hp) (B : Heap), e = .ref a ∧ s'.os = s.os ∧ AllBare s'.gens ∧ Un (frs outer) [] H H' s.heap s'.heap ∧ HOk P w H' B ∧
  (∀ b o, s.heap.get? b = some o → b ∉ frs outer → ∃ o', B.get? b = some o' ∧ (H b = none → o' = o)) ∧ Fly B outer a cls .none s'.heap ∧ E cls none H'
theorem cxe_no {P : Program} {w : World} {outer : List Env} {H : Hp} {s : Shared} {e : Value} {s' : Shared} : ¬ CXE P w outer H s (fun _ _ _ => False) e s' := fun ⟨_, _, _, _, _, _, _, _, _, _, _, z⟩ => z
theorem ObjOk.ob {P : Program} {w : World} {H : Hp} {h : Heap} {a : Addr} {o : HO} (x : ObjOk P w H h a o) : ∃ u, h.get? a = some u := by
  cases o with
  | lst xs => obtain ⟨_, _, _, _, e⟩ := x; exact ⟨_, e⟩
  | tup xs => obtain ⟨_, _, _, ob, e, _⟩ := x; exact ⟨_, e⟩
  | dK kvs => obtain ⟨_, _, _, _, ob, _, _, e, _⟩ := x; exact ⟨_, e⟩
  | dT kvs => obtain ⟨_, _, _, _, ob, _, _, e, _⟩ := x; exact ⟨_, e⟩
  | set S n => obtain ⟨ob, _, _, _, e, _⟩ := x; exact ⟨_, e⟩
  | ins C dx fs => obtain ⟨_, _, _, e, _⟩ := x; exact ⟨_, e⟩
  | own y => exact x
  | xd fs => obtain ⟨_, ⟨ob, _, _, e, _⟩, _⟩ := x; exact ⟨_, e⟩
  | rng lo hi => obtain ⟨_, _, _, e⟩ := x; exact ⟨_, e⟩
  | frz ob u => obtain ⟨e, _⟩ := x; exact ⟨_, e⟩
  | tbl ps => exact ⟨_, x⟩
  | met f y => exact ⟨_, x⟩
  | ext φ => obtain ⟨_, e, _⟩ := x; exact e
theorem HOk.at_none {P : Program} {w : World} {H : Hp} {h : Heap} {a : Addr} (x : HOk P w H h) (e : h.get? a = none) : H a = none := by
  cases q : H a with
  | none => rfl
  | some o =>
    obtain ⟨u, z⟩ := (x a o q).ob
    rw [e] at z
    cases z
section
variable {X : Cx} {pins : List (Addr × Obj)} {σ : St} {H H' : Hp} {s s' : Shared} {B h'' : Heap} {a : Addr} {cls : Value} {E : XK}
theorem Inv.notLoc (I : Inv X pins σ H s) {b : Addr} {o : Obj} (e : X.s₀.heap.get? b = some o) : b ≠ X.env.locals := Nat.ne_of_lt (Nat.lt_of_lt_of_le (Heap.lt_size e) I.ok.above)
theorem Inv.notStk (I : Inv X pins σ H s) {b : Addr} {o : Obj} (e : X.s₀.heap.get? b = some o) (n : b ∉ X.fs) : b ∉ frs X.stack := fun hb => by
  rcases List.mem_cons.mp (I.stkSub b hb) with z | z
  · exact I.notLoc e z
  · exact n z
/-- seen from the body's entry -/
theorem cxe_entry (I : Inv X pins σ H s) (hex : X.ex = []) (os : s'.os = s.os) (bare : AllBare s'.gens) (un : Un (frs X.stack) [] H H' s.heap s'.heap) (hok : HOk X.prog X.w H' B)
    (kB : ∀ b o, s.heap.get? b = some o → b ∉ frs X.stack → ∃ o', B.get? b = some o' ∧ (H b = none → o' = o)) (F : Fly B X.outer a cls .none h'') (u : s'.heap.UpToSlots h'') (q : E cls none H') :
    CXE X.prog X.w X.outer X.H₀ X.s₀ E (.ref a) { s' with heap := h'' } := by
  have nx : ∀ b : Addr, b ∉ X.ex := fun b z => by rw [hex] at z; cases z
  refine ⟨a, cls, H', B, rfl, os.trans I.os, bare, ⟨fun b o e n hb _ => ?_, fun b o e n hb _ => ?_, fun b o e n _ => ?_, fun b o e _ => ?_, fun b xs e => un.tups b xs (I.base.tups b xs e), fun b o v e => un.frzs b o v (I.base.frzs b o v e), fun b ps e => ?_⟩, hok, fun b o e hb => ?_, F, q⟩
  · obtain ⟨o', e1, e2⟩ := kB b o (I.base.keep b o e n hb (nx b)) (I.notStk e hb)
    rw [e2 (I.base.free b o e n (nx b))] at e1
    exact F.stays b o e1
  · obtain ⟨_, o0, e0, nf⟩ := I.ok.funs.mem hb
    rw [e] at e0
    cases e0
    obtain ⟨sl, e1⟩ := I.base.slot b o e n hb (nx b)
    obtain ⟨sl', e2⟩ := un.any e1 (I.base.free b o e n (nx b)) (by simp)
    obtain ⟨sl'', e3⟩ := u b _ e2 nf
    exact ⟨sl'', e3⟩
  · obtain ⟨o', e1⟩ := I.base.there b o e (nx b)
    exact un.free b o' e1 (I.base.free b o e n (nx b)) (by simp)
  · by_cases hb : b ∈ X.fs
    · obtain ⟨_, o0, e0, nf⟩ := I.ok.funs.mem hb
      rw [e] at e0
      cases e0
      have n := I.ok.frf b hb
      obtain ⟨sl, e1⟩ := I.base.slot b o e n hb (nx b)
      obtain ⟨sl', e2⟩ := un.any e1 (I.base.free b o e n (nx b)) (by simp)
      obtain ⟨sl'', e3⟩ := u b _ e2 nf
      exact ⟨_, e3⟩
    · obtain ⟨o', e1⟩ := I.base.there b o e (nx b)
      obtain ⟨o2, e2, _⟩ := kB b o' e1 (I.notStk e hb)
      exact ⟨o2, F.stays b o2 e2⟩
  · obtain ⟨m1, e1⟩ := I.base.tbls b ps e
    obtain ⟨m2, e2⟩ := un.tbls b _ e1
    exact ⟨m1 ++ m2, by rw [e2, Array.append_assoc]⟩
  · obtain ⟨o', e1⟩ := I.base.there b o e (nx b)
    obtain ⟨o2, e2, e3⟩ := kB b o' e1 (I.notStk e hb)
    refine ⟨o2, e2, fun n => ?_⟩
    have := I.base.keep b o e n hb (nx b)
    rw [e1] at this
    cases this
    exact e3 (I.base.free b o e n (nx b))
/-- a def's body: what its callees raise goes on -/
theorem pass_E {P : Program} {w : World} {K : PySem.W.Frag} {mg : Str → Option Value} {base : Heap} {N : List Str} {qual : Str} {scope : Scope} {f : Addr} {cd : Value} {A : Around} {outer : List Env} {s₀ : Shared} {H₀ : Hp} {E : XK} :
    Passes (CXE P w) (cxOf (CXE P w) P w K mg base N qual scope f cd A outer s₀ H₀ E) E := by
  intro pins σ H s e s' I h
  obtain ⟨a, cls, H', B, rfl, os, bare, un, hok, kB, F, q⟩ := h
  refine fly_leave (L := s₀.heap.objs.size) I.ok.frames rfl F fun h' F' u => ?_
  exact cxe_entry I rfl os bare un hok kB F' u q
/-- what is wanted where an exception is made -/
def Raises (X : Cx) (E : XK) : Prop := ∀ (pins : List (Addr × Obj)) (σ : St) (H : Hp) (s : Shared) (cls : Value) (h' : Heap) (e : Addr) (vs : List Value), Inv X pins σ H s → Heap.MadeExcOf s.heap h' e cls vs → E cls none H → X.xe (.ref e) { s with heap := h' }
theorem raise_E {P : Program} {w : World} {K : PySem.W.Frag} {mg : Str → Option Value} {base : Heap} {N : List Str} {qual : Str} {scope : Scope} {f : Addr} {cd : Value} {A : Around} {outer : List Env} {s₀ : Shared} {H₀ : Hp} {E : XK} :
    Raises (cxOf (CXE P w) P w K mg base N qual scope f cd A outer s₀ H₀ E) E := by
  intro pins σ H s cls h1 e vs I md q
  obtain ⟨t, he, _, _⟩ := md.there
  have hB : (PySem.W.hideAll s.heap (frs (envOfC qual scope s₀.heap.objs.size f cd :: outer))).StaysIn h1 := fun b o z => md.keeps b o (PySem.W.of_hideAll _ z)
  have hl : h1.FunFrames (PySem.W.hideAll s.heap (frs (envOfC qual scope s₀.heap.objs.size f cd :: outer))) (envOfC qual scope s₀.heap.objs.size f cd :: outer) := by
    refine (PySem.W.funFrames_hide I.stack fun env he b hb => List.mem_filterMap.mpr ⟨env, he, hb⟩).of_keeps fun b o ho _ => ⟨o, md.keeps b o ho, rfl⟩
  have hne : (PySem.W.hideAll s.heap (frs (envOfC qual scope s₀.heap.objs.size f cd :: outer))).get? e = none := by
    cases z : (PySem.W.hideAll s.heap (frs (envOfC qual scope s₀.heap.objs.size f cd :: outer))).get? e with
    | none => rfl
    | some o =>
      have := PySem.W.of_hideAll _ z
      rw [md.new] at this
      cases this
  have hok : HOk P w H (PySem.W.hideAll s.heap (frs (envOfC qual scope s₀.heap.objs.size f cd :: outer))) := fun b o z => by
    refine (I.hok b o z).stay (fun c v hc ho => PySem.W.hideAll_get _ ho fun hm => ?_) (fun _ z => z) fun _ _ z => z
    have n := I.stkFree c hm
    rcases hc with rfl | hc
    · rw [z] at n; cases n
    · rw [hc] at n; cases n
  refine fly_first (L := s₀.heap.objs.size) (s := { s with heap := h1 }) I.ok.frames hl rfl hB he hne rfl fun h' F u => ?_
  refine cxe_entry (s' := { s with heap := h1 }) I rfl rfl I.bare (Un.kept fun b o z => md.keeps b o z) hok (fun b o z nb => ⟨o, PySem.W.hideAll_get _ z nb, fun _ => rfl⟩) F u q
end
/-! ### raise C(e) -/
theorem exc_obj {K : PySem.W.Frag} {h : Heap} {C : Addr} {bmB : List Value} {newId : String} (X : K.In h) (q : PySem.W.excIn K C bmB newId = true) :
    ∃ (bm : List Value) (N : Addr) (nm qn : Str) (bs : List Value) (hdct : Bool) (sn : List Str) (sub : List Value) (ab : Bool) (col : Option Bool) (dd : Option Addr) (k0 k1 k2 k3 k5 : Option Value) (mN : Str → Option Value),
      h.get? C = some (excClassObj nm qn C N bs bm hdct sn sub ab col dd k0 k1 k2 k3 k5 newId) ∧ h.Ns N mN ∧ mN "__init__" = none ∧ OwnTail h bmB bm := by
  unfold PySem.W.excIn at q
  split at q
  · rename_i dd cd sl ho
    split at q
    · rename_i C' bm k0 k1 k2 k3 n k5 hm hs
      obtain ⟨nm, bs, mro, ns, qn, hd, sn, sub, ab, col, del⟩ := cd
      obtain ⟨sl⟩ := sl
      simp only [Bool.and_eq_true, beq_iff_eq, Bool.not_eq_true'] at q hm hs
      obtain ⟨⟨⟨⟨⟨q1, q2⟩, q3⟩, q4⟩, q5⟩, q6⟩ := q
      subst q1 q2 hm q3 hs
      exact ⟨_, _, _, _, _, _, _, _, _, _, _, _, _, _, _, _, _, X _ _ ho, .of_isNs (PySem.W.isNs_of_in X q5), PySem.W.nsMap_none_of_in X q5 q6, PySem.W.tail_of_in X q4⟩
    · cases q
  · cases q
section
variable {X : Cx} {x : Str} {C : Addr} {np cpos pos : Pos} {e : Expr} {te : TE} {E : XK}
def tRaise (C : Addr) (E : XK) (te : TE) : TS := fun _ σ H => te σ H fun _ H1 => E (.ref C) none H1
theorem ps_raise (hc : X.calm = true) (R : Raises X E) (hg : Gl X x) (hm : X.mg x = some (.ref C)) (q : PySem.W.excIn X.K C [.type "ValueError", .type "Exception", .type "BaseException", .type "object"] "ValueError.__new__" = true)
    (he : PE X e te) (hs : starEach [e] X.env = (false, eval e X.env) :: starEach [] X.env := by rfl) (hdb : (x == ("__debug__" : Str)) = false := by decide) :
    PS X (.Raise (some (.Call (.Name x np) [e] [] cpos)) none pos) (tRaise C E te) := by
  intro pins s σ H D I h
  obtain ⟨bm, N, nm, qn, bs, hdct, sn, sub, ab, col, dd, k0, k1, k2, k3, k5, mN, hC, hN, hni, T⟩ := exc_obj I.ok.mod.kin q
  refine wpAny_Raise_call_subT (C := C) (nm := nm) (q := qn) (N := N) (bs := bs) (bm := bm) (hdct := hdct) (sn := sn) (sub := sub) (ab := ab) (col := col) (dd := dd) (k0 := k0) (k1 := k1) (k2 := k2) (k3 := k3) (k5 := k5)
    PySem.F.excBase_ValueError (mN := mN) (T.hasType PySem.F.excBase_ValueError.hasBase) (I.ok.hd hc) (by rw [hs]; rfl) hni (ld_glob I hg hm ?_ hdb)
  refine ⟨rfl, ?_⟩
  rw [hs]
  refine Calls.evalArgs_plain ?_
  refine Calls.spliced_cons (thn (he pins s σ H _ I h) fun v s1 ⟨y, H1, I1, r1, q1⟩ => Calls.spliced_nil ⟨rfl, by show 1 ≤ sizeLine; decide, ?_⟩)
  exact ⟨I1.bk _ _ hC, hN.keeps I1.bk, T.keeps I1.bk, fun h' e' md => R pins σ H1 s1 (.ref C) h' e' _ I1 md q1⟩
end
end L2

end

section
set_option linter.all false
namespace L2
open PySem PySem.Spec PyProof.Rows
/-- an exception that was caught: its class -/
def excO (a C : Addr) : HO := .ext fun h => ∃ vs, h.get? a = some { cls := .ref C, data := .fields vs }
/-- a class of exceptions of the text -/
structure XKind (K : PySem.W.Frag) (F C : Addr) : Prop where
  ex : PySem.W.excIn K C [.type "ValueError", .type "Exception", .type "BaseException", .type "object"] "ValueError.__new__" = true
  sub : PySem.W.mroIn K C (.ref F) = some true
theorem exc_match {K : PySem.W.Frag} {M : Model} {A : Around} {E : Value → Shared → Prop} {s : Shared} {F C a : Addr} {vs : Array Value} {Q : Bool → Shared → Prop} (X : K.In s.heap) (kF : XKind K F F) (kC : XKind K F C)
    (he : s.heap.get? a = some { cls := .ref C, data := .fields vs }) (q : Q true s) : wpAny M A (excMatches (.ref a) (.ref F)) Q E s := by
  obtain ⟨h, g, d, t, os⟩ := s
  obtain ⟨bm, N, nm, qn, bs, hdct, sn, sub, ab, col, dd, k0, k1, k2, k3, k5, mN, hC, _, _, T⟩ := exc_obj X kF.ex
  have hcB : (Value.ref F :: bm).contains (.type "BaseException") = true := by
    rw [List.contains_cons, T.hasType PySem.F.excBase_ValueError.hasBase, Bool.or_true]
  have L := PySem.W.looks_mroIn (M := M) X kC.sub
  have f := tc_notTuple
  have he' : h.get? a = some { cls := .ref C, data := .fields vs } := he
  unfold excMatches
  repeat (first | with_reducible refine wpAny_loadPart_at he' ?_ | with_reducible refine wpAny_loadPart_at hC ?_ | with_reducible refine PySem.W.Looks.at L ?_ | (with_reducible refine wpAny_isSubtype_exc hC ?_; rw [hcB]) | wp_step)
  exact q
section
variable {X : Cx} {pins : List (Addr × Obj)} {σ : St} {H H' : Hp} {s s' : Shared} {B h2 : Heap} {a C : Addr} {E : XK}
/-- it isn't among what there was at the call -/
theorem fly_new (I : Inv X pins σ H s) (kB : ∀ b o, s.heap.get? b = some o → b ∉ frs X.stack → ∃ o', B.get? b = some o' ∧ (H b = none → o' = o)) {fl cls : Value} (F : Fly B X.stack a cls fl s'.heap) (u : ∀ b o, s.heap.get? b = some o → b ∈ frs X.stack → (∀ ws, o.data ≠ .fields ws) → ∃ sl, s'.heap.get? b = some { o with slots := sl }) : s.heap.get? a = none := by
  cases z : s.heap.get? a with
  | none => rfl
  | some o =>
    by_cases hb : a ∈ frs X.stack
    · obtain ⟨_, o', e1, nf⟩ := F.frames.mem hb
      obtain ⟨vs, _, _, e2, _⟩ := F.exc
      rw [e1] at e2
      cases e2
      exact absurd rfl (nf vs)
    · obtain ⟨o', e1, _⟩ := kB a o z hb
      rw [F.new] at e1
      cases e1
theorem inv_caught {t' : Nat} {fl : Value} (I : Inv X pins σ H s) (os : s'.os = s.os) (bare : AllBare s'.gens) (un : Un (frs X.stack) [] H H' s.heap s'.heap) (hok : HOk X.prog X.w H' B)
    (kB : ∀ b o, s.heap.get? b = some o → b ∉ frs X.stack → ∃ o', B.get? b = some o' ∧ (H b = none → o' = o)) (F : Fly B X.stack a (.ref C) fl h2) (u : s'.heap.UpToSlots h2) :
    H' a = none ∧ Inv X pins σ (upd H' a (excO a C)) { s' with heap := h2, toks := t' } := by
  have n' : H' a = none := hok.at_none F.new
  have na : s.heap.get? a = none := by
    refine fly_new (s' := { s' with heap := h2 }) I kB F fun b o e hb nf => ?_
    obtain ⟨sl, e1⟩ := un.any e (I.stkFree b hb) (by simp)
    obtain ⟨sl', e2⟩ := u b _ e1 nf
    exact ⟨sl', e2⟩
  have ne : ∀ b o, s.heap.get? b = some o → b ≠ a := fun b o e z => by rw [z, na] at e; cases e
  obtain ⟨vs, T, ts, he, _⟩ := F.exc
  refine ⟨n', I.call' (s' := { s' with heap := h2, toks := t' }) (ch := []) os ⟨fun b o e n hb _ => ?_, fun b o e n hb _ => ?_, fun b o e n _ => ?_, fun b o e _ => ?_, fun b xs e => ?_, fun b o v e => ?_, fun b ps e => ?_⟩ (fun b o e => ?_) bare (fun b z => nomatch z)⟩
  · obtain ⟨o', e1, e2⟩ := kB b o e hb
    rw [e2 n] at e1
    exact F.stays b o e1
  · obtain ⟨_, o0, e0, nf⟩ := I.stack.mem hb
    rw [e] at e0
    cases e0
    obtain ⟨sl, e1⟩ := un.any e n (by simp)
    obtain ⟨sl', e2⟩ := u b _ e1 nf
    exact ⟨sl', e2⟩
  · rw [upd_ne (ne b o e)]
    exact un.free b o e n (by simp)
  · by_cases hb : b ∈ frs X.stack
    · obtain ⟨_, o0, e0, nf⟩ := I.stack.mem hb
      rw [e] at e0
      cases e0
      obtain ⟨sl, e1⟩ := un.any e (I.stkFree b hb) (by simp)
      obtain ⟨sl', e2⟩ := u b _ e1 nf
      exact ⟨_, e2⟩
    · obtain ⟨o', e1, _⟩ := kB b o e hb
      exact ⟨o', F.stays b o' e1⟩
  · have := un.tups b xs e
    rw [upd_ne (ne_of_none this n')]
    exact this
  · have := un.frzs b o v e
    rw [upd_ne (ne_of_none this n')]
    exact this
  · obtain ⟨m, e1⟩ := un.tbls b ps e
    exact ⟨m, by rw [upd_ne (ne_of_none e1 n')]; exact e1⟩
  · by_cases hb : b = a
    · subst hb
      rw [upd_same] at e
      cases e
      exact ⟨⟨vs, he⟩, ⟨_, he⟩, fun h3 h4 ⟨ws, z⟩ k => ⟨ws, k _ z⟩⟩
    · rw [upd_ne hb] at e
      exact (hok b o e).stay (fun c v _ z => F.stays c v z) (fun c z => by rw [upd_ne (ne_of_none z n')]; exact z) fun c xs z => by rw [upd_ne (ne_of_none z n')]; exact z
/-- a local name is gone -/
theorem Inv.unset {i t' : Nat} {n : Str} {h' : Heap} (I : Inv X pins σ H s) (hN : X.N.Nodup) (hi : X.N[i]? = some n) (hs : Heap.SameBut X.env.locals s.heap h')
    (hm : ∃ m, s.heap.Ns X.env.locals m ∧ (∃ v, h'.Ns X.env.locals fun x => if x = n then v else m x) ∧ ∀ (j : Nat) (x : Str) (v : V), X.N[j]? = some x → σ[j]? = some (some v) → Vis X.env.scope x → ∃ u, RelV v u ∧ Look X.env s.heap m x u) :
    Inv X pins (σ.set i none) H { s with heap := h', toks := t' } := by
  have nl : ∀ b o, X.s₀.heap.get? b = some o → b ≠ X.env.locals := fun b o e => I.notLoc e
  refine ⟨I.ok, I.os, I.bare, ⟨fun b o e n' hb hx => ?_, fun b o e n' hb hx => ?_, I.base.free, fun b o e hx => ?_, I.base.tups, I.base.frzs, I.base.tbls⟩, ?_, fun x c e => ?_, I.free, I.freeC, fun p hp => ?_, fun b o e => ?_, by simpa using I.len⟩
  · exact (hs.2 b (nl b o e)).trans (I.base.keep b o e n' hb hx)
  · obtain ⟨sl, e1⟩ := I.base.slot b o e n' hb hx
    exact ⟨sl, (hs.2 b (nl b o e)).trans e1⟩
  · obtain ⟨o', e1⟩ := I.base.there b o e hx
    exact ⟨o', (hs.2 b (nl b o e)).trans e1⟩
  · obtain ⟨m, _, ⟨v, hv⟩, hl⟩ := hm
    refine ⟨_, hv, fun j x v' e1 e2 e3 => ?_⟩
    by_cases hj : j = i
    · subst hj
      have : j < σ.length := by
        rw [I.len]
        exact (List.getElem?_eq_some_iff.mp e1).1
      rw [List.getElem?_set_self this] at e2
      cases e2
    · rw [List.getElem?_set_ne (Ne.symm hj)] at e2
      obtain ⟨u, r, l⟩ := hl j x v' e1 e2 e3
      refine ⟨u, r, ?_⟩
      rcases l with ⟨k, e⟩ | ⟨k, c, e, z⟩
      · refine .inl ⟨k, ?_⟩
        have : x ≠ n := fun z => hj (nodup_ix hN e1 (z ▸ hi))
        simp [this, e]
      · exact .inr ⟨k, c, e, z.sameBut hs (I.cne x c e)⟩
  · obtain ⟨v, z⟩ := I.cell x c e
    exact ⟨v, z.sameBut hs (I.cne x c e)⟩
  · obtain ⟨e, n', ne, nf, d⟩ := I.pin p hp
    exact ⟨(hs.2 p.1 ne).trans e, n', ne, nf, d⟩
  · refine (I.hok b o e).stay (fun c v hc z => (hs.2 c ?_).trans z) (fun _ z => z) fun _ _ z => z
    rintro rfl
    rcases hc with rfl | hc
    · rw [I.free] at e; cases e
    · rw [I.free] at hc; cases hc
end
/-- within an except suite -/
abbrev Cx.marked (X : Cx) (a : Addr) : Cx := { X with A := X.A.mark (some (.ref a)), calm := false, xe := fun _ _ => False }
/-- within a try's body -/
abbrev Cx.tried (X : Cx) (xe : Value → Shared → Prop) (pn : List (Addr × Obj)) : Cx := { X with xe := xe, pn := pn }
section
variable {X : Cx} {pins : List (Addr × Obj)} {σ : St} {H : Hp} {s : Shared}
theorem Inv.mark (I : Inv X pins σ H s) (a : Addr) : Inv (X.marked a) pins σ H s :=
  ⟨⟨I.ok.mod, I.ok.kind, I.ok.glob, I.ok.blt, I.ok.above, I.ok.inj, I.ok.has, I.ok.cab, fun z => Bool.noConfusion z, I.ok.frames, I.ok.stk, I.ok.exf, I.ok.bs, I.ok.bsz, I.ok.noex, I.ok.exfs, I.ok.funs, I.ok.frf⟩, I.os, I.bare, I.base, I.loc, I.cell, I.free, I.freeC, I.pin, I.hok, I.len⟩
theorem Inv.unmark {a : Addr} (I : Inv (X.marked a) pins σ H s) (ok : X.Ok) : Inv X pins σ H s := ⟨ok, I.os, I.bare, I.base, I.loc, I.cell, I.free, I.freeC, I.pin, I.hok, I.len⟩
theorem Inv.try' {xe : Value → Shared → Prop} (I : Inv X pins σ H s) : Inv (X.tried xe (X.pn ++ pins)) [] σ H s :=
  ⟨⟨I.ok.mod, I.ok.kind, I.ok.glob, I.ok.blt, I.ok.above, I.ok.inj, I.ok.has, I.ok.cab, I.ok.hd, I.ok.frames, I.ok.stk, I.ok.exf, I.ok.bs, I.ok.bsz, I.ok.noex, I.ok.exfs, I.ok.funs, I.ok.frf⟩, I.os, I.bare, I.base, I.loc, I.cell, I.free, I.freeC, fun p hp => I.pin p (by simpa using hp), I.hok, I.len⟩
theorem Inv.untry {xe : Value → Shared → Prop} {pj : List (Addr × Obj)} (ok : X.Ok) (I : Inv (X.tried xe (X.pn ++ pins)) pj σ H s) : Inv X pins σ H s :=
  ⟨ok, I.os, I.bare, I.base, I.loc, I.cell, I.free, I.freeC, fun p hp => I.pin p (List.mem_append_left _ hp), I.hok, I.len⟩
theorem SP.untry {xe : Value → Shared → Prop} {D : Ends} {f : Flow} {s' : Shared} (ok : X.Ok) (h : SP (X.tried xe (X.pn ++ pins)) [] D f s') : SP X pins D f s' := by
  cases f with
  | next => obtain ⟨σ', H', I, q⟩ := h; exact ⟨σ', H', I.untry ok, q⟩
  | brk => obtain ⟨σ', H', I, q⟩ := h; exact ⟨σ', H', I.untry ok, q⟩
  | cont => obtain ⟨σ', H', I, q⟩ := h; exact ⟨σ', H', I.untry ok, q⟩
  | ret u => obtain ⟨v, σ', H', I, r, q⟩ := h; exact ⟨v, σ', H', I.untry ok, r, q⟩
end
/-- what a try wants of an exception -/
def EXc (X : Cx) (F : Addr) (i : Nat) (ts : TS) (D : Ends) : XK := fun cls _ H' => ∃ C, cls = .ref C ∧ XKind X.K F C ∧ ∀ (a : Addr) (σ : St), σ.length = X.N.length → H' a = none →
  ts { nx := fun σ' H2 => D.nx (σ'.set i none) H2, rt := D.rt, bk := fun σ' H2 => D.bk (σ'.set i none) H2, ct := fun σ' H2 => D.ct (σ'.set i none) H2 } (σ.set i (some (.ref a))) (upd H' a (excO a C))
def tTry (X : Cx) (F : Addr) (i : Nat) (tb : XK → TS) (ts : TS) : TS := fun D σ H => tb (EXc X F i ts D) D σ H
theorem ps_try {X : Cx} {F : Addr} {i : Nat} {x n : Str} {np hpos pos : Pos} {body : List Stmt} {b₀ : Stmt} {suite : List Stmt} {tb : XK → TS} {ts : TS} (hN : X.N.Nodup) (hi : X.N[i]? = some n) (hl : X.env.kindOf n = some .local) (hst : X.stack = X.env :: X.outer) (hf : X.env.frame = some X.env.locals)
    (hg : Gl X x) (hm : X.mg x = some (.ref F)) (kF : XKind X.K F F) (hfn : X.fn n = true)
    (hb : ∀ (xe : Value → Shared → Prop) (pn : List (Addr × Obj)) (E : XK), Passes (CXE X.prog X.w) (X.tried xe pn) E → PSs (X.tried xe pn) body (tb E)) (hs : ∀ a : Addr, PSs (X.marked a) (b₀ :: suite) ts) (hdb : (x == ("__debug__" : Str)) = false := by decide) :
    PS X (.Try body [.ExceptHandler (some (.Name x np)) (some n) (b₀ :: suite) hpos] [] [] pos) (tTry X F i tb ts) := by
  intro pins s σ H D I h
  refine wpAny_Try_except ?_
  have key := hb (fun e s₁ => wpAny (model X.prog X.w) X.A (noteFrame e X.env) (fun _ s₂ => wpAny (model X.prog X.w) X.A (setFlight e none) (fun _ s₃ => wpAny (model X.prog X.w) X.A (handleBy e X.env [.ExceptHandler (some (.Name x np)) (some n) (b₀ :: suite) hpos]) (SP X pins D) X.xe s₃) X.xe s₂) X.xe s₁) (X.pn ++ pins) (EXc X F i ts D) ?_
  · refine wpAny_mono (key [] s σ H D I.try' h) (fun f s1 z => ?_) fun _ _ z => z
    have z' := SP.untry I.ok z
    cases f with
    | next => exact wpAny_execs_nil z'
    | ret v => exact z'
    | brk => exact z'
    | cont => exact z'
  · intro pj σ1 H1 s1 e s' I1 hx
    have I0 : Inv X pins σ1 H1 s1 := I1.untry I.ok
    obtain ⟨a, cls, H', B, rfl, os, bare, un, hok, kB, Fl, C, rfl, kC, q⟩ := hx
    have hfr : X.A.frames = some (X.env :: X.outer) := by rw [← hst]; exact I.ok.frames
    have Fl' : Fly B (X.env :: X.outer) a (.ref C) .none s'.heap := by rw [← hst]; exact Fl
    refine fly_note hfr hf Fl' fun h1 F1 u1 => ?_
    refine fly_land (s := { s' with heap := h1 }) F1 fun h2 F2 u2 => ?_
    have F2' : Fly B X.stack a (.ref C) .none h2 := by rw [hst]; exact F2
    have u12 := u1.trans u2
    obtain ⟨n2, I2⟩ := inv_caught (t' := s'.toks) I0 os bare un hok kB F2' u12
    obtain ⟨vs, T, tts, he, _⟩ := F2.exc
    refine wpAny_handleBy_cons (codeAny_handlers_test ?_) (by intro z; cases z)
    refine ld_glob (X := X.marked a) (I2.mark a) hg hm ?_ hdb
    refine exc_match (s := { s' with heap := h2 }) I2.kIn kF kC he ?_
    refine codeAny_handlers_suite_as ?_
    refine fly_land (s := { s' with heap := h2 }) F2 fun h3 F3 u3 => ?_
    have F3' : Fly B X.stack a (.ref C) .none h3 := by rw [hst]; exact F3
    obtain ⟨_, I3⟩ := inv_caught (t' := s'.toks) I0 os bare un hok kB F3' (u12.trans u3)
    refine store_ok (X := X.marked a) (v := .ref a) (i := i) (I3.mark a) hN hi (.inl hl) rfl (fun s4 I4 => ?_) (.inl hfn)
    refine wpAny_mono (hs a pins s4 _ _ _ I4 (q a σ1 I0.len n2)) (fun f s5 z => ?_) fun _ _ z => z.elim
    have fin : ∀ (σ5 : St) (H5 : Hp) (Q : Unit → Shared → Prop), Inv (X.marked a) pins σ5 H5 s5 → (∀ s6, Inv X pins (σ5.set i none) H5 s6 → Q () s6) → wpAny (model X.prog X.w) X.A (do bindName X.env n .none; unbindBehindTheSuite X.env n hpos) Q X.xe s5 := by
      intro σ5 H5 Q I5 qq
      have I5' : Inv X pins σ5 H5 s5 := I5.unmark I.ok
      obtain ⟨m, hn, hlk⟩ := I5'.loc
      refine wpAny_nameGoes_keeps hl hn (by rw [I.ok.kind]; rfl) fun h' v hv hsb => qq _ ?_
      exact I5'.unset hN hi hsb ⟨m, hn, ⟨v, hv⟩, hlk⟩
    cases f with
    | next => obtain ⟨σ5, H5, I5, w5⟩ := z; exact fin σ5 H5 _ I5 fun s6 I6 => ⟨_, _, I6, w5⟩
    | brk => obtain ⟨σ5, H5, I5, w5⟩ := z; exact fin σ5 H5 _ I5 fun s6 I6 => ⟨_, _, I6, w5⟩
    | cont => obtain ⟨σ5, H5, I5, w5⟩ := z; exact fin σ5 H5 _ I5 fun s6 I6 => ⟨_, _, I6, w5⟩
    | ret u => obtain ⟨v, σ5, H5, I5, r5, w5⟩ := z; exact fin σ5 H5 _ I5 fun s6 I6 => ⟨v, _, _, I6, r5, w5⟩
end L2

end

section
set_option linter.all false
namespace L2
open PySem PySem.Spec PyProof.Rows
/-! ### defs that raise -/
def OwnX (P : Program) (w : World) (K : PySem.W.Frag) (mg : Str → Option Value) (base : Heap) (x : Str) (k : Nat) (ps : List Str) (sp : Sp) : Prop :=
  ∃ f fd, FnOk P w K mg base (CXE P w) k f fd ps sp ∧ mg x = some (.ref f) ∧ PySem.W.keepIn K (.ref f) = true ∧ Binds K fd ps []
section
variable {P : Program} {w : World} {K : PySem.W.Frag} {mg : Str → Option Value} {base : Heap} {x : Str} {k : Nat} {ps N : List Str} {sp : Sp} {st : Stmt}
theorem Fun.okx {qual : Str} {f : Addr} {fd : FuncData} (F : Fun K x qual st f fd) (S : FnScope N ps (defScope st)) (len : ∀ vs H Q E, sp vs H Q E → vs.length = ps.length)
    (hbody : ∀ (cdv : Value) (A : Around) (outer : List Env) (s : Shared) (H : Hp) (vs : List V) (Q : VK) (E : XK), Room k (A.deeper (envOfC qual (defScope st) s.heap.objs.size f cdv)) → sp vs H Q E →
      ∃ t, PSs (cxOf (CXE P w) P w K mg base N qual (defScope st) f cdv A outer s H E) (defBody st) t ∧ t { nx := fun _ H' => Q .non H', rt := Q } (start N vs) H) : FnOk P w K mg base (CXE P w) (k + 1) f fd ps sp := by
  obtain ⟨oc, od, kV, doc, pm, an, cdv, ct, osl, rfl, lk, hcd⟩ := F.ex
  exact fn_of lk hcd S len fun A outer s H vs Q E hr hsp => hbody cdv A outer s H vs Q E hr hsp
theorem ownx_of (D : DefAt K mg x st ps) (S : FnScope N ps (defScope st)) (len : ∀ vs H Q E, sp vs H Q E → vs.length = ps.length)
    (hbody : ∀ (f : Addr) (cdv : Value) (A : Around) (outer : List Env) (s : Shared) (H : Hp) (vs : List V) (Q : VK) (E : XK), Room k (A.deeper (envOfC x (defScope st) s.heap.objs.size f cdv)) → sp vs H Q E →
      ∃ t, PSs (cxOf (CXE P w) P w K mg base N x (defScope st) f cdv A outer s H E) (defBody st) t ∧ t { nx := fun _ H' => Q .non H', rt := Q } (start N vs) H) : OwnX P w K mg base x (k + 1) ps sp := by
  obtain ⟨f, fd, F, m, b⟩ := D
  exact ⟨f, fd, F.okx S len (hbody f), m, F.kp, b⟩
end
section
variable {X : Cx} {x : Str} {k : Nat} {ps : List Str} {sp : Sp} {e : Expr} {es : List Expr} {t : TA} {p pos : Pos} {E : XK}
theorem pe_ownx (F : OwnX X.prog X.w X.K X.mg X.base x k ps sp) (hx : Passes (CXE X.prog X.w) X E) (hr : Room k X.A) (hg : Gl X x) (ha : PA X (e :: es) t) (hdb : (x == ("__debug__" : Str)) = false := by decide)
    (he : starEach (e :: es) X.env = (false, eval e X.env) :: starEach es X.env := by rfl) (hpl : (backTo pos (starEach es X.env)).any (·.1) = false := by rfl) :
    PE X (.Call (.Name x p) (e :: es) [] pos) (tCall sp [] E t) := by
  obtain ⟨f, fd, F, hm, hk, hb⟩ := F
  exact pe_call F hr hg hm hk hb .nil hx ha hdb he hpl
end
/-! ### f-strings -/
def PJA (X : Cx) (es : List Expr) (t : TA) : Prop :=
  ∀ (out : Str) (pins : List (Addr × Obj)) (s : Shared) (σ : St) (H : Hp) (Q : VK), out.length + 2000 * es.length ≤ sizeLine → Inv X pins σ H s → t σ H (fun _ H' => ∀ z, Q (.str z) H') → wpAny (model X.prog X.w) X.A (joinParts out (evalEach es X.env)) (EP X pins σ Q) X.xe s
/-- what may stand in an f-string whose text isn't asked for -/
def FmtA : V → Prop
  | .int i => i.natAbs.log2 < 1900
  | .str x => x.length ≤ 1900
  | _ => False
section
variable {X : Cx} {e a b : Expr} {es : List Expr} {te : TE} {t : TA} {pos : Pos}
def tFmt (te : TE) (t : TA) : TA := fun σ H Q => te σ H fun v H1 => FmtA v ∧ t σ H1 Q
theorem pj_nil : PJA X [] tNil := fun out pins s σ H Q hz I h => joinParts_nil ⟨.str out, H, I.tok _, ⟨_, rfl⟩, h out⟩ (by simpa using hz)
theorem pj_str {x : Str} {k : Nat} (h : PJA X es t) (hx : x.length ≤ 2000 := by decide) : PJA X (.Constant (.str x) k pos :: es) t := by
  intro out pins s σ H Q hz I q
  refine joinParts_cons (Calls.Constant_str ⟨?_, h (out ++ x) pins _ σ H Q ?_ (I.tok _) q⟩)
  · rw [strLen_append]
    rw [List.length_cons] at hz
    omega
  · rw [strLen_append]
    rw [List.length_cons] at hz
    omega
theorem pj_val (he : PE X e te) (h : PJA X es t) : PJA X (.FormattedValue e (-1) none pos :: es) (tFmt te t) := by
  intro out pins s σ H Q hz I q
  rw [List.length_cons] at hz
  refine joinParts_cons (FormattedValue_plain (thn (he pins s σ H _ I q) fun v s1 ⟨y, H1, I1, r1, f1, q1⟩ => ?_))
  cases y with
  | int i =>
    obtain ⟨tk, rfl⟩ := r1
    have f1 : i.natAbs.log2 < 1900 := f1
    have e1 := int_text_length_le (k := 1900) (by decide) f1
    have e2 : (out ++ Str.ofString (toString i)).length = out.length + (toString i).length := by rw [strLen_append, PySem.ofString_length]
    refine formatField_int_small (Nat.lt_trans f1 (by decide)) ⟨?_, h _ pins _ σ H1 Q ?_ (I1.tok _) q1⟩
    · show (out ++ Str.ofString (toString i)).length ≤ sizeLine
      omega
    · show (out ++ Str.ofString (toString i)).length + _ ≤ sizeLine
      omega
  | str z =>
    obtain ⟨tk, rfl⟩ := r1
    have f1 : z.length ≤ 1900 := f1
    refine formatField_str (fun t' tk => ⟨?_, h _ pins _ σ H1 Q ?_ (I1.tok _) q1⟩) ?_
    · rw [strLen_append]; omega
    · rw [strLen_append]; omega
    · omega
  | _ => exact f1.elim
def tFAny (t : TA) : TE := fun σ H Q => t σ H fun _ H' => ∀ z, Q (.str z) H'
theorem pe_fany (h : PJA X (a :: b :: es) t) (hn : (a :: b :: es).length ≤ 20 := by decide) : PE X (.JoinedStr (a :: b :: es) pos) (tFAny t) := by
  intro pins s σ H Q I q
  refine JoinedStr_many (h Str.empty pins s σ H Q ?_ I q)
  have e : Str.empty.length = 0 := rfl
  have : sizeLine = 16777216 := rfl
  omega
end
/-! ### isinstance of a caught exception -/
theorem call_isinstX {X : Cx} : CallR X (.builtin "isinstance") (fun xs H Q => ∃ y a C c b, xs = [.ref a, y] ∧ clV y = some c ∧ H a = some (excO a C) ∧ XCls X.K C ∧ PySem.W.kitOne X.K (.ref C) c = some b ∧ Q (.bl b) H) := by
  intro pins s σ H xs us Q I r h
  obtain ⟨y, a, C, c, b, rfl, hc, ha, xc, e, q⟩ := h
  obtain ⟨u, u', rfl, ru, ru'⟩ := r.two
  obtain rfl := clV_rel hc ru'
  obtain rfl : u = Value.ref a := ru
  obtain ⟨⟨vs, z⟩, _⟩ := I.hok a _ ha
  exact PySem.W.kia_one (kitx_exc xc) I.kIn ⟨_, ⟨z, rfl, rfl, trivial⟩⟩ e (fun z => nomatch z) fun tk => ⟨.bl b, H, I.tok tk, rfl, q⟩
/-! ### a def that may be called within an except suite -/
structure RoomH (k : Nat) (A : Around) : Prop where
  dp : A.depth + 3 * k + 5 < recursionLimit
  un : A.units + 16 * k + 200 < cLine
theorem Room.h {k : Nat} {A : Around} (r : Room k A) : RoomH k A := ⟨r.dp, r.un⟩
theorem RoomH.marked {k : Nat} {A : Around} (r : RoomH k A) (v : Option Value) : RoomH k (A.mark v) := ⟨r.dp, r.un⟩
structure FnH (P : Program) (w : World) (K : PySem.W.Frag) (mg : Str → Option Value) (base : Heap) (k : Nat) (f : Addr) (fd : FuncData) (ps : List Str) (sp : Sp) : Prop where
  len : ∀ vs H Q E, sp vs H Q E → vs.length = ps.length
  run : ∀ (A : Around) (outer : List Env) (s : Shared) (H : Hp) (args : Args) (us : List Value) (vs : List V) (Q : VK) (E : XK), RoomH k A → Env0 P w K mg base A outer s H → BindsTo s fd args (ps.zip us) → Vals vs us → sp vs H Q E →
    codeAny (model P w) A (.call (.ref f) args) (CR CX0 outer P w H s Q E) s
/-- its body's context -/
abbrev cxH (P : Program) (w : World) (K : PySem.W.Frag) (mg : Str → Option Value) (base : Heap) (N : List Str) (qual : Str) (scope : Scope) (f : Addr) (cd : Value) (A : Around) (outer : List Env) (s : Shared) (H : Hp) : Cx :=
  { cxOf CX0 P w K mg base N qual scope f cd A outer s H E0 with calm := false, xe := fun _ _ => False }
theorem fnH_of {P : Program} {w : World} {K : PySem.W.Frag} {mg : Str → Option Value} {base : Heap} {k : Nat} {f : Addr} {x qual : Str} {st : Stmt} {fd : FuncData} {N ps : List Str} {sp : Sp} (F : Fun K x qual st f fd) (S : FnScope N ps (defScope st))
    (len : ∀ vs H Q E, sp vs H Q E → vs.length = ps.length)
    (hbody : ∀ (cdv : Value) (A : Around) (outer : List Env) (s : Shared) (H : Hp) (vs : List V) (Q : VK) (E : XK), RoomH k (A.deeper (envOfC qual (defScope st) s.heap.objs.size f cdv)) → sp vs H Q E →
      ∃ t, PSs (cxH P w K mg base N qual (defScope st) f cdv A outer s H) (defBody st) t ∧ t { nx := fun _ H' => Q .non H', rt := Q } (start N vs) H) : FnH P w K mg base (k + 1) f fd ps sp := by
  obtain ⟨oc, od, kV, doc, pm, an, cdv, ct, osl, rfl, lk, hcd⟩ := F.ex
  refine ⟨len, fun A outer s H args us vs Q E hr e0 hb r hsp => ?_⟩
  have hl := len _ _ _ _ hsp
  have KX : K.In s.heap := e0.mod.kin.keeps fun b o e => (e0.bs b o e).1
  have lim : s.heap.NoLimit := e0.mod.nolimit.keeps fun b o e => (e0.bs b o e).1
  have hkind : ∀ y ∈ ps.zip us, (defScope st).names.lookup y.1 = some .local ∨ ((defScope st).names.lookup y.1 = some .cell ∧ ((cellsFrom (s.heap.objs.size + 1) (defScope st).names []).lookup y.1).isSome = true) := fun ⟨n, v⟩ hy => by
    rcases S.par n (List.of_mem_zip hy).1 with q | q
    · exact .inl q
    · exact .inr ⟨q, PySem.W.cellsFrom_some _ _ _ (.inl q)⟩
  refine codeAny_call_function (by have := hr.dp; omega) (KX _ _ lk) rfl S.co S.gen rfl (PySem.W.codeRec_of KX hcd) (hb _ _ _ _ ?_)
  refine wpAny_newFunctionEnv_cells S.kind hkind fun env he s1 x => ?_
  subst he
  refine ⟨lim.keeps x.toInCall.keep, codeAny_func ?_⟩
  obtain ⟨t, ht, hq⟩ := hbody cdv A outer s H vs Q E ⟨by have := hr.dp; show A.depth + 1 + 3 * k + 5 < _; omega, by have := hr.un; show A.units + 3 + 16 * k + 200 < _; omega⟩ hsp
  have e1 : Env0 P w K mg base { A with handled := none } outer s H := ⟨e0.frames, e0.mod, e0.bs, e0.bsz, e0.funs, e0.frf, e0.hok, e0.bare⟩
  have I0 : Inv (cxOf CX0 P w K mg base N qual (defScope st) f cdv { A with handled := none } outer s H E0) [] (start N vs) H s1 := inv_start S rfl e1 hl r x
  have I : Inv (cxH P w K mg base N qual (defScope st) f cdv A outer s H) [] (start N vs) H s1 :=
    ⟨⟨I0.ok.mod, I0.ok.kind, I0.ok.glob, I0.ok.blt, I0.ok.above, I0.ok.inj, I0.ok.has, I0.ok.cab, fun z => Bool.noConfusion z, Around.frames_deeper e0.frames, I0.ok.stk, I0.ok.exf, I0.ok.bs, I0.ok.bsz, I0.ok.noex, I0.ok.exfs, I0.ok.funs, I0.ok.frf⟩, I0.os, I0.bare, I0.base, I0.loc, I0.cell, I0.free, I0.freeC, I0.pin, I0.hok, I0.len⟩
  refine wpAny_mono (ht [] s1 (start N vs) H _ I hq) (fun fl s' hs => ?_) fun e s' hs => hs.elim
  have fin : ∀ {σ' : St} {H' : Hp} {v : V} {u : Value}, Inv (cxH P w K mg base N qual (defScope st) f cdv A outer s H) [] σ' H' s' → RelV v u → Q v H' → CE outer P w H s Q u s' :=
    fun {σ' H' v u} J rv q => ⟨v, H', J.os, J.bare, J.base, J.hok, rv, q⟩
  cases fl with
  | ret u => obtain ⟨v, σ', H', J, rv, q⟩ := hs; exact fin J rv q
  | next => obtain ⟨σ', H', J, q⟩ := hs; exact fin (v := V.non) (u := Value.none) J rfl q
  | brk => obtain ⟨_, _, _, q⟩ := hs; exact False.elim q
  | cont => obtain ⟨_, _, _, q⟩ := hs; exact False.elim q
def OwnH (P : Program) (w : World) (K : PySem.W.Frag) (mg : Str → Option Value) (base : Heap) (x : Str) (k : Nat) (ps : List Str) (sp : Sp) : Prop :=
  ∃ f fd, FnH P w K mg base k f fd ps sp ∧ mg x = some (.ref f) ∧ PySem.W.keepIn K (.ref f) = true ∧ Binds K fd ps []
theorem ownH_of {P : Program} {w : World} {K : PySem.W.Frag} {mg : Str → Option Value} {base : Heap} {x : Str} {k : Nat} {ps N : List Str} {sp : Sp} {st : Stmt} (D : DefAt K mg x st ps) (S : FnScope N ps (defScope st)) (len : ∀ vs H Q E, sp vs H Q E → vs.length = ps.length)
    (hbody : ∀ (f : Addr) (cdv : Value) (A : Around) (outer : List Env) (s : Shared) (H : Hp) (vs : List V) (Q : VK) (E : XK), RoomH k (A.deeper (envOfC x (defScope st) s.heap.objs.size f cdv)) → sp vs H Q E →
      ∃ t, PSs (cxH P w K mg base N x (defScope st) f cdv A outer s H) (defBody st) t ∧ t { nx := fun _ H' => Q .non H', rt := Q } (start N vs) H) : OwnH P w K mg base x (k + 1) ps sp := by
  obtain ⟨f, fd, F, m, b⟩ := D
  exact ⟨f, fd, fnH_of F S len (hbody f), m, F.kp, b⟩
theorem pe_ownH {X : Cx} {x : Str} {k : Nat} {ps : List Str} {sp : Sp} {e : Expr} {es : List Expr} {t : TA} {p pos : Pos} (F : OwnH X.prog X.w X.K X.mg X.base x k ps sp) (hr : RoomH k X.A) (hg : Gl X x) (ha : PA X (e :: es) t) (hdb : (x == ("__debug__" : Str)) = false := by decide)
    (he : starEach (e :: es) X.env = (false, eval e X.env) :: starEach es X.env := by rfl) (hpl : (backTo pos (starEach es X.env)).any (·.1) = false := by rfl) :
    PE X (.Call (.Name x p) (e :: es) [] pos) (tCall sp [] E0 t) := by
  obtain ⟨f, fd, F, hm, hk, hb⟩ := F
  intro pins s σ H Q I h
  refine wpAny_Call_Name_kw (ld_glob I hg hm ?_ hdb)
  refine PySem.W.callWith_K (h₀ := X.base) I.ok.mod.kin hk (thn (ha pos pins s σ H _ I h) fun us s1 ⟨vs, H1, I1, r, q⟩ => ⟨I1.kIn, ?_⟩) he hpl
  have q' : sp vs H1 Q E0 := by
    have z : sp (vs ++ []) H1 Q E0 := q
    rw [List.append_nil] at z
    exact z
  have hl : us.length = ps.length := by rw [← r.length]; exact F.len _ _ _ _ q'
  refine wpAny_call (codeAny_mono (F.run X.A X.stack s1 H1 ⟨us, []⟩ us vs Q E0 hr I1.env0 (by have := hb s1 us I1.kIn (by rw [List.append_nil]; exact hl); rwa [List.append_nil] at this) r q') fun r s' hq => ?_)
  cases r with
  | error e => exact False.elim hq
  | ok fl =>
    cases fl with
    | ret u => exact I1.after hq
    | next => exact False.elim hq
    | brk => exact False.elim hq
    | cont => exact False.elim hq
end L2
namespace L2
open PySem PySem.Spec PyProof.Rows
/-- nothing that it raises leaves it -/
theorem OwnX.own {P : Program} {w : World} {K : PySem.W.Frag} {mg : Str → Option Value} {base : Heap} {x : Str} {k : Nat} {ps : List Str} {sp : Sp} (F : OwnX P w K mg base x k ps sp) (no : ∀ vs H Q E, sp vs H Q E → sp vs H Q E0) : Own P w K mg base x k ps sp := by
  obtain ⟨f, fd, F, r⟩ := F
  refine ⟨f, fd, ⟨F.len, fun A outer s H args us vs Q E hr he hb hv hs => codeAny_mono (F.run A outer s H args us vs Q E0 hr he hb hv (no _ _ _ _ hs)) fun r s' z => ?_⟩, r⟩
  cases r with
  | error e => exact (cxe_no z).elim
  | ok fl => cases fl <;> exact z
theorem B_ValueError : bootBuiltins "ValueError" = some (.type "ValueError") := by decide +kernel
def B45 : Int := 1000000000000000000000000000000000000000000000
/-- small enough to be written -/
def sm (i : Int) : Prop := -1000000000000000000000000000000000000000000000 ≤ i ∧ i ≤ 1000000000000000000000000000000000000000000000
theorem sm.fmt {i : Int} (h : sm i) : FmtA (.int i) := by
  show i.natAbs.log2 < 1900
  obtain ⟨h1, h2⟩ := h
  by_cases z : i.natAbs = 0
  · rw [z]; decide
  · refine (Nat.log2_lt z).mpr ?_
    exact Nat.lt_of_lt_of_le (Nat.lt_of_le_of_lt (by omega : i.natAbs ≤ 1000000000000000000000000000000000000000000000) (by decide : 1000000000000000000000000000000000000000000000 < 2 ^ 200)) (Nat.pow_le_pow_right (by decide) (by decide))
theorem sm_small {i : Int} (h1 : -100000000 ≤ i) (h2 : i ≤ 100000000) : sm i := ⟨by omega, by omega⟩
end L2

end

section
set_option linter.all false
namespace L2
open PySem PySem.Spec PyProof.Rows
/-- a text by its signs -/
abbrev tx (l : List Nat) : Str := ⟨l.toArray⟩
theorem tx_app (a b : List Nat) : tx a ++ tx b = tx (a ++ b) := by
  show Str.append (tx a) (tx b) = _
  unfold Str.append tx
  simp
theorem tx_len (a : List Nat) : (tx a).length = a.length := by
  show a.toArray.size = _
  simp
theorem tx_inj {a b : List Nat} (h : tx a = tx b) : a = b := by
  have := congrArg (fun s => s.cps.toList) h
  simpa using this
/-! ### for c in a text of plain signs -/
def Its (z : List Nat) : It := ⟨fun i _ => i < z.length, fun i H x H' => H' = H ∧ ∃ c, z[i]? = some c ∧ x = .str (tx [c]), fun i _ => z.length ≤ i⟩
theorem turn_text {P : Program} {w : World} {K : PySem.W.Frag} {tg : Expr} (it : Addr) (z : List Nat) (t : Tok) : Turn P w K tg (Its z) [it] it (fun i h => h.IsStrIter it "str_ascii_iterator" (tx z) t i) where
  mem := by simp
  obj := fun i h st b hb => by
    have e : b = it := by simpa using hb
    subst e
    obtain ⟨o, e, c, d⟩ := st
    exact ⟨o, e, fun v q => by rw [d] at q; cases q⟩
  keep := fun i h h' st k => by
    obtain ⟨o, e, c, d⟩ := st
    exact ⟨o, k it (by simp) o e, c, d⟩
  item := by
    intro X hP hw hK hc i pins s σ H E I hf st hg
    subst hP hw hK
    obtain ⟨f0, f1, f2, f3, f4, f5⟩ := hf it (by simp)
    have hz : z[i]? = some z[i] := List.getElem?_eq_getElem hg
    refine wpAny_pyNext_ascii_item st (c := z[i]) (by simpa using hz) fun h' st' sb => ?_
    have I1 : Inv X pins σ H { s with heap := h', toks := s.toks + 1 } := I.turned (fun b o hb e => (sb.2 b hb).trans e) f0 f1 f3 f4 f5
    obtain ⟨o, e, c, d⟩ := id st'
    exact ⟨_, rfl, go_of (s := { s with heap := h', toks := s.toks + 1 }) e c d (by decide) ⟨.str (tx [z[i]]), H, I1, ⟨_, rfl⟩, ⟨rfl, _, hz, rfl⟩, st', fun b hb => (hf b hb).1⟩⟩
  done := by
    intro X hP hw hK hc i pins s σ H E I hf st hg
    subst hP hw hK
    obtain ⟨f0, f1, f2, f3, f4, f5⟩ := hf it (by simp)
    have hg' : z.length ≤ i := hg
    exact wpAny_pyNext_ascii_end (I.ok.hd hc) st (by simp; omega) fun h' eb => ⟨rfl, I.turned (t' := s.toks) (fun b o hb e => eb b o hb e) f0 f1 f3 f4 f5⟩
  self := fun _ _ _ _ _ st h => wpAny_pyIter_striter_ascii st h
def iTxt (tl : TE) : TI := fun σ H R => tl σ H fun x H1 => ∃ z, x = .str (tx z) ∧ (∀ c ∈ z, c < 128) ∧ R (Its z) H1
theorem pi_text {X : Cx} {tg l : Expr} {tl : TE} (hl : PE X l tl) : PI X tg l (iTxt tl) := by
  intro pins s σ H R I h
  refine thn (hl pins s σ H _ I h) fun v s1 ⟨x, H1, I1, r1, q1⟩ => ?_
  obtain ⟨z, rfl, ha, q⟩ := q1
  obtain ⟨t, rfl⟩ := r1
  refine wpAny_pyIter_ascii (by simpa using ha) ?_
  refine ⟨s1.heap.objs.size, [s1.heap.objs.size], _, _, H1, rfl, I1.kept (t' := s1.toks) fun b o e => Heap.get?_push_of_some _ e, turn_text _ z t, ⟨_, Heap.get?_push_size _ rfl, rfl, rfl⟩, fun b hb => ?_, q⟩
  have e : b = s1.heap.objs.size := by simpa using hb
  subst e
  exact I1.fpOk (Nat.le_refl _) (I1.hok.fresh (Nat.le_refl _))
theorem for_text {z : List Nat} {g : TG} {tb : TS} {D : Ends} {σ : St} {H : Hp} (Pv : Nat → St → Hp → Prop) (h0 : Pv 0 σ H)
    (hs : ∀ i c σ H, z[i]? = some c → Pv i σ H → g (.str (tx [c])) σ H fun σ2 H2 => tb { D with nx := Pv (i + 1), ct := Pv (i + 1), bk := D.nx } σ2 H2) (hd : ∀ σ H, Pv z.length σ H → D.nx σ H) :
    ∃ W : Nat → Nat → St → Hp → Prop, (∃ m, W 0 m σ H) ∧ ∀ i m σ H, W i m σ H →
      ((Its z).stop i H ∧ D.nx σ H) ∨ ((Its z).go i H ∧ ∃ N : St → Hp → Prop, (∀ σ' H', N σ' H' → ∃ m', m' < m ∧ W (i + 1) m' σ' H') ∧ ∀ x H', (Its z).yld i H x H' → g x σ H' fun σ2 H2 => tb { D with nx := N, ct := N, bk := D.nx } σ2 H2) := by
  refine ⟨fun i m σ H => m = z.length - i ∧ i ≤ z.length ∧ Pv i σ H, ⟨z.length, by simp, Nat.zero_le _, h0⟩, ?_⟩
  rintro i m σ H ⟨rfl, hi, p⟩
  by_cases hlt : i < z.length
  · refine .inr ⟨hlt, Pv (i + 1), fun σ' H' p' => ⟨z.length - (i + 1), by omega, rfl, hlt, p'⟩, fun x H' y => ?_⟩
    obtain ⟨e, c, hc, y⟩ := y
    subst e y
    exact hs i c σ _ hc p
  · have e : i = z.length := by omega
    subst e
    exact .inl ⟨Nat.le_refl _, hd σ H p⟩
/-! ### int(text), text.startswith(text), ''.join(list of texts) -/
section
variable {X : Cx}
theorem call_int_text : CallR X (.type "int") (fun xs H Q => ∃ z n, xs = [.str z] ∧ z.length ≤ 640 ∧ PySem.intText? z = some n ∧ Q (.int n) H) := by
  intro pins s σ H xs us Q I r h
  obtain ⟨z, n, rfl, hz, hn, q⟩ := h
  obtain ⟨u, rfl, ru⟩ := r.one
  obtain ⟨t, rfl⟩ := ru
  exact PySem.W.KIN.call_text hn hz ⟨.int n, H, I.tok _, ⟨_, rfl⟩, q⟩
theorem mt_starts0 : MtM X "str.startswith" (fun x vs H Q => ∃ a, x = .str (tx a) ∧ vs = [.str (tx [48])] ∧ Q (.bl (a.head? == some 48)) H) := by
  intro pins s σ H x vs v us Q I rx rv h
  obtain ⟨a, rfl, rfl, q⟩ := h
  obtain ⟨t, rfl⟩ := rx
  obtain ⟨u, rfl, ru⟩ := rv.one
  obtain ⟨t2, rfl⟩ := ru
  refine call_gives PySem.F.slot_str_startswith (typeIs_str s _ _) PySem.F.entry_str_startswith (PySem.F.args_str_startswith_2 _ _) (gives_str_startswith (tx a) (tx [48]) t t2) ?_
  have e : (decide (0 + (tx [48]).length ≤ (tx a).length) && Builtin.Str.subAt (tx a) (tx [48]) 0) = (a.head? == some 48) := by
    cases a with
    | nil => rfl
    | cons c r =>
      have h1 : (tx (c :: r)).length = r.length + 1 := tx_len _
      have h2 : (tx [48]).length = 1 := rfl
      have h3 : Builtin.Str.subAt (tx (c :: r)) (tx [48]) 0 = (#[c] == #[48]) := by
        unfold Builtin.Str.subAt
        rw [h2]
        congr 1
        show (c :: r).toArray.extract 0 (0 + 1) = #[c]
        simp
      rw [h1, h2, h3]
      simp
  show EP X pins σ Q _ _
  rw [e]
  exact ⟨.bl (a.head? == some 48), H, I, rfl, q⟩
theorem Vals.strs : ∀ {zs : List (List Nat)} {us : List Value}, Vals (zs.map fun z => V.str (tx z)) us → ∃ l : List (Str × Tok), us = strValues l ∧ l.map (·.1) = zs.map tx
  | [], _, .nil => ⟨[], rfl, rfl⟩
  | z :: zs, _, .cons r t => by
    obtain ⟨k, rfl⟩ := r
    obtain ⟨l, rfl, e⟩ := Vals.strs t
    exact ⟨(tx z, k) :: l, rfl, by rw [List.map_cons, e]; rfl⟩
theorem glued_tx : ∀ (zs : List (List Nat)) (a : List Nat), (zs.map tx).foldl (fun acc p => acc ++ (tx []).cps ++ p.cps) a.toArray = (a ++ zs.flatten).toArray
  | [], a => by simp
  | z :: zs, a => by
    rw [List.map_cons, List.foldl_cons]
    have e : a.toArray ++ (tx []).cps ++ (tx z).cps = (a ++ z).toArray := by simp
    rw [e, glued_tx zs (a ++ z)]
    simp
theorem sum_tx : ∀ (zs : List (List Nat)) (k : Nat), (zs.map tx).foldl (fun n p => n + p.length + (tx []).length) k = k + zs.flatten.length
  | [], k => by simp
  | z :: zs, k => by
    rw [List.map_cons, List.foldl_cons, sum_tx zs, tx_len z, show (tx []).length = 0 from rfl, List.flatten_cons, List.length_append]
    omega
theorem one_of {α β : Type} {f : α → β} {l : List α} {x : β} (h : l.map f = [x]) : ∃ b, l = [b] ∧ f b = x := by
  cases l with
  | nil => cases h
  | cons b r =>
    cases r with
    | nil => exact ⟨b, rfl, by injection h⟩
    | cons c r => cases h
theorem two_of {α β : Type} {f : α → β} {l : List α} {x y : β} {zs : List β} (h : l.map f = x :: y :: zs) : ∃ b c r, l = b :: c :: r := by
  cases l with
  | nil => cases h
  | cons b r =>
    cases r with
    | nil => cases h
    | cons c r => exact ⟨b, c, r, rfl⟩
/-- ''.join of a list of texts -/
theorem mt_join : MtM X "str.join" (fun x vs H Q => ∃ (p : Addr) (zs : List (List Nat)), x = .str (tx []) ∧ vs = [.ref p] ∧ SqL X.K H p (zs.map fun z => V.str (tx z)) ∧ zs.flatten.length ≤ sizeLine ∧ Q (.str (tx zs.flatten)) H) := by
  intro pins s σ H x vs v us Q I rx rv h
  obtain ⟨p, zs, rfl, rfl, hq, hz, q⟩ := h
  obtain ⟨t, rfl⟩ := rx
  obtain ⟨u, rfl, ru⟩ := rv.one
  obtain rfl : u = Value.ref p := ru
  obtain ⟨its, rv', pl, _⟩ := I.list hq
  obtain ⟨l, rfl, el⟩ := rv'.strs
  refine call_meets PySem.F.slot_str_join (typeIs_str s _ _) PySem.F.entry_str_join (PySem.F.args_str_join_2 _ _) (meets_str_join_list (tx []) t p l ?_) ⟨pl.isList, ?_⟩
  · have e0 : (l.map (·.1)).toArray.foldl (· + ·.length + (tx []).length) 0 = zs.flatten.length := by
      rw [el, List.foldl_toArray, sum_tx, Nat.zero_add]
    rw [e0]
    exact decide_eq_false (Nat.not_lt.mpr hz)
  · cases zs with
    | nil =>
      have : l = [] := by simpa using el
      subst this
      have q' : Q (.str (tx [])) H := q
      exact ⟨Nat.zero_le _, V.str (tx []), H, I.tok _, ⟨_, rfl⟩, q'⟩
    | cons z zs =>
      cases zs with
      | nil =>
        obtain ⟨⟨a, k⟩, rfl, e2⟩ := one_of el
        obtain rfl : a = tx z := e2
        refine ⟨.str (tx z), H, I, ⟨k, rfl⟩, ?_⟩
        have e3 : [z].flatten = z := by simp
        rw [e3] at q
        exact q
      | cons z2 zs =>
        obtain ⟨b1, b2, l', rfl⟩ := two_of el
        have e3 : Builtin.Str.glued (tx []) ((b1 :: b2 :: l').map (·.1)) = tx (z :: z2 :: zs).flatten := by
          rw [el]
          unfold Builtin.Str.glued
          have := glued_tx (z2 :: zs) z
          show (⟨((z2 :: zs).map tx).foldl _ z.toArray⟩ : Str) = _
          rw [this]
          simp
        refine ⟨?_, ?_⟩
        · rw [e3, tx_len]
          exact hz
        · rw [e3]
          exact ⟨.str (tx (z :: z2 :: zs).flatten), H, I.tok _, ⟨_, rfl⟩, q⟩
end
end L2
namespace L2
open PySem PySem.Spec PyProof.Rows
/-! ### f-strings whose text is asked for -/
def PJ (X : Cx) (es : List Expr) (t : List Nat → TE) : Prop :=
  ∀ (out : List Nat) (pins : List (Addr × Obj)) (s : Shared) (σ : St) (H : Hp) (Q : VK), Inv X pins σ H s → t out σ H Q → wpAny (model X.prog X.w) X.A (joinParts (tx out) (evalEach es X.env)) (EP X pins σ Q) X.xe s
/-- how a value is written -/
def Fmt : V → List Nat → Prop
  | .int i, z => i.natAbs.log2 < 1920 ∧ Str.ofString (toString i) = tx z
  | .str x, z => x = tx z
  | _, _ => False
section
variable {X : Cx} {e a b : Expr} {es : List Expr} {te : TE} {t : List Nat → TE} {pos : Pos}
def tJn : List Nat → TE := fun out σ H Q => out.length ≤ sizeLine ∧ Q (.str (tx out)) H
def tJs (z : List Nat) (t : List Nat → TE) : List Nat → TE := fun out σ H Q => (out ++ z).length ≤ sizeLine ∧ t (out ++ z) σ H Q
def tJv (te : TE) (t : List Nat → TE) : List Nat → TE := fun out σ H Q => te σ H fun v H1 => ∃ z, Fmt v z ∧ (out ++ z).length ≤ sizeLine ∧ t (out ++ z) σ H1 Q
end
/-! ### the end of a list -/
theorem cut_end {xs : List V} {k : Nat} : cutV xs (some (-((k + 1 : Nat) : Int))) none = xs.drop (xs.length - (k + 1)) := by
  unfold cutV HT.sIx
  dsimp only
  rw [if_pos (by omega)]
  have e : (-((k + 1 : Nat) : Int) + (xs.length : Int)).toNat = xs.length - (k + 1) := by omega
  rw [e, List.take_of_length_le]
  rw [List.length_drop]
  omega
theorem drop_rev {α : Type} (vs : List α) (k : Nat) : vs.reverse.drop (vs.reverse.length - k) = (vs.take k).reverse := by
  rw [List.reverse_take, List.length_reverse]
theorem at_end {vs : List V} {k : Nat} {v : V} (h : vs[k]? = some v) : atI vs.reverse (-((k + 1 : Nat) : Int)) = some v := by
  have hk : k < vs.length := (List.getElem?_eq_some_iff.mp h).1
  unfold atI ixN
  rw [if_neg (by omega), if_pos (by rw [List.length_reverse]; omega)]
  show vs.reverse[(-((k + 1 : Nat) : Int) + (vs.reverse.length : Int)).toNat]? = some v
  rw [List.length_reverse, show (-((k + 1 : Nat) : Int) + (vs.length : Int)).toNat = vs.length - 1 - k by omega, List.getElem?_reverse (by omega), show vs.length - 1 - (vs.length - 1 - k) = k by omega]
  exact h
end L2

end

section
set_option linter.all false
namespace L2
open PySem PySem.Spec PyProof.Rows
/-! ### {e!r} in an f-string whose text isn't asked -/
section
variable {X : Cx} {e : Expr} {es : List Expr} {te : TE} {t : TA} {pos : Pos}
def tRep (te : TE) (t : TA) : TA := fun σ H Q => te σ H fun v H1 => (∃ x, v = .str x ∧ (reprText x).length ≤ 1900) ∧ t σ H1 Q
theorem pj_repr (he : PE X e te) (h : PJA X es t) : PJA X (.FormattedValue e 114 none pos :: es) (tRep te t) := by
  intro out pins s σ H Q hz I q
  rw [List.length_cons] at hz
  refine joinParts_cons (wpAny_FormattedValue_repr (thn (he pins s σ H _ I q) fun v s1 ⟨y, H1, I1, r1, ⟨x, ex, hx⟩, q1⟩ => ?_))
  subst ex
  obtain ⟨tk, rfl⟩ := r1
  have hs : sizeLine = 16777216 := rfl
  refine wpAny_pyReprObj_str ?_ (by omega)
  refine formatField_str (fun t' tk => ⟨?_, h _ pins _ σ H1 Q ?_ ((I1.tok _).tok _) q1⟩) (by omega)
  · rw [strLen_append]; omega
  · rw [strLen_append]; omega
end
/-! ### slices of a text -/
theorem clip_nat (a b len : Nat) : PySem.Builtin.Str.strSliceIndices (some (a : Int)) (some (b : Int)) 1 len = PySem.Builtin.Str.strSliceIndices (some ((min a len : Nat) : Int)) (some ((max (min a len) (min b len) : Nat) : Int)) 1 len := by
  have h1 : ¬ ((a : Int) < 0) := by omega
  have h2 : ¬ ((b : Int) < 0) := by omega
  have h3 : ¬ (((min a len : Nat) : Int) < 0) := by omega
  have h4 : ¬ (((max (min a len) (min b len) : Nat) : Int) < 0) := by omega
  have e1 : max (0 : Int) (min (a : Int) (len : Int)) = (min a len : Nat) := by omega
  have e2 : max (0 : Int) (min (b : Int) (len : Int)) = (min b len : Nat) := by omega
  have e3 : max (0 : Int) (min ((min a len : Nat) : Int) (len : Int)) = (min a len : Nat) := by omega
  have e4 : max (0 : Int) (min ((max (min a len) (min b len) : Nat) : Int) (len : Int)) = (max (min a len) (min b len) : Nat) := by omega
  simp only [PySem.Builtin.Str.strSliceIndices, h1, h2, h3, h4, if_false, e1, e2, e3, e4, show ((1 : Int) > 0) = True from by simp, if_true]
  by_cases c : min a len ≤ min b len
  · rw [show max (min a len) (min b len) = min b len by omega]
  · rw [show max (min a len) (min b len) = min a len by omega]
    unfold PySem.sliceRange
    have c1 : ¬ (((min a len : Nat) : Int) < ((min b len : Nat) : Int)) := by omega
    simp [c1]
theorem slice_tx (z : List Nat) (a b : Nat) : PySem.StrLaws.sliceText (tx z) (some (a : Int)) (some (b : Int)) = tx ((z.drop a).take (b - a)) := by
  have hl : (tx z).length = z.length := tx_len z
  have e : PySem.StrLaws.sliceText (tx z) (some (a : Int)) (some (b : Int)) = PySem.StrLaws.sliceText (tx z) (some ((min a z.length : Nat) : Int)) (some ((max (min a z.length) (min b z.length) : Nat) : Int)) := by
    unfold PySem.StrLaws.sliceText
    rw [clip_nat a b (tx z).length, hl]
  rw [e, PySem.StrLaws.sliceText_nat (tx z) (by omega) (by rw [hl]; omega)]
  show tx _ = tx _
  congr 1
  show (z.toArray.toList.drop _).take _ = _
  rw [List.toList_toArray]
  by_cases h : a ≤ z.length
  · rw [show min a z.length = a by omega]
    by_cases h' : b ≤ z.length
    · rw [show max a (min b z.length) - a = b - a by omega]
    · rw [List.take_of_length_le (by rw [List.length_drop]; omega), List.take_of_length_le (by rw [List.length_drop]; omega)]
  · rw [show min a z.length = z.length by omega, List.drop_length, List.drop_of_length_le (by omega)]
    simp
/-- t[a:b] of a text -/
def rSlS : V → Option Int → Option Int → Hp → VK → Prop := fun x lo hi H Q => ∃ (z : List Nat) (a b : Nat), x = .str (tx z) ∧ z.length ≤ sizeLine ∧ (lo = some (a : Int) ∨ lo = none ∧ a = 0) ∧ (hi = some (b : Int) ∨ hi = none ∧ b = z.length) ∧ Q (.str (tx ((z.drop a).take (b - a)))) H
theorem sl_str {X : Cx} : SlR X rSlS := by
  intro pins s σ H x v vl vu lo hi sl Q I rx hs pl pu h
  obtain ⟨z, a, b, rfl, hz, hlo, hhi, q⟩ := h
  obtain ⟨t, rfl⟩ := rx
  refine ⟨"str", _, F.slot_str_getitem.lookup, typeIs_str _ _ _, ?_⟩
  have hl : (tx z).length = z.length := tx_len z
  have e : PySem.StrLaws.sliceText (tx z) lo hi = tx ((z.drop a).take (b - a)) := by
    rw [← slice_tx z a b]
    rcases hlo with rfl | ⟨rfl, rfl⟩ <;> rcases hhi with rfl | ⟨rfl, rfl⟩
    · rfl
    · unfold PySem.StrLaws.sliceText
      rw [PySem.StrLaws.sliceIdx_none_hi, hl]
    · unfold PySem.StrLaws.sliceText
      rw [PySem.StrLaws.sliceIdx_none_lo]
      rfl
    · unfold PySem.StrLaws.sliceText
      rw [PySem.StrLaws.sliceIdx_none_lo, PySem.StrLaws.sliceIdx_none_hi, hl]
      rfl
  have fin : ∀ (l u : Option (Int × Tok)), l.map (·.1) = lo → u.map (·.1) = hi → s.heap.IsSlice sl l u none → wpAny (model X.prog X.w) X.A (getItem (.str (tx z) t) (.ref sl)) (EP X pins σ Q) X.xe s := by
    intro l u el eu hh
    subst el eu
    refine wpAny_getItem_str_slice (l := l) (u := u) (st := none) hh rfl (post_val_or_str ⟨?_, fun t' k => ?_⟩)
    · have : (PySem.StrLaws.sliceText (tx z) (l.map (·.1)) (u.map (·.1))).length ≤ sizeLine := by
        rw [e, tx_len, List.length_take, List.length_drop]
        omega
      exact this
    · have : EP X pins σ Q (.str (PySem.StrLaws.sliceText (tx z) (l.map (·.1)) (u.map (·.1))) t') { s with toks := k } := by
        rw [e]
        exact ⟨.str (tx ((z.drop a).take (b - a))), H, I.tok _, ⟨_, rfl⟩, q⟩
      exact this
  cases pl with
  | none =>
    cases pu with
    | none => exact fin none none rfl rfl hs
    | int j tj => exact fin none (some (j, tj)) rfl rfl hs
  | int i ti =>
    cases pu with
    | none => exact fin (some (i, ti)) none rfl rfl hs
    | int j tj => exact fin (some (i, ti)) (some (j, tj)) rfl rfl hs
end L2

end

section
namespace Egg
/-! the ways to choose, the reach -/
def ch : Nat → Nat → Nat
  | _, 0 => 1
  | 0, _ + 1 => 0
  | n + 1, k + 1 => ch n k + ch n (k + 1)
/-- t things, n drops -/
def rr : Nat → Nat → Nat
  | 0, _ => 0
  | t + 1, n => rr t n + ch n (t + 1)
end Egg

end

section
namespace Egg
/-! the fewest drops, the first drops -/
def fewGo (t f : Nat) : Nat → Nat → Nat
  | 0, d => d
  | n + 1, d => if rr t d < f then fewGo t f n (d + 1) else d
/-- f floors, t things -/
def few (f t : Nat) : Nat := fewGo t f f 0
/-- a house that can be done -/
def Can (f t : Nat) : Prop := f = 0 ∨ 0 < t
/-- the least and the greatest of the first drops -/
def lo (f t : Nat) : Nat := f - rr t (few f t - 1)
def hi (f t : Nat) : Nat := rr (t - 1) (few f t - 1) + 1
end Egg

end

section
namespace Egg
/-! the table of all first floors -/
def big : Nat := 1000000
def val (t f : Nat) : Nat := if t = 0 then (if f = 0 then 0 else big) else few f t
/-- what a first drop from floor d leaves at worst -/
def worst (t f d : Nat) : Nat := max (val (t - 1) (d - 1)) (val t (f - d))
end Egg

end

section
set_option linter.unusedVariables false
namespace Egg
/-! plans -/
inductive Tr where
  | told (f : Int)
  | drop (f : Int) (b w : Tr)
/-- the number of drops of a right plan -/
def lk : Tr → Int → Int → Nat → Option Nat
  | .told f, low, high, _ => if f = low ∧ low = high then some 0 else none
  | .drop f b w, low, high, t => if 0 < t ∧ low < f ∧ f ≤ high then
      (match lk b low (f - 1) (t - 1), lk w f high t with
        | some x, some y => some (1 + max x y)
        | _, _ => none) else none
theorem lk_drop {f low high : Int} {b w : Tr} {t d : Nat} (h : lk (.drop f b w) low high t = some d) :
    0 < t ∧ low < f ∧ f ≤ high ∧ ∃ x y, lk b low (f - 1) (t - 1) = some x ∧ lk w f high t = some y ∧ d = 1 + max x y := by
  unfold lk at h
  by_cases c : 0 < t ∧ low < f ∧ f ≤ high
  · rw [if_pos c] at h
    cases e1 : lk b low (f - 1) (t - 1) with
    | none => rw [e1] at h; cases h
    | some x =>
      cases e2 : lk w f high t with
      | none => rw [e1, e2] at h; cases h
      | some y =>
        rw [e1, e2] at h
        cases h
        exact ⟨c.1, c.2.1, c.2.2, x, y, rfl, rfl, rfl⟩
  · rw [if_neg c] at h
    cases h
theorem lk_mk {f low high : Int} {b w : Tr} {t x y : Nat} (h0 : 0 < t) (h1 : low < f) (h2 : f ≤ high) (e1 : lk b low (f - 1) (t - 1) = some x) (e2 : lk w f high t = some y) :
    lk (.drop f b w) low high t = some (1 + max x y) := by
  unfold lk
  rw [if_pos ⟨h0, h1, h2⟩, e1, e2]
/-- the rule's plan -/
def rule : Nat → Int → Nat → Nat → Tr
  | 0, low, _, _ => .told low
  | n + 1, low, f, t => if f = 0 then .told low else .drop (low + lo f t) (rule n low (lo f t - 1) (t - 1)) (rule n (low + lo f t) (f - lo f t) t)
end Egg

end

section
set_option linter.unusedVariables false
namespace Egg
/-- the rule's plan of a stretch -/
def ruleOf (low : Int) (f t : Nat) : Tr := rule f low f t
end Egg

end

section
set_option linter.unusedVariables false
namespace Egg
/-! walks -/
def wk : Tr → Int → List (Int × Bool)
  | .told _, _ => []
  | .drop f b w, x => (f, decide (x < f)) :: (if x < f then wk b x else wk w x)
def tsize : Tr → Nat
  | .told _ => 0
  | .drop _ b w => 1 + tsize b + tsize w
theorem lk_told {f low high : Int} {t d : Nat} (h : lk (.told f) low high t = some d) : f = low ∧ low = high ∧ d = 0 := by
  unfold lk at h
  by_cases c : f = low ∧ low = high
  · rw [if_pos c] at h
    cases h
    exact ⟨c.1, c.2, rfl⟩
  · rw [if_neg c] at h
    cases h
theorem lk_le : ∀ (p : Tr) (low high : Int) (t d : Nat), lk p low high t = some d → low ≤ high ∧ (d : Int) ≤ high - low
  | .told f, low, high, t, d, h => by
    obtain ⟨h1, h2, h3⟩ := lk_told h
    omega
  | .drop f b w, low, high, t, d, h => by
    obtain ⟨h0, h1, h2, x, y, e1, e2, e⟩ := lk_drop h
    have a := lk_le b _ _ _ _ e1
    have c := lk_le w _ _ _ _ e2
    omega
end Egg

end

section
namespace Egg
/-- the least of g 1 .. g n -/
def minTo (g : Nat → Nat) : Nat → Nat
  | 0 => 0
  | 1 => g 1
  | n + 2 => min (minTo g (n + 1)) (g (n + 2))
/-- the least sum, by all first floors -/
def lsG : Nat → Nat → Nat → Nat
  | 0, _, _ => 0
  | n + 1, t, f => if f = 0 then 0 else if t = 0 then big else minTo (fun d => f + 1 + lsG n (t - 1) (d - 1) + lsG n t (f - d)) f
def ls (t f : Nat) : Nat := lsG f t f
/-- the sum where the first drop is from d -/
def by1 (t f d : Nat) : Nat := f + 1 + ls (t - 1) (d - 1) + ls t (f - d)
end Egg

end

section
set_option linter.unusedVariables false
namespace Egg
/-- the sum of a right plan -/
def sumT : Tr → Int → Int → Int
  | .told _, _, _ => 0
  | .drop f b w, low, high => high - low + 1 + sumT b low (f - 1) + sumT w f high
/-- the lengths of the walks of n floors from low on -/
def tot (p : Tr) (low : Int) : Nat → Int
  | 0 => 0
  | n + 1 => tot p low n + ((wk p (low + n)).length : Int)
/-- the least first floor by which the least sum can be had -/
def sfGo (t f : Nat) : Nat → Nat → Nat
  | 0, d => d
  | n + 1, d => if by1 t f d = ls t f then d else sfGo t f n (d + 1)
def sf (t f : Nat) : Nat := sfGo t f (f - 1) 1
def srule : Nat → Int → Nat → Nat → Tr
  | 0, low, _, _ => .told low
  | n + 1, low, f, t => if f = 0 then .told low else if t = 0 then .told low else .drop (low + sf t f) (srule n low (sf t f - 1) (t - 1)) (srule n (low + sf t f) (f - sf t f) t)
def sruleOf (low : Int) (f t : Nat) : Tr := srule f low f t
end Egg

end

section
set_option linter.unusedVariables false
namespace Egg
def ht : Tr → Nat
  | .told _ => 0
  | .drop _ b w => 1 + max (ht b) (ht w)
/-- its floors are from lo to hi -/
def flIn (lo hi : Int) : Tr → Prop
  | .told f => lo ≤ f ∧ f ≤ hi
  | .drop f b w => (lo ≤ f ∧ f ≤ hi) ∧ flIn lo hi b ∧ flIn lo hi w
theorem flIn_mono {lo hi lo' hi' : Int} (h1 : lo' ≤ lo) (h2 : hi ≤ hi') : ∀ p : Tr, flIn lo hi p → flIn lo' hi' p
  | .told f, h => by
    obtain ⟨a, b⟩ := (show lo ≤ f ∧ f ≤ hi from h)
    exact (show lo' ≤ f ∧ f ≤ hi' from ⟨by omega, by omega⟩)
  | .drop f b w, h => by
    obtain ⟨⟨a, c⟩, hb, hw⟩ := (show (lo ≤ f ∧ f ≤ hi) ∧ flIn lo hi b ∧ flIn lo hi w from h)
    exact ⟨⟨by omega, by omega⟩, flIn_mono h1 h2 b hb, flIn_mono h1 h2 w hw⟩
theorem lk_ht : ∀ (p : Tr) (low high : Int) (t d : Nat), lk p low high t = some d → ht p = d
  | .told f, low, high, t, d, h => (lk_told h).2.2.symm
  | .drop f b w, low, high, t, d, h => by
    obtain ⟨h0, h1, h2, x, y, e1, e2, e⟩ := lk_drop h
    show 1 + max (ht b) (ht w) = d
    rw [lk_ht b _ _ _ _ e1, lk_ht w _ _ _ _ e2, e]
theorem lk_flIn : ∀ (p : Tr) (low high : Int) (t d : Nat), lk p low high t = some d → flIn low high p
  | .told f, low, high, t, d, h => by
    obtain ⟨h1, h2, h3⟩ := lk_told h
    exact (show low ≤ f ∧ f ≤ high from ⟨by omega, by omega⟩)
  | .drop f b w, low, high, t, d, h => by
    obtain ⟨h0, h1, h2, x, y, e1, e2, e⟩ := lk_drop h
    exact ⟨⟨by omega, by omega⟩, flIn_mono (by omega) (by omega) b (lk_flIn b _ _ _ _ e1), flIn_mono (by omega) (by omega) w (lk_flIn w _ _ _ _ e2)⟩
end Egg

end

section
set_option linter.unusedVariables false
namespace Egg
/-! texts of plans -/
/-- a number to 99 by its figures -/
def dg (n : Nat) : List Nat := if n < 10 then [48 + n] else [48 + n / 10, 48 + n % 10]
def shT : Tr → List Nat
  | .told f => 61 :: dg f.toNat
  | .drop f b w => dg f.toNat ++ (40 :: (shT b ++ (44 :: (shT w ++ [41]))))
inductive Pc where
  | num (n : Nat)
  | sg (c : Nat)
  | tr (p : Tr)
def pcs : Tr → List Pc
  | .told f => [.sg 61, .num f.toNat]
  | .drop f b w => .num f.toNat :: .sg 40 :: (pcs b ++ (.sg 44 :: (pcs w ++ [.sg 41])))
def isFig (c : Nat) : Bool := decide (48 ≤ c) && decide (c ≤ 57)
def isSig (c : Nat) : Bool := c == 61 || c == 40 || c == 44 || c == 41
/-- what is read of the signs z, behind the pieces ps and the figures of n (none: no figure yet) -/
inductive Lex : List Nat → List Pc → List Nat → List Pc → Prop where
  | done {ps : List Pc} : Lex [] ps [] ps
  | last {ps : List Pc} {n : Nat} : n ≤ 60 → Lex [] ps (dg n) (ps ++ [.num n])
  | fig {c : Nat} {z : List Nat} {ps : List Pc} {fs : List Nat} {r : List Pc} : isFig c = true → Lex z ps (fs ++ [c]) r → Lex (c :: z) ps fs r
  | sgn {c : Nat} {z : List Nat} {ps : List Pc} {r : List Pc} : isSig c = true → Lex z (ps ++ [.sg c]) [] r → Lex (c :: z) ps [] r
  | sgnN {c n : Nat} {z : List Nat} {ps : List Pc} {r : List Pc} : isSig c = true → n ≤ 60 → Lex z (ps ++ [.num n] ++ [.sg c]) [] r → Lex (c :: z) ps (dg n) r
theorem lex_dg {n : Nat} (hn : n ≤ 60) {z : List Nat} {ps r : List Pc} (h : Lex z ps (dg n) r) : Lex (dg n ++ z) ps [] r := by
  unfold dg at *
  by_cases c : n < 10
  · rw [if_pos c] at *
    refine .fig ?_ h
    simp [isFig]
    omega
  · rw [if_neg c] at *
    refine .fig ?_ (.fig ?_ h)
    · simp [isFig]; omega
    · simp [isFig]; omega
/-- a plan's text is read to its pieces -/
theorem lex_sh : ∀ (p : Tr), flIn 0 60 p → ∀ (z : List Nat) (ps r : List Pc) (c : Nat), isSig c = true → Lex z (ps ++ pcs p ++ [.sg c]) [] r → Lex (shT p ++ (c :: z)) ps [] r
  | .told f, hf, z, ps, r, c, hc, h => by
    obtain ⟨f0, f1⟩ := (show 0 ≤ f ∧ f ≤ 60 from hf)
    show Lex (61 :: (dg f.toNat ++ (c :: z))) ps [] r
    refine .sgn rfl (lex_dg (by omega) (.sgnN hc (by omega) ?_))
    have e : ps ++ [.sg 61] ++ [.num f.toNat] ++ [.sg c] = ps ++ pcs (.told f) ++ [.sg c] := by simp [pcs]
    rw [e]
    exact h
  | .drop f b w, hf, z, ps, r, c, hc, h => by
    obtain ⟨⟨f0, f1⟩, hb, hw⟩ := (show (0 ≤ f ∧ f ≤ 60) ∧ flIn 0 60 b ∧ flIn 0 60 w from hf)
    have e : shT (.drop f b w) ++ (c :: z) = dg f.toNat ++ (40 :: (shT b ++ (44 :: (shT w ++ (41 :: (c :: z)))))) := by simp [shT]
    rw [e]
    refine lex_dg (by omega) (.sgnN rfl (by omega) ?_)
    refine lex_sh b hb _ _ _ 44 rfl ?_
    refine lex_sh w hw _ _ _ 41 rfl ?_
    refine .sgn hc ?_
    have e2 : ps ++ [.num f.toNat] ++ [.sg 40] ++ pcs b ++ [.sg 44] ++ pcs w ++ [.sg 41] ++ [.sg c] = ps ++ pcs (.drop f b w) ++ [.sg c] := by simp [pcs]
    rw [e2]
    exact h
theorem lex_all (p : Tr) (hp : flIn 0 60 p) : Lex (shT p) [] [] (pcs p) := by
  cases p with
  | told f =>
    obtain ⟨f0, f1⟩ := (show 0 ≤ f ∧ f ≤ 60 from hp)
    have := lex_dg (n := f.toNat) (by omega) (.last (ps := [.sg 61]) (n := f.toNat) (by omega))
    rw [List.append_nil] at this
    exact .sgn rfl this
  | drop f b w =>
    obtain ⟨⟨f0, f1⟩, hb, hw⟩ := (show (0 ≤ f ∧ f ≤ 60) ∧ flIn 0 60 b ∧ flIn 0 60 w from hp)
    show Lex (dg f.toNat ++ (40 :: (shT b ++ (44 :: (shT w ++ [41]))))) [] [] _
    refine lex_dg (by omega) (.sgnN rfl (by omega) ?_)
    refine lex_sh b hb _ _ _ 44 rfl ?_
    refine lex_sh w hw [] _ _ 41 rfl ?_
    have e : [] ++ [.num f.toNat] ++ [.sg 40] ++ pcs b ++ [.sg 44] ++ pcs w ++ [.sg 41] = pcs (.drop f b w) := by simp [pcs]
    rw [e]
    exact .done
/-- the pile, its top first -/
def redR : List Pc → List Pc
  | .num n :: .sg 61 :: r => .tr (.told n) :: r
  | .sg 41 :: .tr w :: .sg 44 :: .tr b :: .sg 40 :: .num f :: r => .tr (.drop f b w) :: r
  | s => s
def letter : Pc → Nat
  | .num _ => 110
  | .sg c => c
  | .tr _ => 116
/-- only the four signs -/
def sgOk : Pc → Prop
  | .sg c => isSig c = true
  | _ => True
theorem sig_ne {c : Nat} (h : isSig c = true) : c ≠ 110 ∧ c ≠ 116 := by
  simp [isSig] at h
  omega
theorem let_num {x : Pc} (h : sgOk x) (e : letter x = 110) : ∃ n, x = .num n := by
  cases x with
  | num n => exact ⟨n, rfl⟩
  | sg c => exact absurd e (sig_ne h).1
  | tr p => cases e
theorem let_tr {x : Pc} (h : sgOk x) (e : letter x = 116) : ∃ p, x = .tr p := by
  cases x with
  | num n => cases e
  | sg c => exact absurd e (sig_ne h).2
  | tr p => exact ⟨p, rfl⟩
theorem let_sg {x : Pc} {c : Nat} (e : letter x = c) (h1 : c ≠ 110) (h2 : c ≠ 116) : x = .sg c := by
  cases x with
  | num n => exact absurd e.symm h1
  | sg d => rw [show d = c from e]
  | tr p => exact absurd e.symm h2
def stp (s : List Pc) (x : Pc) : List Pc := redR (x :: s)
/-- the top isn't the sign = -/
def topOk : List Pc → Prop
  | .sg 61 :: _ => False
  | _ => True
theorem parse_all : ∀ (p : Tr), flIn 0 60 p → ∀ s : List Pc, topOk s → (pcs p).foldl stp s = .tr p :: s
  | .told f, hf, s, hs => by
    obtain ⟨f0, f1⟩ := (show 0 ≤ f ∧ f ≤ 60 from hf)
    show redR (.num f.toNat :: redR (.sg 61 :: s)) = _
    have e : redR (.sg 61 :: s) = .sg 61 :: s := rfl
    rw [e]
    show Pc.tr (.told ((f.toNat : Nat) : Int)) :: s = _
    rw [show ((f.toNat : Nat) : Int) = f by omega]
  | .drop f b w, hf, s, hs => by
    obtain ⟨⟨f0, f1⟩, hb, hw⟩ := (show (0 ≤ f ∧ f ≤ 60) ∧ flIn 0 60 b ∧ flIn 0 60 w from hf)
    have e1 : stp s (.num f.toNat) = .num f.toNat :: s := by
      unfold stp
      unfold redR
      split
      · rename_i h
        injection h with h1 h2
        rw [h2] at hs
        exact hs.elim
      · rename_i h
        cases h
      · rfl
    have e2 : stp (.num f.toNat :: s) (.sg 40) = .sg 40 :: .num f.toNat :: s := rfl
    show (Pc.num f.toNat :: .sg 40 :: (pcs b ++ (.sg 44 :: (pcs w ++ [.sg 41])))).foldl stp s = _
    rw [List.foldl_cons, e1, List.foldl_cons, e2, List.foldl_append, parse_all b hb (.sg 40 :: .num f.toNat :: s) trivial, List.foldl_cons]
    have e3 : stp (.tr b :: .sg 40 :: .num f.toNat :: s) (.sg 44) = .sg 44 :: .tr b :: .sg 40 :: .num f.toNat :: s := rfl
    rw [e3, List.foldl_append, parse_all w hw (.sg 44 :: .tr b :: .sg 40 :: .num f.toNat :: s) trivial]
    show Pc.tr (.drop ((f.toNat : Nat) : Int) b w) :: s = _
    rw [show ((f.toNat : Nat) : Int) = f by omega]
end Egg

end

section
set_option linter.unusedVariables false
namespace Egg
/-! texts that are refused: the two readers -/
theorem dg_ne (n : Nat) : dg n ≠ [] := by
  unfold dg
  split <;> intro h <;> cases h
theorem dg_fig {n : Nat} (h : n ≤ 60) : ∀ c ∈ dg n, isFig c = true := by
  intro c hc
  unfold dg at hc
  split at hc
  · rcases List.mem_singleton.mp hc with rfl
    simp [isFig]; omega
  · rcases List.mem_cons.mp hc with rfl | hc
    · simp [isFig]; omega
    · rcases List.mem_singleton.mp hc with rfl
      simp [isFig]; omega
theorem dg_inj {n m : Nat} (hn : n ≤ 60) (hm : m ≤ 60) (e : dg n = dg m) : n = m := by
  unfold dg at e
  split at e <;> split at e
  · injection e with e _; omega
  · injection e with _ e; cases e
  · injection e with _ e; cases e
  · injection e with e1 e2
    injection e2 with e2 _
    omega
theorem dg_one {c : Nat} (h1 : 48 ≤ c) (h2 : c ≤ 57) : [c] = dg (c - 48) := by
  unfold dg
  rw [if_pos (by omega), show 48 + (c - 48) = c by omega]
theorem dg_two {a b : Nat} (h1 : 49 ≤ a) (h2 : a ≤ 57) (h3 : 48 ≤ b) (h4 : b ≤ 57) : [a, b] = dg (10 * (a - 48) + (b - 48)) := by
  unfold dg
  rw [if_neg (by omega), show 48 + (10 * (a - 48) + (b - 48)) / 10 = a by omega, show 48 + (10 * (a - 48) + (b - 48)) % 10 = b by omega]
theorem dg_no0 {n b : Nat} (hn : n ≤ 60) : dg n ≠ [48, b] := by
  intro e
  unfold dg at e
  split at e
  · injection e with _ e; cases e
  · injection e with e _; omega
theorem dg_len2 (n : Nat) : (dg n).length ≤ 2 := by
  unfold dg
  split
  · exact Nat.le_succ 1
  · exact Nat.le_refl 2
/-- the figures ahead of a sign that is none are the number's own -/
def noFig : List Nat → Prop
  | c :: _ => isFig c = false
  | [] => True
theorem figs_split : ∀ (a b x y : List Nat), (∀ c ∈ a, isFig c = true) → (∀ c ∈ b, isFig c = true) → noFig x → noFig y → a ++ x = b ++ y → a = b ∧ x = y
  | [], [], x, y, _, _, _, _, e => ⟨rfl, e⟩
  | [], c :: b, x, y, _, hb, hx, _, e => by
    have e' : x = c :: (b ++ y) := e
    rw [e'] at hx
    have := hb c (List.mem_cons_self ..)
    rw [show isFig c = false from hx] at this
    cases this
  | c :: a, [], x, y, ha, _, _, hy, e => by
    have e' : c :: (a ++ x) = y := e
    rw [← e'] at hy
    have := ha c (List.mem_cons_self ..)
    rw [show isFig c = false from hy] at this
    cases this
  | c :: a, d :: b, x, y, ha, hb, hx, hy, e => by
    injection e with e1 e2
    obtain ⟨r1, r2⟩ := figs_split a b x y (fun k hk => ha k (List.mem_cons_of_mem _ hk)) (fun k hk => hb k (List.mem_cons_of_mem _ hk)) hx hy e2
    exact ⟨by rw [e1, r1], r2⟩
theorem dg_split {n m : Nat} {x y : List Nat} (hn : n ≤ 60) (hm : m ≤ 60) (hx : noFig x) (hy : noFig y) (e : dg n ++ x = dg m ++ y) : n = m ∧ x = y := by
  obtain ⟨r1, r2⟩ := figs_split _ _ _ _ (dg_fig hn) (dg_fig hm) hx hy e
  exact ⟨dg_inj hn hm r1, r2⟩
/-! the pieces -/
theorem fig_sig {c : Nat} (h : isFig c = true) : isSig c = false := by
  simp [isFig] at h
  simp [isSig]
  omega
theorem lex_fig {c : Nat} {z fs : List Nat} {ps r : List Pc} (h : isFig c = true) : Lex (c :: z) ps fs r ↔ Lex z ps (fs ++ [c]) r := by
  constructor
  · intro l
    cases l with
    | fig _ l => exact l
    | sgn s _ => rw [fig_sig h] at s; cases s
    | sgnN s _ _ => rw [fig_sig h] at s; cases s
  · exact .fig h
theorem sig_fig {c : Nat} (h : isSig c = true) : isFig c = false := by
  cases e : isFig c with
  | false => rfl
  | true => rw [fig_sig e] at h; cases h
theorem lex_sig0 {c : Nat} {z : List Nat} {ps r : List Pc} (h : isSig c = true) : Lex (c :: z) ps [] r ↔ Lex z (ps ++ [.sg c]) [] r := by
  constructor
  · intro l
    generalize hf : ([] : List Nat) = fs at l
    cases l with
    | fig f _ => rw [sig_fig h] at f; cases f
    | sgn _ l => exact l
    | @sgnN _ n _ _ _ _ _ _ => exact absurd hf.symm (dg_ne n)
  · exact .sgn h
theorem lex_sigN {c n : Nat} {z : List Nat} {ps r : List Pc} (h : isSig c = true) (hn : n ≤ 60) : Lex (c :: z) ps (dg n) r ↔ Lex z (ps ++ [.num n] ++ [.sg c]) [] r := by
  constructor
  · intro l
    generalize hf : dg n = fs at l
    cases l with
    | fig f _ => rw [sig_fig h] at f; cases f
    | sgn _ l => exact absurd hf (dg_ne n)
    | @sgnN _ m _ _ _ _ hm l =>
      rw [dg_inj hn hm hf]
      exact l
  · exact .sgnN h hn
theorem lex_sigX {c : Nat} {z fs : List Nat} {ps r : List Pc} (h : isSig c = true) (h0 : fs ≠ []) (hx : ∀ n, n ≤ 60 → fs ≠ dg n) : ¬ Lex (c :: z) ps fs r := by
  intro l
  cases l with
  | fig f _ => rw [sig_fig h] at f; cases f
  | sgn _ l => exact h0 rfl
  | sgnN _ hm l => exact hx _ hm rfl
theorem lex_odd {c : Nat} {z fs : List Nat} {ps r : List Pc} (h1 : isFig c = false) (h2 : isSig c = false) : ¬ Lex (c :: z) ps fs r := by
  intro l
  cases l with
  | fig f _ => rw [h1] at f; cases f
  | sgn s _ => rw [h2] at s; cases s
  | sgnN s _ _ => rw [h2] at s; cases s
theorem lex_end0' {z fs : List Nat} {ps r : List Pc} (l : Lex z ps fs r) (hz : z = []) (hf : fs = []) : r = ps := by
  cases l with
  | done => rfl
  | @last _ n _ => exact absurd hf (dg_ne n)
  | fig _ _ => cases hz
  | sgn _ _ => cases hz
  | sgnN _ _ _ => cases hz
theorem lex_end0 {ps r : List Pc} : Lex [] ps [] r ↔ r = ps := by
  constructor
  · exact fun l => lex_end0' l rfl rfl
  · rintro rfl
    exact .done
theorem lex_endN {n : Nat} {ps r : List Pc} (hn : n ≤ 60) : Lex [] ps (dg n) r ↔ r = ps ++ [.num n] := by
  constructor
  · intro l
    generalize hf : dg n = fs at l
    cases l with
    | done => exact absurd hf (dg_ne n)
    | last hm => rw [dg_inj hn hm hf]
  · rintro rfl
    exact .last hn
theorem lex_endX {fs : List Nat} {ps r : List Pc} (h0 : fs ≠ []) (hx : ∀ n, n ≤ 60 → fs ≠ dg n) : ¬ Lex [] ps fs r := by
  intro l
  cases l with
  | done => exact h0 rfl
  | last hm => exact hx _ hm rfl
/-! what the pieces write -/
def wr : Pc → List Nat
  | .num n => dg n
  | .sg c => [c]
  | .tr p => shT p
def lin : List Pc → List Nat
  | [] => []
  | x :: r => wr x ++ lin r
theorem lin_append : ∀ a b : List Pc, lin (a ++ b) = lin a ++ lin b
  | [], _ => rfl
  | x :: a, b => by
    show wr x ++ lin (a ++ b) = (wr x ++ lin a) ++ lin b
    rw [lin_append a b, List.append_assoc]
/-- good pieces -/
def pcG : Pc → Prop
  | .num n => n ≤ 60
  | .sg c => isSig c = true
  | .tr p => flIn 0 60 p
theorem lex_lin {z : List Nat} {ps : List Pc} {fs : List Nat} {r : List Pc} (l : Lex z ps fs r) : lin r = lin ps ++ (fs ++ z) ∧ ((∀ x ∈ ps, pcG x) → ∀ x ∈ r, pcG x) := by
  induction l with
  | done => exact ⟨by simp, fun h => h⟩
  | @last ps n hn =>
    refine ⟨by rw [lin_append]; simp [lin, wr], fun h x hx => ?_⟩
    rcases List.mem_append.mp hx with hx | hx
    · exact h x hx
    · rcases List.mem_singleton.mp hx with rfl
      exact hn
  | @fig c z ps fs r h _ ih =>
    refine ⟨by rw [ih.1]; simp, ih.2⟩
  | @sgn c z ps r h _ ih =>
    refine ⟨by rw [ih.1, lin_append]; simp [lin, wr], fun hp => ih.2 fun x hx => ?_⟩
    rcases List.mem_append.mp hx with hx | hx
    · exact hp x hx
    · rcases List.mem_singleton.mp hx with rfl
      exact h
  | @sgnN c n z ps r h hn _ ih =>
    refine ⟨by rw [ih.1, lin_append, lin_append]; simp [lin, wr], fun hp => ih.2 fun x hx => ?_⟩
    rcases List.mem_append.mp hx with hx | hx
    · rcases List.mem_append.mp hx with hx | hx
      · exact hp x hx
      · rcases List.mem_singleton.mp hx with rfl
        exact hn
    · rcases List.mem_singleton.mp hx with rfl
      exact h
theorem red_lin (s : List Pc) (g : ∀ x ∈ s, pcG x) : lin (redR s).reverse = lin s.reverse ∧ ∀ x ∈ redR s, pcG x := by
  unfold redR
  split
  · rename_i n r
    refine ⟨?_, fun x hx => ?_⟩
    · simp [lin_append, lin, wr, shT]
    · rcases List.mem_cons.mp hx with rfl | hx
      · have h1 : n ≤ 60 := g (.num n) (List.mem_cons_self ..)
        show 0 ≤ (n : Int) ∧ (n : Int) ≤ 60
        omega
      · exact g x (List.mem_cons_of_mem _ (List.mem_cons_of_mem _ hx))
  · rename_i w b f r
    refine ⟨?_, fun x hx => ?_⟩
    · simp [lin_append, lin, wr, shT]
    · rcases List.mem_cons.mp hx with rfl | hx
      · have h1 : f ≤ 60 := g (.num f) (by simp)
        have h2 : flIn 0 60 b := g (.tr b) (by simp)
        have h3 : flIn 0 60 w := g (.tr w) (by simp)
        show (0 ≤ (f : Int) ∧ (f : Int) ≤ 60) ∧ flIn 0 60 b ∧ flIn 0 60 w
        exact ⟨⟨by omega, by omega⟩, h2, h3⟩
      · exact g x (by simp [hx])
  · exact ⟨rfl, g⟩
theorem fold_lin : ∀ (ps s : List Pc), (∀ x ∈ s, pcG x) → (∀ x ∈ ps, pcG x) → lin (ps.foldl stp s).reverse = lin s.reverse ++ lin ps ∧ ∀ x ∈ ps.foldl stp s, pcG x
  | [], s, g, _ => ⟨by simp [lin], g⟩
  | x :: ps, s, g, gp => by
    have g1 : ∀ y ∈ x :: s, pcG y := fun y hy => by
      rcases List.mem_cons.mp hy with rfl | hy
      · exact gp y (List.mem_cons_self ..)
      · exact g y hy
    obtain ⟨r1, r2⟩ := red_lin (x :: s) g1
    obtain ⟨h1, h2⟩ := fold_lin ps (stp s x) r2 (fun y hy => gp y (List.mem_cons_of_mem _ hy))
    refine ⟨?_, h2⟩
    rw [List.foldl_cons, h1]
    show lin (redR (x :: s)).reverse ++ lin ps = _
    rw [r1]
    simp [lin_append, lin]
/-- the program's reader -/
theorem read_iff {z : List Nat} {ps : List Pc} (h : ∀ r, Lex z [] [] r ↔ r = ps) (p : Tr) : ps.foldl stp [] = [.tr p] ↔ (z = shT p ∧ flIn 0 60 p) := by
  constructor
  · intro e
    obtain ⟨l1, l2⟩ := lex_lin ((h ps).mpr rfl)
    obtain ⟨f1, f2⟩ := fold_lin ps [] (fun x hx => by cases hx) (l2 (fun x hx => by cases hx))
    rw [e] at f1 f2
    have e1 : lin [Pc.tr p] = z := by
      have : lin ([Pc.tr p] : List Pc).reverse = lin ([] : List Pc).reverse ++ lin ps := f1
      rw [l1] at this
      simpa [lin] using this
    refine ⟨?_, f2 (.tr p) (List.mem_singleton.mpr rfl)⟩
    rw [← e1]
    simp [lin, wr]
  · rintro ⟨rfl, hp⟩
    have := (h _).mp (lex_all p hp)
    rw [← this]
    exact parse_all p hp [] trivial
theorem read_no {z : List Nat} (h : ∀ r, ¬ Lex z [] [] r) (p : Tr) : ¬ (z = shT p ∧ flIn 0 60 p) := by
  rintro ⟨rfl, hp⟩
  exact h _ (lex_all p hp)
/-! the law's reader: a pile of numbers, with the first tree or without -/
def Fin' : List (Nat × Option Tr) → Tr → List Nat → Tr → Prop
  | [], t, rest, p => rest = [] ∧ p = t
  | (n, some b) :: pl, t, rest, p => ∃ r, rest = 41 :: r ∧ Fin' pl (.drop n b t) r p
  | (n, none) :: pl, t, rest, p => ∃ w r, rest = 44 :: (shT w ++ (41 :: r)) ∧ flIn 0 60 w ∧ Fin' pl (.drop n t w) r p
def Out' (pl : List (Nat × Option Tr)) (rest : List Nat) (p : Tr) : Prop := ∃ t r, rest = shT t ++ r ∧ flIn 0 60 t ∧ Fin' pl t r p
theorem fin_noFig {pl : List (Nat × Option Tr)} {t : Tr} {r : List Nat} {p : Tr} (h : Fin' pl t r p) : noFig r := by
  match pl, h with
  | [], h => rw [h.1]; trivial
  | (n, some b) :: pl, ⟨r', e, _⟩ => rw [e]; rfl
  | (n, none) :: pl, ⟨w, r', e, _⟩ => rw [e]; rfl
theorem out_nil {z : List Nat} {p : Tr} : Out' [] z p ↔ (z = shT p ∧ flIn 0 60 p) := by
  constructor
  · rintro ⟨t, r, rfl, ht, rfl, rfl⟩
    exact ⟨by simp, ht⟩
  · rintro ⟨rfl, hp⟩
    exact ⟨p, [], by simp, hp, rfl, rfl⟩
theorem fin_comma {n : Nat} {pl : List (Nat × Option Tr)} {t : Tr} {r : List Nat} {p : Tr} : Fin' ((n, none) :: pl) t (44 :: r) p ↔ Out' ((n, some t) :: pl) r p := by
  constructor
  · rintro ⟨w, r', e, hw, hf⟩
    injection e with _ e
    exact ⟨w, 41 :: r', e, hw, r', rfl, hf⟩
  · rintro ⟨w, r1, e, hw, r', rfl, hf⟩
    exact ⟨w, r', by rw [e], hw, hf⟩
theorem fin_comma_no {n : Nat} {pl : List (Nat × Option Tr)} {t : Tr} {r : List Nat} {p : Tr} (h : r.head? ≠ some 44) : ¬ Fin' ((n, none) :: pl) t r p := by
  rintro ⟨w, r', rfl, _⟩
  exact h rfl
theorem fin_close {n : Nat} {b : Tr} {pl : List (Nat × Option Tr)} {t : Tr} {r : List Nat} {p : Tr} : Fin' ((n, some b) :: pl) t (41 :: r) p ↔ Fin' pl (.drop n b t) r p := by
  constructor
  · rintro ⟨r', e, h⟩
    injection e with _ e
    rw [e]
    exact h
  · exact fun h => ⟨r, rfl, h⟩
theorem fin_close_no {n : Nat} {b : Tr} {pl : List (Nat × Option Tr)} {t : Tr} {r : List Nat} {p : Tr} (h : r.head? ≠ some 41) : ¬ Fin' ((n, some b) :: pl) t r p := by
  rintro ⟨r', rfl, _⟩
  exact h rfl
theorem sh_told {t : Tr} {z : List Nat} (h : flIn 0 60 t) (e : (shT t ++ z).head? = some 61) : ∃ n : Nat, n ≤ 60 ∧ t = .told n := by
  cases t with
  | told f =>
    obtain ⟨f0, f1⟩ := (show 0 ≤ f ∧ f ≤ 60 from h)
    exact ⟨f.toNat, by omega, by rw [show ((f.toNat : Nat) : Int) = f by omega]⟩
  | drop f b w =>
    obtain ⟨⟨f0, f1⟩, _, _⟩ := (show (0 ≤ f ∧ f ≤ 60) ∧ flIn 0 60 b ∧ flIn 0 60 w from h)
    exfalso
    have hd : ∃ c r, dg f.toNat = c :: r ∧ isFig c = true := by
      cases hh : dg f.toNat with
      | nil => exact absurd hh (dg_ne _)
      | cons c r => exact ⟨c, r, rfl, dg_fig (n := f.toNat) (by omega) c (by rw [hh]; exact List.mem_cons_self ..)⟩
    obtain ⟨c, r, e1, e2⟩ := hd
    simp only [shT, e1, List.cons_append, List.head?_cons] at e
    injection e with e
    rw [e] at e2
    cases e2
theorem sh_drop {t : Tr} {z : List Nat} (h : flIn 0 60 t) (e : (shT t ++ z).head? ≠ some 61) : ∃ (n : Nat) (b w : Tr), n ≤ 60 ∧ t = .drop n b w ∧ flIn 0 60 b ∧ flIn 0 60 w := by
  cases t with
  | told f => exact absurd rfl e
  | drop f b w =>
    obtain ⟨⟨f0, f1⟩, hb, hw⟩ := (show (0 ≤ f ∧ f ≤ 60) ∧ flIn 0 60 b ∧ flIn 0 60 w from h)
    exact ⟨f.toNat, b, w, by omega, by rw [show ((f.toNat : Nat) : Int) = f by omega], hb, hw⟩
theorem sh_ne (t : Tr) : shT t ≠ [] := by
  cases t with
  | told f => intro h; cases h
  | drop f b w =>
    intro h
    rw [shT] at h
    have := congrArg List.length h
    simp at this
theorem out_end {pl : List (Nat × Option Tr)} {p : Tr} : ¬ Out' pl [] p := by
  rintro ⟨t, r, e, _⟩
  have := List.append_eq_nil_iff.mp e.symm
  exact sh_ne t this.1
/-- a leaf is read -/
theorem out_leaf {n : Nat} {pl : List (Nat × Option Tr)} {r : List Nat} {p : Tr} (hn : n ≤ 60) (hr : noFig r) : Out' pl (61 :: (dg n ++ r)) p ↔ Fin' pl (.told n) r p := by
  constructor
  · rintro ⟨t, r', e, ht, hf⟩
    obtain ⟨m, hm, rfl⟩ := sh_told ht (z := r') (by rw [← e]; rfl)
    have e' : 61 :: (dg n ++ r) = 61 :: (dg m ++ r') := e
    injection e' with _ e'
    obtain ⟨rfl, rfl⟩ := dg_split hn hm hr (fin_noFig hf) e'
    exact hf
  · intro h
    refine ⟨.told n, r, rfl, ?_, h⟩
    show 0 ≤ (n : Int) ∧ (n : Int) ≤ 60
    omega
theorem out_leaf_no {fs r : List Nat} {pl : List (Nat × Option Tr)} {p : Tr} (hf : ∀ c ∈ fs, isFig c = true) (hx : ∀ n, n ≤ 60 → fs ≠ dg n) (hr : noFig r) : ¬ Out' pl (61 :: (fs ++ r)) p := by
  rintro ⟨t, r', e, ht, h⟩
  obtain ⟨m, hm, rfl⟩ := sh_told ht (z := r') (by rw [← e]; rfl)
  have e' : 61 :: (fs ++ r) = 61 :: (dg m ++ r') := e
  injection e' with _ e'
  exact hx m hm (figs_split _ _ _ _ hf (dg_fig hm) hr (fin_noFig h) e').1
/-- a number and its bracket -/
theorem out_num {n : Nat} {pl : List (Nat × Option Tr)} {r : List Nat} {p : Tr} (hn : n ≤ 60) : Out' pl (dg n ++ (40 :: r)) p ↔ Out' ((n, none) :: pl) r p := by
  have nf : ∀ x : List Nat, noFig (40 :: x) := fun _ => rfl
  have hd : (dg n ++ (40 :: r)).head? ≠ some 61 := by
    cases hh : dg n with
    | nil => exact absurd hh (dg_ne _)
    | cons c s =>
      intro z
      have z' : c = 61 := by simpa using z
      have := dg_fig hn c (by rw [hh]; exact List.mem_cons_self ..)
      rw [z'] at this
      cases this
  constructor
  · rintro ⟨t, r', e, ht, hf⟩
    obtain ⟨m, b, w, hm, rfl, hb, hw⟩ := sh_drop ht (z := r') (by rw [← e]; exact hd)
    have e2 : dg n ++ (40 :: r) = dg m ++ (40 :: (shT b ++ (44 :: (shT w ++ (41 :: r'))))) := by
      rw [e]
      simp [shT]
    obtain ⟨rfl, e3⟩ := dg_split hn hm (nf _) (nf _) e2
    injection e3 with _ e3
    exact ⟨b, 44 :: (shT w ++ (41 :: r')), e3, hb, w, r', rfl, hw, hf⟩
  · rintro ⟨b, r1, rfl, hb, w, r', rfl, hw, hf⟩
    refine ⟨.drop n b w, r', by simp [shT], ?_, hf⟩
    exact ⟨⟨by omega, by omega⟩, hb, hw⟩
theorem out_num_no {fs r : List Nat} {pl : List (Nat × Option Tr)} {p : Tr} (hf : ∀ c ∈ fs, isFig c = true) (hr : noFig r) (h61 : (fs ++ r).head? ≠ some 61) (hx : (∀ n, n ≤ 60 → fs ≠ dg n) ∨ r.head? ≠ some 40) : ¬ Out' pl (fs ++ r) p := by
  rintro ⟨t, r', e, ht, h⟩
  obtain ⟨m, b, w, hm, rfl, hb, hw⟩ := sh_drop ht (z := r') (by rw [← e]; exact h61)
  have e2 : fs ++ r = dg m ++ (40 :: (shT b ++ (44 :: (shT w ++ (41 :: r'))))) := by
    rw [e]
    simp [shT]
  obtain ⟨e3, e4⟩ := figs_split _ _ _ _ hf (dg_fig hm) hr (show noFig (40 :: _) from rfl) e2
  rcases hx with hx | hx
  · exact hx m hm e3
  · rw [e4] at hx
    exact hx rfl
end Egg

end

set_option linter.all false
namespace Egg
open PySem L2
def top (i : Nat) : Stmt := PySem.Challenge.pw_eggfloors_k12_texts_refused.main.body.getD i (.Pass ⟨0, 0, 0, 0⟩)
abbrev s_read : Stmt := top 10
theorem sc_read : FnScope ["text", "held", "piece"] ["text"] (defScope s_read) := ⟨rfl, rfl, rfl, by decide +kernel, rfl, by decide +kernel, by decide +kernel⟩
abbrev s_make_last : Stmt := top 11
theorem sc_make_last : FnScope ["held"] ["held"] (defScope s_make_last) := ⟨rfl, rfl, rfl, by decide +kernel, rfl, by decide +kernel, by decide +kernel⟩
abbrev s_replace_last : Stmt := top 12
theorem sc_replace_last : FnScope ["held", "many", "tree", "gone"] ["held", "many", "tree"] (defScope s_replace_last) := ⟨rfl, rfl, rfl, by decide +kernel, rfl, by decide +kernel, by decide +kernel⟩
abbrev s_forms : Stmt := top 13
theorem sc_forms : FnScope ["pieces"] ["pieces"] (defScope s_forms) := ⟨rfl, rfl, rfl, by decide +kernel, rfl, by decide +kernel, by decide +kernel⟩
abbrev s_form_of : Stmt := top 14
theorem sc_form_of : FnScope ["piece"] ["piece"] (defScope s_form_of) := ⟨rfl, rfl, rfl, by decide +kernel, rfl, by decide +kernel, by decide +kernel⟩
abbrev s_pieces_of : Stmt := top 15
theorem sc_pieces_of : FnScope ["text", "pieces", "figures", "sign"] ["text"] (defScope s_pieces_of) := ⟨rfl, rfl, rfl, by decide +kernel, rfl, by decide +kernel, by decide +kernel⟩
abbrev s_add_number : Stmt := top 16
theorem sc_add_number : FnScope ["pieces", "figures"] ["pieces", "figures"] (defScope s_add_number) := ⟨rfl, rfl, rfl, by decide +kernel, rfl, by decide +kernel, by decide +kernel⟩
abbrev s_number_of : Stmt := top 17
theorem sc_number_of : FnScope ["figures"] ["figures"] (defScope s_number_of) := ⟨rfl, rfl, rfl, by decide +kernel, rfl, by decide +kernel, by decide +kernel⟩
abbrev s__law_cell_at : Stmt := top 19
theorem sc__law_cell_at : FnScope ["script", "k"] ["script", "k"] (defScope s__law_cell_at) := ⟨rfl, rfl, rfl, by decide +kernel, rfl, by decide +kernel, by decide +kernel⟩
abbrev s__law_tree : Stmt := top 21
theorem sc__law_tree : FnScope ["script", "at", "low", "high", "things", "cell", "drop", "broken"] ["script", "at", "low", "high", "things"] (defScope s__law_tree) := ⟨rfl, rfl, rfl, by decide +kernel, rfl, by decide +kernel, by decide +kernel⟩
abbrev s__law_which : Stmt := top 22
theorem sc__law_which : FnScope ["e", "some"] ["e"] (defScope s__law_which) := ⟨rfl, rfl, rfl, by decide +kernel, rfl, by decide +kernel, by decide +kernel⟩
abbrev s__law_text : Stmt := top 23
theorem sc__law_text : FnScope ["tree"] ["tree"] (defScope s__law_text) := ⟨rfl, rfl, rfl, by decide +kernel, rfl, by decide +kernel, by decide +kernel⟩
abbrev s__law_sign_by : Stmt := top 24
theorem sc__law_sign_by : FnScope ["cell", "signs"] ["cell"] (defScope s__law_sign_by) := ⟨rfl, rfl, rfl, by decide +kernel, rfl, by decide +kernel, by decide +kernel⟩
abbrev s__law_odd : Stmt := top 25
theorem sc__law_odd : FnScope ["cell", "some"] ["cell"] (defScope s__law_odd) := ⟨rfl, rfl, rfl, by decide +kernel, rfl, by decide +kernel, by decide +kernel⟩
abbrev s__law_end : Stmt := top 26
theorem sc__law_end : FnScope ["text", "at", "end", "word"] ["text", "at"] (defScope s__law_end) := ⟨rfl, rfl, rfl, by decide +kernel, rfl, by decide +kernel, by decide +kernel⟩
abbrev s__law_due : Stmt := top 27
theorem sc__law_due : FnScope ["text", "pile", "at", "whole", "leaf", "end", "number", "tree"] ["text"] (defScope s__law_due) := ⟨rfl, rfl, rfl, by decide +kernel, rfl, by decide +kernel, by decide +kernel⟩
abbrev s__law_told : Stmt := top 28
theorem sc__law_told : FnScope ["text", "told", "e"] ["text"] (defScope s__law_told) := ⟨rfl, rfl, rfl, by decide +kernel, rfl, by decide +kernel, by decide +kernel⟩
abbrev s__law_spoiled : Stmt := top 29
theorem sc__law_spoiled : FnScope ["text", "cell", "other", "at"] ["text", "cell", "other"] (defScope s__law_spoiled) := ⟨rfl, rfl, rfl, by decide +kernel, rfl, by decide +kernel, by decide +kernel⟩
abbrev s_law : Stmt := top 30
theorem sc_law : FnScope ["script", "floors", "text", "due", "found"] ["script"] (defScope s_law) := ⟨rfl, rfl, rfl, by decide +kernel, rfl, by decide +kernel, by decide +kernel⟩

def cellV (ns : List Int) (k : Int) : Int := ns.getD k.toNat 0
def spCell (K : PySem.W.Frag) : Sp := fun vs H Q _ => ∃ a ns k, vs = [.ref a, .int k] ∧ SqL K H a (ns.map V.int) ∧ 0 ≤ k ∧ Q (.int (cellV ns k)) H
def spWhole : Sp := fun vs H Q _ => ∃ t, vs = [.int t] ∧ Q (.bl true) H
def spLaw (K : PySem.W.Frag) : Sp := fun vs H Q _ => ∃ (a : Addr) (ns : List Int), vs = [.ref a] ∧ SqL K H a (ns.map V.int) ∧ ns.length ≤ 63 ∧ ∀ H', Q (.bl true) H'
inductive TrIn (H : Hp) : V → Tr → Prop where
  | told {a : Addr} {f : Int} : H a = some (.tup [.str "told", .int f]) → TrIn H (.ref a) (.told f)
  | drop {a : Addr} {f : Int} {vb vw : V} {b w : Tr} : H a = some (.tup [.str "drop", .int f, vb, vw]) → TrIn H vb b → TrIn H vw w → TrIn H (.ref a) (.drop f b w)
theorem TrIn.same {H H' : Hp} (s : Same H H') {v : V} {p : Tr} (h : TrIn H v p) : TrIn H' v p := by
  induction h with
  | told e => exact .told (s _ _ e)
  | drop e _ _ h1 h2 => exact .drop (s _ _ e) h1 h2
theorem TrIn.tups {H H' : Hp} (s : TupS H H') {v : V} {p : Tr} (h : TrIn H v p) : TrIn H' v p := by
  induction h with
  | told e => exact .told (s _ _ e)
  | drop e _ _ h1 h2 => exact .drop (s _ _ e) h1 h2
def spTree (K : PySem.W.Frag) (n : Nat) : Sp := fun vs H Q _ => ∃ (a : Addr) (ns : List Int) (at' low high t : Int), vs = [.ref a, .int at', .int low, .int high, .int t] ∧ SqL K H a (ns.map V.int) ∧ 0 ≤ at' ∧ 0 ≤ low ∧ low ≤ high ∧ high ≤ 60 ∧ 0 ≤ t ∧ t ≤ 12 ∧ (low = high ∨ 0 < t) ∧ (high - low).toNat < n ∧
  ∀ (v : V) (H' : Hp) (p : Tr) (d : Nat), Same H H' → TrIn H' v p → lk p low high t.toNat = some d → Q v H'
def spWhich (K : PySem.W.Frag) (cN cP cL cB : Addr) : Sp := fun vs H Q _ => ∃ (a C : Addr) (b1 b2 b3 b4 : Bool), vs = [.ref a] ∧ H a = some (excO a C) ∧ XCls K C ∧ PySem.W.kitOne K (.ref C) (.ref cN) = some b1 ∧ PySem.W.kitOne K (.ref C) (.ref cP) = some b2 ∧ PySem.W.kitOne K (.ref C) (.ref cL) = some b3 ∧ PySem.W.kitOne K (.ref C) (.ref cB) = some b4 ∧
  PySem.W.kitOne K (.ref C) (.type "ValueError") = some true ∧ ∀ (H' : Hp) (l : Addr), Same H H' → H' l = some (.lst [.bl b1, .bl b2, .bl b3, .bl b4, .bl true]) → Q (.ref l) H'
theorem dg_digits : ∀ n : Nat, n < 61 → (Nat.toDigits 10 n).map Char.toNat = dg n := by decide +kernel
theorem num_text {f : Int} (h0 : 0 ≤ f) (h1 : f ≤ 60) : Str.ofString (toString f) = tx (dg f.toNat) := by
  obtain ⟨n, rfl⟩ : ∃ n : Nat, f = (n : Int) := ⟨f.toNat, by omega⟩
  have e := PySem.W.KIN.signs_num n
  rw [dg_digits n (by omega)] at e
  rw [show ((n : Nat) : Int).toNat = n by omega]
  generalize Str.ofString (toString ((n : Nat) : Int)) = x at e
  obtain ⟨⟨l⟩⟩ := x
  have e' : l = dg n := e
  rw [e']
theorem log60 {f : Int} (h0 : 0 ≤ f) (h1 : f ≤ 60) : f.natAbs.log2 < 1920 := by
  by_cases z : f.natAbs = 0
  · rw [z]; decide
  · exact Nat.lt_of_lt_of_le ((Nat.log2_lt z).mpr (show f.natAbs < 2 ^ 6 by omega)) (by decide)
theorem dg_len (n : Nat) : 1 ≤ (dg n).length ∧ (dg n).length ≤ 2 := by
  unfold dg
  split
  · exact ⟨Nat.le_refl _, by simp⟩
  · exact ⟨by simp, Nat.le_refl _⟩
theorem sh_len : ∀ p : Tr, (shT p).length ≤ 8 * tsize p + 3
  | .told f => by
    have := dg_len f.toNat
    show (61 :: dg f.toNat).length ≤ 8 * 0 + 3
    rw [List.length_cons]
    omega
  | .drop f b w => by
    have := dg_len f.toNat
    have hb := sh_len b
    have hw := sh_len w
    show (dg f.toNat ++ (40 :: (shT b ++ (44 :: (shT w ++ [41]))))).length ≤ 8 * (1 + tsize b + tsize w) + 3
    simp only [List.length_append, List.length_cons, List.length_nil]
    omega
theorem small_size {n : Nat} (h : n ≤ 1000000) : n ≤ sizeLine := Nat.le_of_lt (lt_size h)
def spSh (n : Nat) : Sp := fun vs H Q _ => ∃ (v : V) (p : Tr), vs = [v] ∧ TrIn H v p ∧ ht p < n ∧ flIn 0 60 p ∧ tsize p ≤ 1000 ∧ Q (.str (tx (shT p))) H
inductive LetIn (H : Hp) : V → Nat → Prop where
  | int (n : Int) : LetIn H (.int n) 110
  | tup {a : Addr} {xs : List V} : H a = some (.tup xs) → LetIn H (.ref a) 116
  | str (c : Nat) : LetIn H (.str (tx [c])) c
theorem LetIn.tups {H H' : Hp} (s : TupS H H') {v : V} {c : Nat} (h : LetIn H v c) : LetIn H' v c := by
  cases h with
  | int n => exact .int n
  | tup e => exact .tup (s _ _ e)
  | str c => exact .str c
inductive LetsIn (H : Hp) : List V → List Nat → Prop where
  | nil : LetsIn H [] []
  | cons {v : V} {c : Nat} {vs : List V} {cs : List Nat} : LetIn H v c → LetsIn H vs cs → LetsIn H (v :: vs) (c :: cs)
def letV : V → V
  | .int _ => .str (tx [110])
  | .ref _ => .str (tx [116])
  | v => v
theorem LetIn.val {H : Hp} {v : V} {c : Nat} (h : LetIn H v c) : letV v = .str (tx [c]) := by cases h <;> rfl
theorem LetsIn.vals {H : Hp} {vs : List V} {cs : List Nat} (h : LetsIn H vs cs) : vs.map letV = (cs.map fun c => [c]).map fun z => V.str (tx z) := by
  induction h with
  | nil => rfl
  | cons a _ ih => rw [List.map_cons, a.val, ih]; rfl
theorem LetsIn.mem {H : Hp} {vs : List V} {cs : List Nat} (h : LetsIn H vs cs) : ∀ v ∈ vs, ∃ c, LetIn H v c := by
  induction h with
  | nil => intro v hv; cases hv
  | @cons v0 c vs cs a _ ih =>
    intro v hv
    rcases List.mem_cons.mp hv with rfl | hv
    · exact ⟨c, a⟩
    · exact ih v hv
theorem LetsIn.len {H : Hp} {vs : List V} {cs : List Nat} (h : LetsIn H vs cs) : vs.length = cs.length := by
  induction h with
  | nil => rfl
  | cons _ _ ih => exact congrArg Nat.succ ih
theorem LetsIn.tups {H H' : Hp} (s : TupS H H') {vs : List V} {cs : List Nat} (h : LetsIn H vs cs) : LetsIn H' vs cs := by
  induction h with
  | nil => exact .nil
  | cons a _ ih => exact .cons (a.tups s) ih
theorem eq_n : Str.ofString "=n" = tx [61, 110] := by decide +kernel
theorem n_tt : Str.ofString "n(t,t)" = tx [110, 40, 116, 44, 116, 41] := by decide +kernel
theorem LetsIn.append {H : Hp} {vs : List V} {cs : List Nat} {ws : List V} {ds : List Nat} (h : LetsIn H vs cs) (k : LetsIn H ws ds) : LetsIn H (vs ++ ws) (cs ++ ds) := by
  induction h with
  | nil => exact k
  | cons a _ ih => exact .cons a ih
theorem flat_one : ∀ cs : List Nat, (cs.map fun c => [c]).flatten = cs
  | [] => rfl
  | c :: cs => by rw [List.map_cons, List.flatten_cons, flat_one cs]; rfl
inductive StkIn (H : Hp) : List V → List Pc → Prop where
  | nil : StkIn H [] []
  | num {n : Nat} {vs : List V} {ps : List Pc} : StkIn H vs ps → StkIn H (.int (n : Int) :: vs) (.num n :: ps)
  | sg {c : Nat} {vs : List V} {ps : List Pc} : isSig c = true → StkIn H vs ps → StkIn H (.str (tx [c]) :: vs) (.sg c :: ps)
  | tr {v : V} {p : Tr} {vs : List V} {ps : List Pc} : TrIn H v p → StkIn H vs ps → StkIn H (v :: vs) (.tr p :: ps)
theorem StkIn.tups {H H' : Hp} (s : TupS H H') {vs : List V} {ps : List Pc} (h : StkIn H vs ps) : StkIn H' vs ps := by
  induction h with
  | nil => exact .nil
  | num _ ih => exact .num ih
  | sg c _ ih => exact .sg c ih
  | tr t _ ih => exact .tr (t.tups s) ih
theorem TrIn.let {H : Hp} {v : V} {p : Tr} (h : TrIn H v p) : LetIn H v 116 := by
  cases h with
  | told e => exact .tup e
  | drop e _ _ => exact .tup e
theorem StkIn.lets {H : Hp} {vs : List V} {ps : List Pc} (h : StkIn H vs ps) : LetsIn H vs (ps.map letter) := by
  induction h with
  | nil => exact .nil
  | num _ ih => exact .cons (.int _) ih
  | sg c _ ih => exact .cons (.str _) ih
  | tr t _ ih => exact .cons t.let ih
theorem LetsIn.take {H : Hp} {vs : List V} {cs : List Nat} (h : LetsIn H vs cs) : ∀ k : Nat, LetsIn H (vs.take k) (cs.take k) := by
  induction h with
  | nil => intro k; rw [List.take_nil, List.take_nil]; exact .nil
  | cons a _ ih =>
    intro k
    cases k with
    | zero => exact .nil
    | succ k => exact .cons a (ih k)
theorem LetsIn.reverse {H : Hp} {vs : List V} {cs : List Nat} (h : LetsIn H vs cs) : LetsIn H vs.reverse cs.reverse := by
  induction h with
  | nil => exact .nil
  | cons a _ ih =>
    rw [List.reverse_cons, List.reverse_cons]
    exact ih.append (.cons a .nil)
theorem StkIn.ok {H : Hp} {vs : List V} {ps : List Pc} (h : StkIn H vs ps) : ∀ x ∈ ps, sgOk x := by
  induction h with
  | nil => intro x hx; cases hx
  | num _ ih =>
    intro x hx
    rcases List.mem_cons.mp hx with rfl | hx
    · exact trivial
    · exact ih x hx
  | sg c _ ih =>
    intro x hx
    rcases List.mem_cons.mp hx with rfl | hx
    · exact c
    · exact ih x hx
  | tr t _ ih =>
    intro x hx
    rcases List.mem_cons.mp hx with rfl | hx
    · exact trivial
    · exact ih x hx
theorem StkIn.len {H : Hp} {vs : List V} {ps : List Pc} (h : StkIn H vs ps) : vs.length = ps.length := by
  have := h.lets.len
  rwa [List.length_map] at this
theorem two_letters {s : List Pc} (ok : ∀ x ∈ s, sgOk x) (e : ((s.map letter).take 2).reverse = [61, 110]) : ∃ n r, s = .num n :: .sg 61 :: r := by
  match s, ok, e with
  | [], _, e => cases e
  | [x], _, e => exact absurd (congrArg List.length e) (by simp)
  | x :: y :: r, ok, e =>
    have e' : [letter y, letter x] = [61, 110] := e
    injection e' with e1 e2
    injection e2 with e2 _
    obtain ⟨n, rfl⟩ := let_num (ok x (.head _)) e2
    rw [let_sg e1 (by decide) (by decide)]
    exact ⟨n, r, rfl⟩
theorem six_letters {s : List Pc} (ok : ∀ x ∈ s, sgOk x) (e : ((s.map letter).take 6).reverse = [110, 40, 116, 44, 116, 41]) : ∃ f b w r, s = .sg 41 :: .tr w :: .sg 44 :: .tr b :: .sg 40 :: .num f :: r := by
  match s, ok, e with
  | [], _, e => cases e
  | [_], _, e => exact absurd (congrArg List.length e) (by simp)
  | [_, _], _, e => exact absurd (congrArg List.length e) (by simp)
  | [_, _, _], _, e => exact absurd (congrArg List.length e) (by simp)
  | [_, _, _, _], _, e => exact absurd (congrArg List.length e) (by simp)
  | [_, _, _, _, _], _, e => exact absurd (congrArg List.length e) (by simp)
  | x1 :: x2 :: x3 :: x4 :: x5 :: x6 :: r, ok, e =>
    have e' : [letter x6, letter x5, letter x4, letter x3, letter x2, letter x1] = [110, 40, 116, 44, 116, 41] := e
    injection e' with e6 e'
    injection e' with e5 e'
    injection e' with e4 e'
    injection e' with e3 e'
    injection e' with e2 e'
    injection e' with e1 _
    obtain ⟨f, rfl⟩ := let_num (ok x6 (by simp)) e6
    obtain ⟨b, rfl⟩ := let_tr (ok x4 (by simp)) e4
    obtain ⟨w, rfl⟩ := let_tr (ok x2 (by simp)) e2
    rw [let_sg e1 (by decide) (by decide), let_sg e3 (by decide) (by decide), let_sg e5 (by decide) (by decide)]
    exact ⟨f, b, w, r, rfl⟩
theorem red_same {s : List Pc} (h2 : ¬ ∃ n r, s = .num n :: .sg 61 :: r) (h6 : ¬ ∃ f b w r, s = .sg 41 :: .tr w :: .sg 44 :: .tr b :: .sg 40 :: .num f :: r) : redR s = s := by
  unfold redR
  split
  · exact absurd ⟨_, _, rfl⟩ h2
  · exact absurd ⟨_, _, _, _, rfl⟩ h6
  · rfl
def spForm : Sp := fun vs H Q _ => ∃ v c, vs = [v] ∧ LetIn H v c ∧ Q (.str (tx [c])) H
def spForms (K : PySem.W.Frag) : Sp := fun vs H Q _ => ∃ (a : Addr) (us : List V) (cs : List Nat), vs = [.ref a] ∧ SqL K H a us ∧ LetsIn H us cs ∧ us.length ≤ 100000 ∧ ∀ H', Same H H' → Q (.str (tx cs)) H'
def spRepl : Sp := fun vs H Q _ => ∃ (h : Addr) (k : Nat) (tv : V) (xs : List V), vs = [.ref h, .int (k : Int), tv] ∧ H h = some (.lst xs) ∧ k ≤ xs.length ∧ k ≤ 100 ∧ xs.length ≤ 100000 ∧ Q .non (upd H h (.lst (xs.take (xs.length - k) ++ [tv])))
def Else (h : Addr) (H H' : Hp) : Prop := ∀ b o, H b = some o → b ≠ h → H' b = some o
def spLast : Sp := fun vs H Q _ => ∃ (h : Addr) (us : List V) (s : List Pc), vs = [.ref h] ∧ H h = some (.lst us.reverse) ∧ StkIn H us s ∧ us.length ≤ 100000 ∧ ∀ (H' : Hp) (us' : List V), Else h H H' → H' h = some (.lst us'.reverse) → StkIn H' us' (redR s) → Q .non H'
def pcV : Pc → V
  | .num n => .int (n : Int)
  | .sg c => .str (tx [c])
  | .tr _ => .non
theorem dg_digits99 : ∀ n : Nat, n < 100 → (Nat.toDigits 10 n).map Char.toNat = dg n := by decide +kernel
theorem num_text99 {n : Nat} (h : n < 100) : Str.ofString (toString ((n : Nat) : Int)) = tx (dg n) := by
  have e := PySem.W.KIN.signs_num n
  rw [dg_digits99 n h] at e
  generalize Str.ofString (toString ((n : Nat) : Int)) = x at e
  obtain ⟨⟨l⟩⟩ := x
  have e' : l = dg n := e
  rw [e']
theorem reads99 {n : Nat} (h : n < 100) : PySem.intText? (tx (dg n)) = some (n : Int) := by
  rw [← num_text99 h]
  exact PySem.W.KIN.num_reads (by omega) (by omega)
def Fgs (fs : List Nat) : Prop := ∀ c ∈ fs, isFig c = true
/-- the figures' fate -/
theorem figs_fate {fs : List Nat} (hf : Fgs fs) (h0 : fs ≠ []) : (∃ b r, fs = 48 :: b :: r ∧ ∀ n, n ≤ 60 → fs ≠ dg n) ∨ ((¬ (fs.head? = some 48 ∧ fs ≠ [48])) ∧ ((2 < fs.length ∧ ∀ n, n ≤ 60 → fs ≠ dg n) ∨ ∃ n, n < 100 ∧ fs = dg n)) := by
  match fs, hf, h0 with
  | [c], hf, _ =>
    have h := hf c (List.mem_cons_self ..)
    simp [isFig] at h
    refine .inr ⟨fun z => ?_, .inr ⟨c - 48, by omega, dg_one h.1 h.2⟩⟩
    obtain ⟨z1, z2⟩ := z
    have : c = 48 := by simpa using z1
    exact z2 (by rw [this])
  | [a, b], hf, _ =>
    have h := hf a (List.mem_cons_self ..)
    have h' := hf b (by simp)
    simp [isFig] at h h'
    by_cases c : a = 48
    · exact .inl ⟨b, [], by rw [c], fun n hn => by rw [c]; exact fun z => dg_no0 hn z.symm⟩
    · refine .inr ⟨fun z => c (by simpa using z.1), .inr ⟨10 * (a - 48) + (b - 48), by omega, dg_two (by omega) h.2 h'.1 h'.2⟩⟩
  | a :: b :: c :: r, hf, _ =>
    have no : ∀ n, n ≤ 60 → (a :: b :: c :: r) ≠ dg n := fun n _ z => by
      have := dg_len2 n
      rw [← z] at this
      simp at this
    by_cases c0 : a = 48
    · exact .inl ⟨b, c :: r, by rw [c0], no⟩
    · exact .inr ⟨fun z => c0 (by simpa using z.1), .inl ⟨by simp, no⟩⟩
def spNumX (cB : Addr) : Sp := fun vs H Q E => ∃ fs : List Nat, vs = [.str (tx fs)] ∧ fs ≠ [] ∧ Fgs fs ∧ fs.length ≤ 1000 ∧ (∀ n : Nat, n ≤ 60 → fs = dg n → Q (.int (n : Int)) H) ∧ ((∀ n, n ≤ 60 → fs ≠ dg n) → E (.ref cB) none H)
def spAddX (cB : Addr) : Sp := fun vs H Q E => ∃ (l : Addr) (xs : List V) (fs : List Nat), vs = [.ref l, .str (tx fs)] ∧ H l = some (.lst xs) ∧ xs.length < 100000 ∧ Fgs fs ∧ fs.length ≤ 1000 ∧ (fs = [] → Q .non H) ∧ (∀ n : Nat, n ≤ 60 → fs = dg n → Q .non (upd H l (.lst (xs ++ [.int (n : Int)])))) ∧ (fs ≠ [] → (∀ n, n ≤ 60 → fs ≠ dg n) → E (.ref cB) none H)
def spPcsX (cB : Addr) : Sp := fun vs H Q E => ∃ z : List Nat, vs = [.str (tx z)] ∧ (∀ c ∈ z, c < 128) ∧ z.length ≤ 1000 ∧ (∀ (ps : List Pc) (l : Addr) (H' : Hp), (∀ r, Lex z [] [] r ↔ r = ps) → Same H H' → H l = none → H' l = some (.lst (ps.map pcV)) → Q (.ref l) H') ∧ ((∀ r, ¬ Lex z [] [] r) → ∀ H', Same H H' → E (.ref cB) none H')
def spRdX (cB : Addr) : Sp := fun vs H Q E => ∃ z : List Nat, vs = [.str (tx z)] ∧ (∀ c ∈ z, c < 128) ∧ z.length ≤ 1000 ∧ (∀ (p : Tr) (v : V) (H' : Hp), z = shT p → flIn 0 60 p → Same H H' → TrIn H' v p → Q v H') ∧ ((∀ p, ¬ (z = shT p ∧ flIn 0 60 p)) → ∀ H', Same H H' → E (.ref cB) none H')
section
variable {P : Program} {w : World} {K : PySem.W.Frag} {mg : Str → Option Value} {base : Heap} {tk : Tok}
theorem own_none {x : Str} {st : Stmt} {ps : List Str} {k : Nat} {sp : Sp} (D : DefAt K mg x st ps) (no : ∀ vs H Q E, ¬ sp vs H Q E) : Own P w K mg base x k ps sp := by
  obtain ⟨f, fd, F, m, b⟩ := D
  exact ⟨f, fd, ⟨fun vs H Q E h => absurd h (no vs H Q E), fun A outer s H args us vs Q E _ _ _ _ h => absurd h (no vs H Q E)⟩, m, F.kp, b⟩
theorem ok_which {cN cP cL cB : Addr} (D : DefAt K mg "_law_which" s__law_which ["e"]) (M_isinstance : mg "isinstance" = none) (M_ValueError : mg "ValueError" = none) (M_NoCase : mg "NoCase" = some (.ref cN)) (M_NoPlan : mg "NoPlan" = some (.ref cP)) (M_NoFloor : mg "NoFloor" = some (.ref cL)) (M_BadLine : mg "BadLine" = some (.ref cB)) :
    OwnH P w K mg base "_law_which" 1 ["e"] (spWhich K cN cP cL cB) := by
  have R_NoCase : RelV (.ref cN) (.ref cN) := rfl
  have R_NoPlan : RelV (.ref cP) (.ref cP) := rfl
  have R_NoFloor : RelV (.ref cL) (.ref cL) := rfl
  have R_BadLine : RelV (.ref cB) (.ref cB) := rfl
  refine ownH_of D sc__law_which (fun vs H Q E h => ?_) (fun f cdv A outer s H vs Q E hr h => ?_)
  · obtain ⟨_, _, _, _, _, _, rfl, _⟩ := h
    rfl
  obtain ⟨a, C, b1, b2, b3, b4, rfl, ea, xc, k1, k2, k3, k4, k5, q⟩ := h
  have nd := sc__law_which.nd
  refine ⟨_, (pss_cons (ps_set (i := 1) nd rfl (Or.inl rfl) (pe_lst (pa_cons (pe_callB call_isinstX (by rfl) M_isinstance B_isinstance (pa_cons (pv 0) (pa_cons (pe_glob (by rfl) M_NoCase R_NoCase) pa_nil))) (pa_cons (pe_callB call_isinstX (by rfl) M_isinstance B_isinstance (pa_cons (pv 0) (pa_cons (pe_glob (by rfl) M_NoPlan R_NoPlan) pa_nil))) (pa_cons (pe_callB call_isinstX (by rfl) M_isinstance B_isinstance (pa_cons (pv 0) (pa_cons (pe_glob (by rfl) M_NoFloor R_NoFloor) pa_nil))) (pa_cons (pe_callB call_isinstX (by rfl) M_isinstance B_isinstance (pa_cons (pv 0) (pa_cons (pe_glob (by rfl) M_BadLine R_BadLine) pa_nil))) pa_nil)))))) (pss_one (ps_ret (pe_op op_cat (pv 1) (pe_lst (pa_cons (pe_callB call_isinstX (by rfl) M_isinstance B_isinstance (pa_cons (pv 0) (pa_cons (pe_bltn (v := .ty "ValueError") (by rfl) M_ValueError B_ValueError (by rfl)) pa_nil))) pa_nil)))))), ?_⟩
  refine ⟨_, rfl, _, a, C, _, b1, rfl, rfl, ea, xc, k1, _, rfl, _, a, C, _, b2, rfl, rfl, ea, xc, k2, _, rfl, _, a, C, _, b3, rfl, rfl, ea, xc, k3, _, rfl, _, a, C, _, b4, rfl, rfl, ea, xc, k4, by show 4 ≤ sizeLine; decide, fun l1 hl1 => ?_⟩
  have s1 := same_upd hl1 (.lst [.bl b1, .bl b2, .bl b3, .bl b4])
  refine ⟨_, rfl, _, rfl, _, a, C, _, true, rfl, rfl, s1 _ _ ea, xc, k5, by show 1 ≤ sizeLine; decide, fun l2 hl2 => ?_⟩
  have s2 := same_upd hl2 (.lst [.bl true])
  refine ⟨l1, l2, _, _, rfl, rfl, s2 _ _ upd_same, upd_same, by show 5 ≤ sizeLine; decide, fun l3 hl3 => ?_⟩
  exact q _ l3 (s1.trans (s2.trans (same_upd hl3 _))) upd_same
theorem ite_rst {c : Prop} [Decidable c] {A B R : Prop} (hR : R) (h1 : c → R → A) (h2 : ¬ c → R → B) : if c then A else B := ite2 (fun z => h1 z hR) (fun z => h2 z hR)
theorem ok_text (D : DefAt K mg "_law_text" s__law_text ["tree"]) (M_str : mg "str" = none) : ∀ n : Nat, Own P w K mg base "_law_text" (n + 1) ["tree"] (spSh n)
  | 0 => own_none D fun vs H Q E h => by
    obtain ⟨_, _, _, _, h, _⟩ := h
    omega
  | n + 1 => by
    have O__law_text := ok_text D M_str n
    refine own_of D sc__law_text (fun vs H Q E h => ?_) (fun f cdv A outer s H vs Q E hr h => ?_)
    · obtain ⟨_, _, rfl, _⟩ := h
      rfl
    obtain ⟨v, p, rfl, hT, hn, hf, hz, q⟩ := h
    have hl := sh_len p
    refine ⟨_, (pss_cons (ps_if (pt_cmpR op_eq (pe_ix ix_tup (pv 0) pe_int (fun _ _ => rfl)) pe_str (nomark _)) (pss_one (ps_ret (pe_op op_add_str pe_str (pe_callTy call_str_int (by rfl) M_str B_str (pa_cons (pe_ix ix_tup (pv 0) pe_int (fun _ _ => rfl)) pa_nil))))) pss_nil) (pss_one (ps_ret (pe_op op_add_str (pe_op op_add_str (pe_op op_add_str (pe_op op_add_str (pe_op op_add_str (pe_callTy call_str_int (by rfl) M_str B_str (pa_cons (pe_ix ix_tup (pv 0) pe_int (fun _ _ => rfl)) pa_nil)) pe_str) (pe_own O__law_text (hr.mono (by omega)) (by rfl) (pa_cons (pe_ix ix_tup (pv 0) pe_int (fun _ _ => rfl)) pa_nil))) pe_str) (pe_own O__law_text (hr.mono (by omega)) (by rfl) (pa_cons (pe_ix ix_tup (pv 0) pe_int (fun _ _ => rfl)) pa_nil))) pe_str)))), ?_⟩
    cases hT with
    | @told a f e =>
      obtain ⟨f0, f1⟩ := (show 0 ≤ f ∧ f ≤ 60 from hf)
      refine ⟨_, rfl, a, _, 0, _, rfl, rfl, SqT.of e, rfl, rfl, _, rfl, iteT ?_⟩
      have dl := dg_len f.toNat
      refine ⟨_, rfl, a, _, 1, _, rfl, rfl, SqT.of e, rfl, f, rfl, log60 f0 f1, tx [61], _, rfl, rfl, ?_, ?_⟩
      · rw [num_text f0 f1, tx_len, tx_len]
        exact small_size (by simp only [List.length_cons, List.length_nil]; omega)
      · rw [num_text f0 f1, tx_app]
        exact q
    | @drop a f vb vw b w' e hb hw =>
      obtain ⟨⟨f0, f1⟩, fb, fw⟩ := (show (0 ≤ f ∧ f ≤ 60) ∧ flIn 0 60 b ∧ flIn 0 60 w' from hf)
      have hn' : 1 + max (ht b) (ht w') < n + 1 := hn
      have hz' : 1 + tsize b + tsize w' ≤ 1000 := hz
      have lb := sh_len b
      have lw := sh_len w'
      have dl := dg_len f.toNat
      refine ⟨_, rfl, a, _, 0, _, rfl, rfl, SqT.of e, rfl, rfl, _, rfl, iteF ?_⟩
      refine ⟨_, rfl, a, _, 1, _, rfl, rfl, SqT.of e, rfl, f, rfl, log60 f0 f1, ?_⟩
      rw [num_text f0 f1]
      refine ⟨tx (dg f.toNat), tx [40], rfl, rfl, ?_, ?_⟩
      · rw [tx_len, tx_len]
        exact small_size (by simp only [List.length_cons, List.length_nil]; omega)
      rw [tx_app]
      refine ⟨_, rfl, a, _, 2, _, rfl, rfl, SqT.of e, rfl, vb, b, rfl, hb, by omega, fb, by omega, _, _, rfl, rfl, ?_, ?_⟩
      · rw [tx_len, tx_len]
        exact small_size (by simp only [List.length_append, List.length_cons, List.length_nil]; omega)
      rw [tx_app]
      refine ⟨_, tx [44], rfl, rfl, ?_, ?_⟩
      · rw [tx_len, tx_len]
        exact small_size (by simp only [List.length_append, List.length_cons, List.length_nil]; omega)
      rw [tx_app]
      refine ⟨_, rfl, a, _, 3, _, rfl, rfl, SqT.of e, rfl, vw, w', rfl, hw, by omega, fw, by omega, _, _, rfl, rfl, ?_, ?_⟩
      · rw [tx_len, tx_len]
        exact small_size (by simp only [List.length_append, List.length_cons, List.length_nil]; omega)
      rw [tx_app]
      refine ⟨_, tx [41], rfl, rfl, ?_, ?_⟩
      · rw [tx_len, tx_len]
        exact small_size (by simp only [List.length_append, List.length_cons, List.length_nil]; omega)
      rw [tx_app]
      have ee : dg f.toNat ++ [40] ++ shT b ++ [44] ++ shT w' ++ [41] = shT (.drop f b w') := by simp [shT]
      rw [ee]
      exact q
theorem ok_form (D : DefAt K mg "form_of" s_form_of ["piece"]) (M_isinstance : mg "isinstance" = none) (M_tuple : mg "tuple" = none) (M_int : mg "int" = none) (k1 : PySem.W.kitOne K (.type "tuple") (.type "tuple") = some true) (k2 : PySem.W.kitOne K (.type "int") (.type "tuple") = some false) (k3 : PySem.W.kitOne K (.type "str") (.type "tuple") = some false)
    (k4 : PySem.W.kitOne K (.type "int") (.type "int") = some true) (k5 : PySem.W.kitOne K (.type "str") (.type "int") = some false) : Own P w K mg base "form_of" 1 ["piece"] spForm := by
  refine own_of D sc_form_of (fun vs H Q E h => ?_) (fun f cdv A outer s H vs Q E hr h => ?_)
  · obtain ⟨_, _, rfl, _⟩ := h
    rfl
  obtain ⟨v, c, rfl, hv, q⟩ := h
  refine ⟨_, (pss_cons (ps_if (pt_val (pe_callB call_isinst (by rfl) M_isinstance B_isinstance (pa_cons (pv 0) (pa_cons (pe_bltn (v := .ty "tuple") (by rfl) M_tuple B_tuple (by rfl)) pa_nil)))) (pss_one (ps_ret pe_str)) pss_nil) (pss_cons (ps_if (pt_val (pe_callB call_isinst (by rfl) M_isinstance B_isinstance (pa_cons (pv 0) (pa_cons (pe_bltn (v := .ty "int") (by rfl) M_int B_int (by rfl)) pa_nil)))) (pss_one (ps_ret pe_str)) pss_nil) (pss_one (ps_ret (pv 0))))), ?_⟩
  cases hv with
  | int n =>
    refine ⟨_, rfl, _, _, _, _, _, rfl, rfl, .int n, k2, _, rfl, iteF ?_⟩
    exact ⟨_, rfl, _, _, _, _, _, rfl, rfl, .int n, k4, _, rfl, iteT q⟩
  | tup e => exact ⟨_, rfl, _, _, _, _, _, rfl, rfl, .tup e, k1, _, rfl, iteT q⟩
  | str c =>
    refine ⟨_, rfl, _, _, _, _, _, rfl, rfl, .str _, k3, _, rfl, iteF ?_⟩
    exact ⟨_, rfl, _, _, _, _, _, rfl, rfl, .str _, k5, _, rfl, iteF ⟨_, rfl, q⟩⟩
theorem ok_forms (D : DefAt K mg "forms" s_forms ["pieces"]) (O_form_of : Own P w K mg base "form_of" 1 ["piece"] spForm) : Own P w K mg base "forms" 2 ["pieces"] (spForms K) := by
  refine own_of D sc_forms (fun vs H Q E h => ?_) (fun f cdv A outer s H vs Q E hr h => ?_)
  · obtain ⟨_, _, _, rfl, _⟩ := h
    rfl
  obtain ⟨a, us, cs, rfl, hS, hL, hz, q⟩ := h
  refine ⟨_, (pss_one (ps_ret (pe_bm PySem.F.plainAttrs_str PySem.F.slot_str_join PySem.F.type_str_join mt_join pe_str (pa_cons (pe_comp rfl (⟨by with_unfolding_all rfl, by decide, rfl, by decide, rfl, (by exact trivial), by rfl, (by exact trivial), by decide⟩ : CompOk _ _ _ "piece" [] []) (pi_list (pv 0)) (fun _ _ _ => pts_nil) (fun _ _ _ => (pe_own O_form_of (hr.mono (by omega)) (by rfl) (pa_cons (pv 0) pa_nil)))) pa_nil)))), ?_⟩
  have hcs := hL.len
  refine ⟨rfl, _, rfl, a, rfl, ⟨us, hS⟩, ?_⟩
  refine comp_list (fun _ => true) letV hS (fun y H' R hy sm h => h H' (Same.refl _)) (fun y H' R hy _ sm h => ?_) (lt_size (by omega)) (fun D' H1 s1 hD eD => ?_)
  · obtain ⟨c, hc⟩ := hL.mem y hy
    refine ⟨_, rfl, y, c, rfl, hc.tups sm.tups, ?_⟩
    rw [← hc.val]
    exact h H' (Same.refl _)
  · rw [List.filter_eq_self.mpr (fun _ _ => rfl), hL.vals] at eD
    refine ⟨D', cs.map fun c => [c], rfl, rfl, SqL.of eD, ?_, ?_⟩
    · rw [flat_one]
      exact small_size (by omega)
    · rw [flat_one]
      exact q H1 s1
theorem ok_repl (D : DefAt K mg "replace_last" s_replace_last ["held", "many", "tree"]) (M_range : mg "range" = none) : Own P w K mg base "replace_last" 1 ["held", "many", "tree"] spRepl := by
  refine own_of D sc_replace_last (fun vs H Q E h => ?_) (fun f cdv A outer s H vs Q E hr h => ?_)
  · obtain ⟨_, _, _, _, rfl, _⟩ := h
    rfl
  obtain ⟨h, k, tv, xs, rfl, eh, hk, hk2, hz, q⟩ := h
  have nd := sc_replace_last.nd
  refine ⟨_, (pss_cons (ps_for PassesOwn.never rfl (pi_range1 (by rfl) M_range (pa_cons (pv 1) pa_nil)) (pg_name (i := 3) nd rfl (Or.inl rfl)) (pss_one (ps_expr (pe_bm0 PySem.F.plainAttrs_list PySem.F.slot_list_pop PySem.F.type_list_pop mt_pop (pv 0))))) (pss_one (ps_expr (pe_bm PySem.F.plainAttrs_list PySem.F.slot_list_append PySem.F.type_list_append mt_append (pv 0) (pa_cons (pv 2) pa_nil))))), ?_⟩
  refine ⟨_, rfl, (k : Int), rfl, by omega, by omega, ?_⟩
  refine for_range (lo := 0) (n := ((k : Nat) : Int).toNat) (fun i σ H' => ∃ c3, σ = [some (.ref h), some (.int (k : Int)), some tv, c3] ∧ H' h = some (.lst (xs.take (xs.length - i))) ∧ ∀ b, b ≠ h → H' b = H b) ⟨none, rfl, by rw [Nat.sub_zero, List.take_length]; exact eh, fun b _ => rfl⟩ ?_ ?_
  · rintro i σ H1 hi ⟨c3, rfl, e1, o1⟩
    have ln : (xs.take (xs.length - i)).length = xs.length - i := by rw [List.length_take]; omega
    have hlast : ∃ y, (xs.take (xs.length - i))[(xs.take (xs.length - i)).length - 1]? = some y := ⟨_, List.getElem?_eq_getElem (by omega)⟩
    obtain ⟨y, hy⟩ := hlast
    refine ⟨_, rfl, .inl ⟨rfl, _, SqL.of e1⟩, h, _, y, rfl, rfl, e1, hy, some (.int (0 + i)), rfl, ?_, fun b nb => ?_⟩
    · rw [upd_same, List.dropLast_eq_take, ln, List.take_take]
      congr 3
      omega
    · rw [upd_ne nb]
      exact o1 b nb
  · rintro σ H1 ⟨c3, rfl, e1, o1⟩
    rw [show ((k : Nat) : Int).toNat = k by omega] at e1
    refine ⟨_, rfl, .inl ⟨rfl, _, SqL.of e1⟩, _, rfl, h, _, tv, rfl, rfl, e1, ?_, ?_⟩
    · rw [List.length_take]
      exact lt_size (by omega)
    have eH : upd H1 h (.lst (xs.take (xs.length - k) ++ [tv])) = upd H h (.lst (xs.take (xs.length - k) ++ [tv])) := by
      funext b
      by_cases z : b = h
      · rw [z, upd_same, upd_same]
      · rw [upd_ne z, upd_ne z]
        exact o1 b z
    rw [eH]
    exact q
theorem take_rev {α : Type} (us : List α) (k : Nat) (hk : k ≤ us.length) : us.reverse.take (us.reverse.length - k) = (us.drop k).reverse := by
  rw [List.length_reverse, List.reverse_drop]
theorem ok_last (D : DefAt K mg "make_last" s_make_last ["held"]) (O_forms : Own P w K mg base "forms" 2 ["pieces"] (spForms K)) (O_replace_last : Own P w K mg base "replace_last" 1 ["held", "many", "tree"] spRepl) : Own P w K mg base "make_last" 3 ["held"] spLast := by
  refine own_of D sc_make_last (fun vs H Q E h => ?_) (fun f cdv A outer s H vs Q E hr h => ?_)
  · obtain ⟨_, _, _, rfl, _⟩ := h
    rfl
  obtain ⟨h, us, st, rfl, eh, hst, hz, q⟩ := h
  refine ⟨_, (pss_one (ps_if (pt_cmpR op_eq (pe_own O_forms (hr.mono (by omega)) (by rfl) (pa_cons (pe_slice sl_list (pv 0) (po_some (pe_un un_neg pe_int)) po_none) pa_nil)) pe_str (nomark _)) (pss_one (ps_expr (pe_own O_replace_last (hr.mono (by omega)) (by rfl) (pa_cons (pv 0) (pa_cons pe_int (pa_cons (pe_tup (pa_cons pe_str (pa_cons (pe_ix ix_list (pv 0) (pe_un un_neg pe_int) (fun _ _ => rfl)) pa_nil))) pa_nil)))))) (pss_one (ps_if (pt_cmpR op_eq (pe_own O_forms (hr.mono (by omega)) (by rfl) (pa_cons (pe_slice sl_list (pv 0) (po_some (pe_un un_neg pe_int)) po_none) pa_nil)) pe_str (nomark _)) (pss_one (ps_expr (pe_own O_replace_last (hr.mono (by omega)) (by rfl) (pa_cons (pv 0) (pa_cons pe_int (pa_cons (pe_tup (pa_cons pe_str (pa_cons (pe_ix ix_list (pv 0) (pe_un un_neg pe_int) (fun _ _ => rfl)) (pa_cons (pe_ix ix_list (pv 0) (pe_un un_neg pe_int) (fun _ _ => rfl)) (pa_cons (pe_ix ix_list (pv 0) (pe_un un_neg pe_int) (fun _ _ => rfl)) pa_nil))))) pa_nil)))))) pss_nil)))), ?_⟩
  have c2 := cut_end (xs := us.reverse) (k := 1)
  have c6 := cut_end (xs := us.reverse) (k := 5)
  rw [drop_rev] at c2 c6
  refine ⟨_, rfl, _, rfl, _, rfl, h, _, rfl, SqL.of eh, fun p2 hp2 => ?_⟩
  have s2 := same_upd hp2 (.lst (cutV us.reverse (some (-2)) none))
  have e2 : (upd H p2 (.lst (cutV us.reverse (some (-2)) none))) p2 = some (.lst (us.take 2).reverse) := by rw [upd_same, ← c2]; rfl
  have l2 := ((hst.lets.take 2).reverse)
  generalize upd H p2 (.lst (cutV us.reverse (some (-2)) none)) = H2 at s2 e2
  refine ⟨p2, (us.take 2).reverse, ((st.map letter).take 2).reverse, rfl, SqL.of e2, l2.tups s2.tups, ?_, fun H3 s3 => ?_⟩
  · rw [List.length_reverse, List.length_take]
    omega
  have s13 := s2.trans s3
  refine ⟨rfl, _, rfl, ?_⟩
  by_cases t2 : ((st.map letter).take 2).reverse = [61, 110]
  · obtain ⟨n, r, rfl⟩ := two_letters hst.ok t2
    rw [decide_eq_true (show V.str (tx ((_ : List Nat).take 2).reverse) = V.str (Str.ofString "=n") by rw [eq_n, t2])]
    refine iteT ?_
    cases hst with
    | @num _ us1 _ hst1 =>
      cases hst1 with
      | @sg _ us2 _ _ hst2 =>
        have eh3 := s13 _ _ eh
        refine ⟨_, rfl, _, rfl, _, rfl, h, _, -1, .int (n : Int), rfl, rfl, SqL.of eh3, at_end (k := 0) rfl, by show 2 ≤ sizeLine; decide, fun tp htp => ?_⟩
        have s4 := same_upd htp (.tup [.str "told", .int (n : Int)])
        have eh4 := s4 _ _ eh3
        refine ⟨h, 2, .ref tp, _, rfl, eh4, by rw [List.length_reverse]; show 2 ≤ us2.length + 2; omega, by omega, by rw [List.length_reverse]; exact hz, ?_⟩
        refine q _ (.ref tp :: us2) (fun b o z nb => ?_) ?_ ?_
        · rw [upd_ne nb]
          exact s4 _ _ (s13 _ _ z)
        · rw [upd_same, take_rev _ 2 (by show 2 ≤ us2.length + 2; omega), List.reverse_cons]
          rfl
        · refine .tr (.told ?_) (hst2.tups ?_)
          · exact tups_lst eh4 _ _ upd_same
          · exact (s13.tups.trans s4.tups).trans (tups_lst eh4)
  · rw [decide_eq_false (fun z => t2 (by injection z with z; rw [eq_n] at z; exact tx_inj z))]
    refine iteF ?_
    have eh3 := s13 _ _ eh
    refine ⟨_, rfl, _, rfl, _, rfl, h, _, rfl, SqL.of eh3, fun p6 hp6 => ?_⟩
    have s4 := same_upd hp6 (.lst (cutV us.reverse (some (-6)) none))
    have e6 : (upd H3 p6 (.lst (cutV us.reverse (some (-6)) none))) p6 = some (.lst (us.take 6).reverse) := by rw [upd_same, ← c6]; rfl
    have l6 := ((hst.lets.take 6).reverse)
    generalize upd H3 p6 (.lst (cutV us.reverse (some (-6)) none)) = H4 at s4 e6
    have s14 := s13.trans s4
    refine ⟨p6, (us.take 6).reverse, ((st.map letter).take 6).reverse, rfl, SqL.of e6, l6.tups s14.tups, ?_, fun H5 s5 => ?_⟩
    · rw [List.length_reverse, List.length_take]
      omega
    have s15 := s14.trans s5
    have eh5 := s15 _ _ eh
    refine ⟨rfl, _, rfl, ?_⟩
    by_cases t6 : ((st.map letter).take 6).reverse = [110, 40, 116, 44, 116, 41]
    · obtain ⟨f, b, w', r, rfl⟩ := six_letters hst.ok t6
      rw [decide_eq_true (show V.str (tx ((_ : List Nat).take 6).reverse) = V.str (Str.ofString "n(t,t)") by rw [n_tt, t6])]
      refine iteT ?_
      cases hst with
      | sg _ hst =>
      cases hst with
      | @tr vw _ _ _ hw hst =>
      cases hst with
      | sg _ hst =>
      cases hst with
      | @tr vb _ _ _ hb hst =>
      cases hst with
      | sg _ hst =>
      cases hst with
      | @num _ us6 _ hst =>
        refine ⟨_, rfl, _, rfl, _, rfl, h, _, -6, .int (f : Int), rfl, rfl, SqL.of eh5, at_end (k := 5) rfl, _, rfl, _, rfl, h, _, -4, vb, rfl, rfl, SqL.of eh5, at_end (k := 3) rfl, _, rfl, _, rfl, h, _, -2, vw, rfl, rfl, SqL.of eh5, at_end (k := 1) rfl, by show 4 ≤ sizeLine; decide, fun tp htp => ?_⟩
        have s6 := same_upd htp (.tup [.str "drop", .int (f : Int), vb, vw])
        have eh6 := s6 _ _ eh5
        refine ⟨h, 6, .ref tp, _, rfl, eh6, by rw [List.length_reverse]; show 6 ≤ us6.length + 6; omega, by omega, by rw [List.length_reverse]; exact hz, ?_⟩
        refine q _ (.ref tp :: us6) (fun b o z nb => ?_) ?_ ?_
        · rw [upd_ne nb]
          exact s6 _ _ (s15 _ _ z)
        · rw [upd_same, take_rev _ 6 (by show 6 ≤ us6.length + 6; omega), List.reverse_cons]
          rfl
        · refine .tr (.drop ?_ (hb.tups ?_) (hw.tups ?_)) (hst.tups ?_)
          · exact tups_lst eh6 _ _ upd_same
          all_goals exact (s15.tups.trans s6.tups).trans (tups_lst eh6)
    · rw [decide_eq_false (fun z => t6 (by injection z with z; rw [n_tt] at z; exact tx_inj z))]
      refine iteF ?_
      refine q H5 us (fun b o z _ => s15 _ _ z) eh5 ?_
      rw [red_same (fun ⟨n, r, z⟩ => t2 (by rw [z]; rfl)) (fun ⟨f, b, w', r, z⟩ => t6 (by rw [z]; rfl))]
      exact hst.tups s15.tups
theorem in_fig : ∀ c : Nat, c < 128 → (!(Builtin.Str.occurrences (Str.ofString "0123456789") (tx [c]) 0 (Str.ofString "0123456789").length 1).isEmpty) = isFig c := by decide +kernel
theorem in_sig : ∀ c : Nat, c < 128 → (!(Builtin.Str.occurrences (Str.ofString "=(,)") (tx [c]) 0 (Str.ofString "=(,)").length 1).isEmpty) = isSig c := by decide +kernel
theorem str60 : Str.ofString (toString (60 : Int)) = tx [54, 48] := by decide +kernel
theorem t_one : Str.ofString "t" = tx [116] := by decide +kernel
theorem red_len (s : List Pc) : (redR s).length ≤ s.length := by
  unfold redR
  split
  · simp
  · simp
  · exact Nat.le_refl _
theorem fold_len : ∀ (xs : List Pc) (s : List Pc), (xs.foldl stp s).length ≤ s.length + xs.length
  | [], s => by simp
  | x :: xs, s => by
    rw [List.foldl_cons]
    have h1 := fold_len xs (stp s x)
    have h2 : (stp s x).length ≤ s.length + 1 := red_len (x :: s)
    rw [List.length_cons]
    omega
theorem okx_num {cB : Addr} (D : DefAt K mg "number_of" s_number_of ["figures"]) (M_len : mg "len" = none) (M_int : mg "int" = none) (M_str : mg "str" = none) (M_MOST_TREE_FLOORS : mg "MOST_TREE_FLOORS" = some (.int 60 tk)) (M_BadLine : mg "BadLine" = some (.ref cB)) (q_BadLine : PySem.W.excIn K cB [.type "ValueError", .type "Exception", .type "BaseException", .type "object"] "ValueError.__new__" = true) :
    OwnX P w K mg base "number_of" 1 ["figures"] (spNumX cB) := by
  have R_MOST_TREE_FLOORS : RelV (.int 60) (.int 60 tk) := ⟨tk, rfl⟩
  refine ownx_of D sc_number_of (fun vs H Q E h => ?_) (fun f cdv A outer s H vs Q E hr h => ?_)
  · obtain ⟨_, rfl, _⟩ := h
    rfl
  obtain ⟨fs, rfl, h0, hf, hz, q, x⟩ := h
  refine ⟨_, (pss_cons (ps_if (PW.pt (pw_and (pt_val (pe_bm PySem.F.plainAttrs_str PySem.F.slot_str_startswith PySem.F.type_str_startswith mt_starts0 (pv 0) (pa_cons pe_str pa_nil))) (pw_and1 (pt_cmpR op_ne (pv 0) pe_str (nomark _))))) (pss_one (ps_raise rfl raise_E (by rfl) M_BadLine q_BadLine (pe_fany (pj_str (pj_val (pv 0) pj_nil))))) pss_nil) (pss_cons (ps_if (PW.pt (pw_or (pt_cmpR op_gt (pe_callB call_len_str (by rfl) M_len B_len (pa_cons (pv 0) pa_nil)) (pe_callB call_len_str (by rfl) M_len B_len (pa_cons (pe_callTy call_str_int (by rfl) M_str B_str (pa_cons (pe_glob (by rfl) M_MOST_TREE_FLOORS R_MOST_TREE_FLOORS) pa_nil)) pa_nil)) (nomark _)) (pw_or1 (pt_cmpR op_gt (pe_callTy call_int_text (by rfl) M_int B_int (pa_cons (pv 0) pa_nil)) (pe_glob (by rfl) M_MOST_TREE_FLOORS R_MOST_TREE_FLOORS) (nomark _))))) (pss_one (ps_raise rfl raise_E (by rfl) M_BadLine q_BadLine (pe_fany (pj_str (pj_val (pe_glob (by rfl) M_MOST_TREE_FLOORS R_MOST_TREE_FLOORS) (pj_str (pj_val (pv 0) pj_nil))))))) pss_nil) (PSs.nox (pss_one (ps_ret (pe_callTy call_int_text (by rfl) M_int B_int (pa_cons (pv 0) pa_nil))))))), ?_⟩
  refine ⟨_, rfl, rfl, fs, rfl, rfl, _, rfl, ?_⟩
  rcases figs_fate hf h0 with ⟨b, r, e, no⟩ | ⟨n1, n2⟩
  · rw [e] at no ⊢
    refine iteT ⟨_, rfl, rfl, _, rfl, ite2 (fun c => ?_) (fun c => absurd (by
      have y : tx (48 :: b :: r) ≠ tx [48] := fun z => by
        have := congrArg List.length (tx_inj z)
        simp at this
      have y' : V.str (tx (48 :: b :: r)) ≠ V.str (Str.ofString "0") := fun z => by
        injection z with z
        exact y z
      simp [y']) c)⟩
    exact ⟨_, rfl, by show (tx (48 :: b :: r)).length ≤ 1900; rw [tx_len, ← e]; omega, fun _ => by rw [e] at x; exact x no⟩
  apply ite_rst
  case h2 =>
    intro _ kk
    exact iteF kk
  case h1 =>
    intro c kk
    have c2 : fs = [48] := Classical.byContradiction fun z => n1 ⟨by simpa using c, z⟩
    refine ⟨_, rfl, rfl, _, rfl, ite2 (fun c' => absurd c' ?_) (fun _ => kk)⟩
    rw [c2]
    rw [decide_eq_true (show V.str (tx [48]) = V.str (Str.ofString "0") from rfl)]
    decide
  case hR =>
    refine ⟨_, rfl, _, rfl, ?_, _, rfl, log60 (by omega) (by omega), _, rfl, ?_, _, _, rfl, rfl, _, rfl, ?_⟩
    · rw [tx_len]; exact small_size (by omega)
    · exact PySem.int_text_fits (log60 (by omega) (by omega))
    rw [str60, tx_len, tx_len]
    have ff : (tx fs).length ≤ 1900 := by rw [tx_len]; omega
    have f60 : FmtA (.int 60) := (sm_small (by omega) (by omega)).fmt
    rcases n2 with ⟨h2, no⟩ | ⟨n, hn, e⟩
    · rw [decide_eq_true (show (([54, 48] : List Nat).length : Int) < fs.length by show (2 : Int) < _; omega)]
      exact iteT (iteT ⟨f60, _, rfl, ff, fun _ => x no⟩)
    · have dl := dg_len n
      rw [decide_eq_false (show ¬ (([54, 48] : List Nat).length : Int) < fs.length by rw [e]; show ¬ (2 : Int) < _; omega)]
      refine iteF ⟨_, rfl, _, _, rfl, by rw [tx_len, e]; omega, by rw [e]; exact reads99 hn, _, _, rfl, rfl, _, rfl, ?_⟩
      by_cases c : n ≤ 60
      · rw [decide_eq_false (by omega)]
        exact iteF ⟨_, rfl, _, _, rfl, by rw [tx_len, e]; omega, by rw [e]; exact reads99 hn, q n c e⟩
      · rw [decide_eq_true (by omega)]
        exact iteT ⟨f60, _, rfl, ff, fun _ => x fun m hm z => by
          rw [e] at z
          have dd : dg n = dg m := z
          have : ∀ n m : Nat, n < 100 → m < 100 → dg n = dg m → n = m := fun n m h1 h2 z => by
            have a := reads99 h1
            rw [z, reads99 h2] at a
            have := Option.some.inj a
            omega
          have := this n m hn (by omega) dd
          omega⟩
theorem okx_add {cB : Addr} (D : DefAt K mg "add_number" s_add_number ["pieces", "figures"]) (O_number_of : OwnX P w K mg base "number_of" 1 ["figures"] (spNumX cB)) : OwnX P w K mg base "add_number" 2 ["pieces", "figures"] (spAddX cB) := by
  refine ownx_of D sc_add_number (fun vs H Q E h => ?_) (fun f cdv A outer s H vs Q E hr h => ?_)
  · obtain ⟨_, _, _, rfl, _⟩ := h
    rfl
  obtain ⟨l, xs, fs, rfl, el, hz, hf, hzf, q0, q, x⟩ := h
  refine ⟨_, (pss_one (ps_if (pt_cmpR op_ne (pv 1) pe_str (nomark _)) (pss_one (ps_expr (pe_bm PySem.F.plainAttrs_list PySem.F.slot_list_append PySem.F.type_list_append mt_append (pv 0) (pa_cons (pe_ownx O_number_of pass_E (hr.mono (by omega)) (by rfl) (pa_cons (pv 1) pa_nil)) pa_nil)))) pss_nil)), ?_⟩
  refine ⟨_, rfl, rfl, _, rfl, ?_⟩
  by_cases c : fs = []
  · subst c
    exact iteNS rfl (q0 rfl)
  · rw [decide_eq_false (fun z => by
      injection z with z
      exact c (tx_inj (show tx fs = tx [] from z)))]
    refine iteT ?_
    refine ⟨_, rfl, .inl ⟨rfl, _, SqL.of el⟩, _, rfl, fs, rfl, c, hf, hzf, fun n hn e => ?_, fun no => x c no⟩
    exact ⟨l, xs, _, rfl, rfl, el, lt_size (by omega), q n hn e⟩
theorem rep_len : ∀ c : Nat, c < 128 → (reprText (tx [c])).length ≤ 1900 := by decide +kernel
theorem okx_pcs {cB : Addr} (D : DefAt K mg "pieces_of" s_pieces_of ["text"]) (M_FIGURES : mg "FIGURES" = some (.str "0123456789" tk)) (tk2 : Tok) (M_SIGNS : mg "SIGNS" = some (.str "=(,)" tk2)) (M_BadLine : mg "BadLine" = some (.ref cB)) (q_BadLine : PySem.W.excIn K cB [.type "ValueError", .type "Exception", .type "BaseException", .type "object"] "ValueError.__new__" = true)
    (O_add_number : OwnX P w K mg base "add_number" 2 ["pieces", "figures"] (spAddX cB)) : OwnX P w K mg base "pieces_of" 3 ["text"] (spPcsX cB) := by
  have R_FIGURES : RelV (.str "0123456789") (.str "0123456789" tk) := ⟨tk, rfl⟩
  have R_SIGNS : RelV (.str "=(,)") (.str "=(,)" tk2) := ⟨tk2, rfl⟩
  refine ownx_of D sc_pieces_of (fun vs H Q E h => ?_) (fun f cdv A outer s H vs Q E hr h => ?_)
  · obtain ⟨_, rfl, _⟩ := h
    rfl
  obtain ⟨z, rfl, h128, hz, q, x⟩ := h
  have nd := sc_pieces_of.nd
  refine ⟨_, (pss_cons (ps_set (i := 1) nd rfl (Or.inl rfl) (pe_lst pa_nil)) (pss_cons (ps_set (i := 2) nd rfl (Or.inl rfl) pe_str) (pss_cons (ps_for PassesOwn.leaving rfl (pi_text (pv 0)) (pg_name (i := 3) nd rfl (Or.inl rfl)) (pss_one (ps_if (pt_cmpR op_in_str (pv 3) (pe_glob (by rfl) M_FIGURES R_FIGURES) (by with_unfolding_all rfl)) (PSs.nox (pss_one (ps_set (i := 2) nd rfl (Or.inl rfl) (pe_op op_add_str (pv 2) (pv 3))))) (pss_one (ps_if (pt_cmpR op_in_str (pv 3) (pe_glob (by rfl) M_SIGNS R_SIGNS) (by with_unfolding_all rfl)) (pss_cons (ps_expr (pe_ownx O_add_number pass_E (hr.mono (by omega)) (by rfl) (pa_cons (pv 1) (pa_cons (pv 2) pa_nil)))) (PSs.nox (pss_cons (ps_set (i := 2) nd rfl (Or.inl rfl) pe_str) (pss_one (ps_expr (pe_bm PySem.F.plainAttrs_list PySem.F.slot_list_append PySem.F.type_list_append mt_append (pv 1) (pa_cons (pv 3) pa_nil))))))) (pss_one (ps_raise rfl raise_E (by rfl) M_BadLine q_BadLine (pe_fany (pj_str (pj_repr (pv 3) pj_nil)))))))))) (pss_cons (ps_expr (pe_ownx O_add_number pass_E (hr.mono (by omega)) (by rfl) (pa_cons (pv 1) (pa_cons (pv 2) pa_nil)))) (PSs.nox (pss_one (ps_ret (pv 1)))))))), ?_⟩
  refine ⟨by show 0 ≤ sizeLine; decide, fun l hl => ?_⟩
  refine ⟨_, rfl, z, rfl, h128, ?_⟩
  have l_ne : ∀ b o, H b = some o → b ≠ l := fun b o e => ne_of_none e hl
  refine for_text (fun i σ H' => ∃ qs fs c3, σ = [some (.str (tx z)), some (.ref l), some (.str (tx fs)), c3] ∧ Same H H' ∧ H' l = some (.lst (qs.map pcV)) ∧ (∀ r, Lex z [] [] r ↔ Lex (z.drop i) qs fs r) ∧ qs.length ≤ 2 * i ∧ fs.length ≤ i ∧ Fgs fs)
    ⟨[], [], none, rfl, same_upd hl _, upd_same, fun r => Iff.rfl, Nat.zero_le _, Nat.zero_le _, fun c hc => by cases hc⟩ ?_ ?_
  · rintro i c σ H1 hc ⟨qs, fs, c3, rfl, s1, e1, hx, hq, hf, hfg⟩
    have hi : i < z.length := (List.getElem?_eq_some_iff.mp hc).1
    have hd : z.drop i = c :: z.drop (i + 1) := by
      rw [List.drop_eq_getElem_cons hi]
      congr 1
      exact Option.some.inj ((List.getElem?_eq_getElem hi).symm.trans hc)
    have c128 := h128 c (List.mem_of_getElem? hc)
    rw [hd] at hx
    refine ⟨_, rfl, _, _, rfl, rfl, _, rfl, ?_⟩
    rw [in_fig c c128]
    cases h1 : isFig c with
    | true =>
      refine iteT ⟨_, rfl, _, rfl, tx fs, tx [c], rfl, rfl, ?_, ?_⟩
      · rw [tx_len, tx_len]
        exact small_size (by simp only [List.length_cons, List.length_nil]; omega)
      rw [tx_app]
      refine ⟨qs, fs ++ [c], _, rfl, s1, e1, fun r => (hx r).trans (lex_fig h1), by omega, by rw [List.length_append]; show fs.length + 1 ≤ i + 1; omega, fun k hk => ?_⟩
      rcases List.mem_append.mp hk with hk | hk
      · exact hfg k hk
      · rcases List.mem_singleton.mp hk with rfl
        exact h1
    | false =>
      refine iteF ⟨_, rfl, _, _, rfl, rfl, _, rfl, ?_⟩
      rw [in_sig c c128]
      cases h2 : isSig c with
      | false =>
        refine iteF ?_
        exact ⟨_, rfl, ⟨_, rfl, rep_len c c128⟩, fun _ => x (fun r lx => lex_odd h1 h2 ((hx r).mp lx)) H1 s1⟩
      | true =>
        refine iteT ?_
        refine ⟨_, rfl, _, rfl, l, _, fs, rfl, e1, by rw [List.length_map]; omega, hfg, by omega, fun f0 => ?_, fun n hn fn => ?_, fun f0 no => x (fun r lx => lex_sigX h2 f0 no ((hx r).mp lx)) H1 s1⟩
        · subst f0
          refine ⟨_, rfl, .inl ⟨rfl, _, SqL.of e1⟩, _, rfl, l, _, _, rfl, rfl, e1, by rw [List.length_map]; exact lt_size (by omega), ?_⟩
          refine ⟨qs ++ [.sg c], [], _, rfl, fun b o e => ?_, ?_, fun r => (hx r).trans (lex_sig0 h2), by rw [List.length_append]; show qs.length + 1 ≤ _; omega, Nat.zero_le _, fun k hk => by cases hk⟩
          · rw [upd_ne (l_ne b o e)]
            exact s1 b o e
          · rw [upd_same, List.map_append]
            rfl
        · subst fn
          refine ⟨_, rfl, .inl ⟨rfl, _, SqL.of upd_same⟩, _, rfl, l, _, _, rfl, rfl, upd_same, by rw [List.length_append, List.length_map]; exact lt_size (by show qs.length + 1 ≤ _; omega), ?_⟩
          refine ⟨qs ++ [.num n] ++ [.sg c], [], _, rfl, fun b o e => ?_, ?_, fun r => (hx r).trans (lex_sigN h2 hn), by rw [List.length_append, List.length_append]; show qs.length + 1 + 1 ≤ _; omega, Nat.zero_le _, fun k hk => by cases hk⟩
          · rw [upd_ne (l_ne b o e), upd_ne (l_ne b o e)]
            exact s1 b o e
          · rw [upd_same, List.map_append, List.map_append]
            rfl
  · rintro σ H1 ⟨qs, fs, c3, rfl, s1, e1, hx, hq, hf, hfg⟩
    rw [List.drop_length] at hx
    refine ⟨_, rfl, _, rfl, l, _, fs, rfl, e1, by rw [List.length_map]; omega, hfg, by omega, fun f0 => ?_, fun n hn fn => ?_, fun f0 no => x (fun r lx => lex_endX f0 no ((hx r).mp lx)) H1 s1⟩
    · subst f0
      exact ⟨_, rfl, q qs l H1 (fun r => (hx r).trans lex_end0) s1 hl e1⟩
    · subst fn
      refine ⟨_, rfl, q (qs ++ [.num n]) l _ (fun r => (hx r).trans (lex_endN hn)) (fun b o e => ?_) hl ?_⟩
      · rw [upd_ne (l_ne b o e)]
        exact s1 b o e
      · rw [upd_same, List.map_append]
        rfl
def pcOk : Pc → Prop
  | .num _ => True
  | .sg c => isSig c = true
  | .tr _ => False
theorem lex_pcok {z : List Nat} {ps : List Pc} {fs : List Nat} {r : List Pc} (l : Lex z ps fs r) : ((∀ x ∈ ps, pcOk x) → ∀ x ∈ r, pcOk x) ∧ r.length ≤ ps.length + fs.length + z.length := by
  induction l with
  | done => exact ⟨fun h => h, by omega⟩
  | @last ps n hn =>
    refine ⟨fun h x hx => ?_, by have := dg_len n; rw [List.length_append]; show ps.length + 1 ≤ _; omega⟩
    rcases List.mem_append.mp hx with hx | hx
    · exact h x hx
    · rcases List.mem_singleton.mp hx with rfl
      trivial
  | fig h _ ih =>
    refine ⟨ih.1, ?_⟩
    have := ih.2
    rw [List.length_append] at this
    rw [List.length_cons]
    simp only [List.length_cons, List.length_nil] at this
    omega
  | @sgn c z ps r h _ ih =>
    refine ⟨fun hp => ih.1 fun x hx => ?_, ?_⟩
    · rcases List.mem_append.mp hx with hx | hx
      · exact hp x hx
      · rcases List.mem_singleton.mp hx with rfl
        exact h
    · have := ih.2
      rw [List.length_append] at this
      simp only [List.length_cons, List.length_nil] at this ⊢
      omega
  | @sgnN c n z ps r h hn _ ih =>
    refine ⟨fun hp => ih.1 fun x hx => ?_, ?_⟩
    · rcases List.mem_append.mp hx with hx | hx
      · rcases List.mem_append.mp hx with hx | hx
        · exact hp x hx
        · rcases List.mem_singleton.mp hx with rfl
          trivial
      · rcases List.mem_singleton.mp hx with rfl
        exact h
    · have := ih.2
      have dl := dg_len n
      rw [List.length_append, List.length_append] at this
      simp only [List.length_cons, List.length_nil] at this ⊢
      omega
theorem one_tr {S : List Pc} (ok : ∀ x ∈ S, sgOk x) (e : S.map letter = [116]) : ∃ p, S = [.tr p] := by
  cases S with
  | nil => cases e
  | cons a r =>
    cases r with
    | nil =>
      obtain ⟨p, rfl⟩ := let_tr (ok a (List.mem_cons_self ..)) (by simpa using e)
      exact ⟨p, rfl⟩
    | cons b r => simp at e
theorem okx_read {cB : Addr} (D : DefAt K mg "read" s_read ["text"]) (M_BadLine : mg "BadLine" = some (.ref cB)) (q_BadLine : PySem.W.excIn K cB [.type "ValueError", .type "Exception", .type "BaseException", .type "object"] "ValueError.__new__" = true)
    (O_pieces_of : OwnX P w K mg base "pieces_of" 3 ["text"] (spPcsX cB)) (O_make_last : Own P w K mg base "make_last" 3 ["held"] spLast) (O_forms : Own P w K mg base "forms" 2 ["pieces"] (spForms K)) : OwnX P w K mg base "read" 4 ["text"] (spRdX cB) := by
  refine ownx_of D sc_read (fun vs H Q E h => ?_) (fun f cdv A outer s H vs Q E hr h => ?_)
  · obtain ⟨_, rfl, _⟩ := h
    rfl
  obtain ⟨z, rfl, h128, hz, q, x⟩ := h
  have nd := sc_read.nd
  refine ⟨_, (pss_cons (ps_set (i := 1) nd rfl (Or.inl rfl) (pe_lst pa_nil)) (pss_cons (ps_for PassesOwn.leaving rfl (pi_list (pe_ownx O_pieces_of pass_E (hr.mono (by omega)) (by rfl) (pa_cons (pv 0) pa_nil))) (pg_name (i := 2) nd rfl (Or.inl rfl)) (PSs.nox (pss_cons (ps_expr (pe_bm PySem.F.plainAttrs_list PySem.F.slot_list_append PySem.F.type_list_append mt_append (pv 1) (pa_cons (pv 2) pa_nil))) (pss_one (ps_expr (pe_own O_make_last (hr.mono (by omega)) (by rfl) (pa_cons (pv 1) pa_nil))))))) (pss_cons (ps_if (pt_cmpR op_ne (pe_own O_forms (hr.mono (by omega)) (by rfl) (pa_cons (pv 1) pa_nil)) pe_str (nomark _)) (pss_one (ps_raise rfl raise_E (by rfl) M_BadLine q_BadLine pe_str)) pss_nil) (PSs.nox (pss_one (ps_ret (pe_ix ix_list (pv 1) pe_int (fun _ _ => rfl)))))))), ?_⟩
  refine ⟨by show 0 ≤ sizeLine; decide, fun h hh => ?_⟩
  have s0 := same_upd hh (.lst [])
  refine ⟨_, rfl, z, rfl, h128, hz, fun ps l H1 hL s1 nl el => ?_, fun no H1 s1 => x (read_no no) H1 (s0.trans s1)⟩
  have nlh : l ≠ h := fun z => by rw [z, upd_same] at nl; cases nl
  obtain ⟨hok, hlen0⟩ := lex_pcok ((hL ps).mpr rfl)
  have hok := hok fun x hx => by cases hx
  have hpl : ps.length ≤ 1000 := by
    simp only [List.length_nil] at hlen0
    omega
  refine ⟨l, rfl, ⟨_, SqL.of el⟩, ?_⟩
  refine for_list (xs := ps.map pcV) (fun i σ H' => ∃ us c2, σ = [some (.str (tx z)), some (.ref h), c2] ∧ (∀ b o, H1 b = some o → b ≠ h → H' b = some o) ∧ H' h = some (.lst us.reverse) ∧ StkIn H' us ((ps.take i).foldl stp []))
    ⟨[], none, rfl, fun b o e _ => e, s1 _ _ upd_same, .nil⟩ (fun i σ H' _ h' => ?_) ?_ ?_
  · obtain ⟨us, c2, _, k1, _, _⟩ := h'
    exact SqL.of (k1 _ _ el nlh)
  · rintro i y σ H2 hi ⟨us, c2, rfl, k2, e2, hst⟩
    rw [List.getElem?_map] at hi
    cases hy : ps[i]? with
    | none => rw [hy] at hi; cases hi
    | some x =>
      rw [hy] at hi
      have ey : y = pcV x := (Option.some.inj hi).symm
      subst ey
      have hi' : i < ps.length := (List.getElem?_eq_some_iff.mp hy).1
      have hok := hok x (List.mem_of_getElem? hy)
      have hlen : us.length ≤ i := by
        rw [hst.len]
        have := fold_len (ps.take i) []
        rw [List.length_take, List.length_nil] at this
        omega
      refine ⟨_, rfl, .inl ⟨rfl, _, SqL.of e2⟩, _, rfl, h, _, _, rfl, rfl, e2, by rw [List.length_reverse]; exact lt_size (by omega), ?_⟩
      have eu : us.reverse ++ [pcV x] = (pcV x :: us).reverse := by rw [List.reverse_cons]
      have tt : TupS H2 (upd H2 h (.lst (us.reverse ++ [pcV x]))) := tups_lst e2
      have hst2 : StkIn (upd H2 h (.lst (us.reverse ++ [pcV x]))) (pcV x :: us) (x :: (ps.take i).foldl stp []) := by
        cases x with
        | num n => exact .num (hst.tups tt)
        | sg c => exact .sg hok (hst.tups tt)
        | tr t => exact hok.elim
      refine ⟨_, rfl, h, pcV x :: us, _, rfl, by rw [upd_same, eu], hst2, by rw [List.length_cons]; omega, fun H3 us3 k3 e3 hst3 => ?_⟩
      refine ⟨us3, _, rfl, fun b o e nb => k3 b o (by rw [upd_ne nb]; exact k2 b o e nb) nb, e3, ?_⟩
      rw [List.take_succ, hy]
      show StkIn H3 us3 ((ps.take i ++ [x]).foldl stp [])
      rw [List.foldl_append]
      exact hst3
  · rintro σ H2 ⟨us, c2, rfl, k2, e2, hst⟩
    rw [List.length_map, List.take_length] at hst
    have iff := fun p => read_iff hL p
    generalize hs : ps.foldl stp [] = S at hst iff
    have hSl : us.length ≤ 1000 := by
      rw [hst.len, ← hs]
      have := fold_len ps []
      rw [List.length_nil] at this
      omega
    have sH : Same H H2 := fun b o e => k2 b o (s1 _ _ (s0 _ _ e)) (ne_of_none e hh)
    refine ⟨_, rfl, h, us.reverse, _, rfl, SqL.of e2, hst.lets.reverse, by rw [List.length_reverse]; omega, fun H3 s3 => ?_⟩
    refine ⟨rfl, _, rfl, ?_⟩
    by_cases c : ∃ p, S = [.tr p]
    · obtain ⟨p, rfl⟩ := c
      have hp := (iff p).mp rfl
      cases hst with
      | @tr v _ us1 _ hT hst1 =>
        cases hst1
        refine iteNS (by rw [t_one]; rfl) ?_
        refine ⟨_, rfl, h, _, 0, v, rfl, rfl, SqL.of (s3 _ _ e2), rfl, ?_⟩
        exact q p v H3 hp.1 hp.2 (sH.trans s3) (hT.same s3)
    · have ne : V.str (tx (S.map letter).reverse) ≠ V.str (Str.ofString "t") := fun y => by
        injection y with y
        rw [t_one] at y
        have y' := tx_inj y
        have y2 : S.map letter = [116] := by
          have := congrArg List.reverse y'
          simpa using this
        exact c (one_tr hst.ok y2)
      rw [decide_eq_false ne]
      exact iteT (x (fun p hp => c ⟨p, (iff p).mpr hp⟩) H3 (sH.trans s3))
def blL : List V := [.bl false, .bl false, .bl false, .bl true, .bl true]
def spTold : Sp := fun vs H Q _ => ∃ z : List Nat, vs = [.str (tx z)] ∧ (∀ c ∈ z, c < 128) ∧ z.length ≤ 1000 ∧ (∀ (p : Tr) (v : V) (H' : Hp), z = shT p → flIn 0 60 p → Same H H' → TrIn H' v p → Q v H') ∧ ((∀ p, ¬ (z = shT p ∧ flIn 0 60 p)) → ∀ (H' : Hp) (y : Addr), Same H H' → H' y = some (.lst blL) → Q (.ref y) H')
theorem ok_told {cF cN cP cL cB : Addr} (D : DefAt K mg "_law_told" s__law_told ["text"]) (M_FloorError : mg "FloorError" = some (.ref cF)) (k_FloorError : XKind K cF cF) (kB : XKind K cF cB) (xB : XCls K cB)
    (b1 : PySem.W.kitOne K (.ref cB) (.ref cN) = some false) (b2 : PySem.W.kitOne K (.ref cB) (.ref cP) = some false) (b3 : PySem.W.kitOne K (.ref cB) (.ref cL) = some false) (b4 : PySem.W.kitOne K (.ref cB) (.ref cB) = some true) (b5 : PySem.W.kitOne K (.ref cB) (.type "ValueError") = some true)
    (O_read : OwnX P w K mg base "read" 4 ["text"] (spRdX cB)) (O__law_which : OwnH P w K mg base "_law_which" 1 ["e"] (spWhich K cN cP cL cB)) : Own P w K mg base "_law_told" 6 ["text"] spTold := by
  refine OwnX.own (ownx_of D sc__law_told (fun vs H Q E h => ?_) (fun f cdv A outer s H vs Q E hr h => ?_)) (fun vs H Q E h => h)
  · obtain ⟨_, rfl, _⟩ := h
    rfl
  obtain ⟨z, rfl, h128, hz, q, x⟩ := h
  have nd := sc__law_told.nd
  refine ⟨_, (pss_cons (ps_set (i := 1) nd rfl (Or.inl rfl) pe_non) (pss_cons (ps_try (i := 2) nd rfl rfl rfl rfl (by rfl) M_FloorError k_FloorError rfl (fun xe pn E' pE => (pss_one (ps_set (i := 1) nd rfl (Or.inl rfl) (pe_ownx O_read pE (hr.mono (by omega)) (by rfl) (pa_cons (pv 0) pa_nil))))) (fun a0 => (pss_one (ps_set (i := 1) nd rfl (Or.inl rfl) (pe_ownH O__law_which ((hr.mono (by omega)).h.marked _) (by rfl) (pa_cons (pv 2) pa_nil)))))) (PSs.nox (pss_one (ps_ret (pv 1)))))), ?_⟩
  refine ⟨_, rfl, z, rfl, h128, hz, fun p v H' e hp s1 hT => ?_, fun no H' s1 => ?_⟩
  · exact ⟨v, rfl, q p v H' e hp s1 hT⟩
  · refine ⟨cB, rfl, kB, fun a σ hσ ha => ?_⟩
    have hσ' : σ.length = 3 := hσ
    refine ⟨.ref a, by rw [List.getElem?_set_self (by omega)], a, cB, false, false, false, true, rfl, upd_same, xB, b1, b2, b3, b4, b5, fun H2 y s2 el => ?_⟩
    exact ⟨.ref y, by rw [List.getElem?_set_ne (by decide), List.getElem?_set_self (by simp only [List.length_set]; omega)], x no H2 y (s1.trans ((same_upd ha _).trans s2)) el⟩
theorem span_figs : ∀ y : List Nat, ∃ fs r, y = fs ++ r ∧ Fgs fs ∧ noFig r
  | [] => ⟨[], [], rfl, (fun c hc => nomatch hc : Fgs []), trivial⟩
  | c :: y => by
    cases h : isFig c with
    | false => exact ⟨[], c :: y, rfl, (fun c hc => nomatch hc : Fgs []), h⟩
    | true =>
      obtain ⟨fs, r, e, hf, hr⟩ := span_figs y
      refine ⟨c :: fs, r, by rw [e]; rfl, fun k hk => ?_, hr⟩
      rcases List.mem_cons.mp hk with rfl | hk
      · exact h
      · exact hf k hk
theorem at0 {c : Nat} {l : List Nat} : atI (c :: l) 0 = some c := by
  unfold atI ixN
  rw [if_pos (by omega), if_pos (by rw [List.length_cons]; omega)]
  rfl
def spEnd : Sp := fun vs H Q _ => ∃ (z : List Nat) (a : Nat) (fs r : List Nat), vs = [.str (tx z), .int (a : Int)] ∧ (∀ c ∈ z, c < 128) ∧ z.length ≤ 1000 ∧ a ≤ z.length ∧ z.drop a = fs ++ r ∧ Fgs fs ∧ noFig r ∧ (∀ n : Nat, n ≤ 60 → fs = dg n → Q (.int ((a + fs.length : Nat) : Int)) H) ∧ ((∀ n, n ≤ 60 → fs ≠ dg n) → Q (.int (-1)) H)
theorem ok_end (D : DefAt K mg "_law_end" s__law_end ["text", "at"]) (M_len : mg "len" = none) (M_int : mg "int" = none) : Own P w K mg base "_law_end" 1 ["text", "at"] spEnd := by
  refine own_of D sc__law_end (fun vs H Q E h => ?_) (fun f cdv A outer s H vs Q E hr h => ?_)
  · obtain ⟨_, _, _, _, rfl, _⟩ := h
    rfl
  obtain ⟨z, a, fs, r, rfl, h128, hz, ha, hd, hf, hn, q, x⟩ := h
  have nd := sc__law_end.nd
  have hlz : a + fs.length + r.length = z.length := by
    have := congrArg List.length hd
    rw [List.length_drop, List.length_append] at this
    omega
  have hzs : (tx z).length ≤ sizeLine := by rw [tx_len]; exact small_size (by omega)
  refine ⟨_, (pss_cons (ps_set (i := 2) nd rfl (Or.inl rfl) (pv 1)) (pss_cons (ps_while PassesOwn.never (PW.pt (pw_and (pt_cmpR op_lt (pv 2) (pe_callB call_len_str (by rfl) M_len B_len (pa_cons (pv 0) pa_nil)) (nomark _)) (pw_and1 (pt_cmpR op_in_str (pe_ix ix_str (pv 0) (pv 2) (fun _ _ => rfl)) pe_str (by with_unfolding_all rfl))))) (pss_one (ps_set (i := 2) nd rfl (Or.inl rfl) (pe_op op_add (pv 2) pe_int)))) (pss_cons (ps_set (i := 3) nd rfl (Or.inl rfl) (pe_slice sl_str (pv 0) (po_some (pv 1)) (po_some (pv 2)))) (pss_cons (ps_if (PW.pt (pw_or (pt_cmpR op_lt (pe_callB call_len_str (by rfl) M_len B_len (pa_cons (pv 3) pa_nil)) pe_int (nomark _)) (pw_or (pt_cmpR op_gt (pe_callB call_len_str (by rfl) M_len B_len (pa_cons (pv 3) pa_nil)) pe_int (nomark _)) (pw_or (PW.pt (pw_and (pt_cmpR op_gt (pe_callB call_len_str (by rfl) M_len B_len (pa_cons (pv 3) pa_nil)) pe_int (nomark _)) (pw_and1 (pt_cmpR op_eq (pe_ix ix_str (pv 3) pe_int (fun _ _ => rfl)) pe_str (nomark _))))) (pw_or1 (pt_cmpR op_gt (pe_callTy call_int_text (by rfl) M_int B_int (pa_cons (pv 3) pa_nil)) pe_int (nomark _))))))) (pss_one (ps_ret (pe_un un_neg pe_int))) pss_nil) (pss_one (ps_ret (pv 2))))))), ?_⟩
  refine ⟨_, rfl, ?_⟩
  refine ⟨fun m σ H' => ∃ j : Nat, j ≤ fs.length ∧ m = fs.length - j ∧ σ = [some (.str (tx z)), some (.int (a : Int)), some (.int ((a + j : Nat) : Int)), none] ∧ H' = H, ⟨_, 0, Nat.zero_le _, rfl, rfl, rfl⟩, ?_⟩
  rintro m σ H' ⟨j, hj, rfl, rfl, rfl⟩
  refine ⟨_, rfl, _, rfl, _, rfl, hzs, _, _, rfl, rfl, _, rfl, ?_⟩
  rw [tx_len]
  have at_z : ∀ c, (fs ++ r)[j]? = some c → atI z (((a + j : Nat) : Int)) = some c := fun c hc => by
    rw [← hd, List.getElem?_drop] at hc
    have hl := (List.getElem?_eq_some_iff.mp hc).1
    unfold atI ixN
    rw [if_pos (by omega), if_pos (by omega)]
    show z[((a + j : Nat) : Int).toNat]? = some c
    rw [show ((a + j : Nat) : Int).toNat = a + j by omega]
    exact hc
  have c128 : ∀ c, (fs ++ r)[j]? = some c → c < 128 := fun c hc => by
    rw [← hd] at hc
    exact h128 c (List.mem_of_mem_drop (List.mem_of_getElem? hc))
  rcases Nat.lt_or_ge j fs.length with hlt | hge
  · have hc : (fs ++ r)[j]? = some fs[j] := by rw [List.getElem?_append_left hlt, List.getElem?_eq_getElem hlt]
    have hfig : isFig fs[j] = true := hf _ (List.getElem_mem hlt)
    have hz' := at_z _ hc
    have h8 := c128 _ hc
    generalize fs[j] = c at hfig hz' h8
    rw [decide_eq_true (by omega)]
    refine iteT ⟨_, rfl, _, rfl, tx z, _, c, rfl, rfl, hzs, hz', _, _, rfl, rfl, _, rfl, ?_⟩
    rw [show (!(Builtin.Str.occurrences (Str.ofString "0123456789") ⟨#[c]⟩ 0 (Str.ofString "0123456789").length 1).isEmpty) = true from (in_fig c h8).trans hfig]
    refine iteT ⟨fun σ' H' => σ' = [some (.str (tx z)), some (.int (a : Int)), some (.int ((a + (j + 1) : Nat) : Int)), none] ∧ H' = _, fun σ' H' ⟨e1, e2⟩ => ⟨fs.length - (j + 1), by omega, j + 1, by omega, rfl, e1, e2⟩, _, rfl, _, _, rfl, rfl, ?_⟩
    refine ⟨?_, rfl⟩
    show [some (V.str (tx z)), some (V.int (a : Int)), some (V.int (((a + j : Nat) : Int) + 1)), none] = _
    rw [show ((a + j : Nat) : Int) + 1 = ((a + (j + 1) : Nat) : Int) by omega]
  have ej : j = fs.length := by omega
  subst ej
  apply ite_rst
  case h2 =>
    intro _ kk
    exact kk
  case h1 =>
    intro c kk
    have c' : a + fs.length < z.length := by
      have := of_decide_eq_true c
      omega
    cases r with
    | nil => exact absurd hlz (by rw [List.length_nil]; omega)
    | cons c r =>
      have hc : (fs ++ c :: r)[fs.length]? = some c := by rw [List.getElem?_append_right (Nat.le_refl _), Nat.sub_self]; rfl
      refine ⟨_, rfl, _, rfl, tx z, _, c, rfl, rfl, hzs, at_z _ hc, _, _, rfl, rfl, _, rfl, ?_⟩
      rw [show (!(Builtin.Str.occurrences (Str.ofString "0123456789") ⟨#[c]⟩ 0 (Str.ofString "0123456789").length 1).isEmpty) = false from (in_fig c (c128 _ hc)).trans hn]
      exact kk
  case hR =>
    refine iteF ⟨_, rfl, _, rfl, _, rfl, _, rfl, _, rfl, z, a, a + fs.length, rfl, by rw [← tx_len z]; exact hzs, .inl rfl, .inl rfl, ?_⟩
    rw [show (z.drop a).take (a + fs.length - a) = fs by rw [hd, Nat.add_sub_cancel_left]; simp]
    have L : (tx fs).length ≤ sizeLine := by rw [tx_len]; exact small_size (by omega)
    refine ⟨_, rfl, _, rfl, L, _, _, rfl, rfl, _, rfl, ?_⟩
    rw [tx_len]
    by_cases c0 : fs = []
    · rw [decide_eq_true (show ((fs.length : Nat) : Int) < 1 by rw [c0]; decide)]
      exact iteT (iteT ⟨_, rfl, x fun n hn => by rw [c0]; exact fun y => dg_ne n y.symm⟩)
    have l1 : 1 ≤ fs.length := Nat.pos_of_ne_zero fun y => c0 (List.length_eq_zero_iff.mp y)
    rw [decide_eq_false (by omega)]
    refine iteF ⟨_, rfl, _, rfl, L, _, _, rfl, rfl, _, rfl, ?_⟩
    rw [tx_len]
    by_cases c2 : 2 < fs.length
    · rw [decide_eq_true (by omega)]
      exact iteT (iteT ⟨_, rfl, x fun n hn y => by have := dg_len2 n; rw [← y] at this; omega⟩)
    rw [decide_eq_false (by omega)]
    refine iteF ⟨_, rfl, _, rfl, L, _, _, rfl, rfl, _, rfl, ?_⟩
    rw [tx_len]
    rcases figs_fate hf c0 with ⟨b, r', e, no⟩ | ⟨n1, n2⟩
    · rw [decide_eq_true (show (1 : Int) < fs.length by rw [e]; simp only [List.length_cons]; omega)]
      refine iteT ⟨_, rfl, tx fs, _, 48, rfl, rfl, L, by rw [e]; exact at0, rfl, _, rfl, ?_⟩
      rw [decide_eq_true (show V.str ⟨#[48]⟩ = V.str (Str.ofString "0") from rfl)]
      exact iteT (iteT ⟨_, rfl, x no⟩)
    · obtain ⟨n, hn99, en⟩ : ∃ n, n < 100 ∧ fs = dg n := by
        rcases n2 with ⟨y, _⟩ | y
        · exact absurd y c2
        · exact y
      apply ite_rst
      case h2 =>
        intro _ kk
        exact kk
      case h1 =>
        intro c kk
        have c' : 1 < fs.length := by
          have := of_decide_eq_true c
          omega
        obtain ⟨a0, b0, e⟩ : ∃ a0 b0, fs = [a0, b0] := by
          match fs, c', c2 with
          | [a0, b0], _, _ => exact ⟨a0, b0, rfl⟩
          | [], y, _ => exact absurd y (by simp)
          | [_], y, _ => exact absurd y (by simp)
          | _ :: _ :: _ :: _, _, y => exact absurd (by simp) y
        have ne : a0 ≠ 48 := fun y => n1 (by rw [e, y]; exact ⟨rfl, by simp⟩)
        refine ⟨_, rfl, tx fs, _, a0, rfl, rfl, L, by rw [e]; rfl, rfl, _, rfl, ?_⟩
        rw [decide_eq_false (show ¬ V.str ⟨#[a0]⟩ = V.str (Str.ofString "0") from fun y => by
          injection y with y
          have := tx_inj (show tx [a0] = tx [48] from y)
          exact ne (by simpa using this))]
        exact kk
      case hR =>
        refine iteF ⟨_, rfl, _, _, rfl, by rw [tx_len]; omega, by rw [en]; exact reads99 hn99, _, _, rfl, rfl, _, rfl, ?_⟩
        by_cases c : n ≤ 60
        · rw [decide_eq_false (by omega)]
          exact iteF ⟨_, rfl, q n c en⟩
        · rw [decide_eq_true (by omega)]
          exact iteT ⟨_, rfl, x fun m hm y => by
            have a := reads99 hn99
            rw [← en, y, reads99 (by omega : m < 100)] at a
            have := Option.some.inj a
            omega⟩
def spSign : Sp := fun vs H Q _ => ∃ c : Int, vs = [.int c] ∧ ∀ k : Nat, k < 128 → Q (.str (tx [k])) H
theorem at_all {l : List Nat} {n : Nat} (hn : l.length = n) (h : ∀ c ∈ l, c < 128) {i : Int} (h0 : 0 ≤ i) (h1 : i < n) : ∃ c, c < 128 ∧ atI l i = some c := by
  have hl : i.toNat < l.length := by omega
  refine ⟨l[i.toNat], h _ (List.getElem_mem hl), ?_⟩
  unfold atI ixN
  rw [if_pos h0, if_pos (by omega)]
  exact List.getElem?_eq_getElem hl
theorem ok_sign (D : DefAt K mg "_law_sign_by" s__law_sign_by ["cell"]) : Own P w K mg base "_law_sign_by" 1 ["cell"] spSign := by
  refine own_of D sc__law_sign_by (fun vs H Q E h => ?_) (fun f cdv A outer s H vs Q E hr h => ?_)
  · obtain ⟨_, rfl, _⟩ := h
    rfl
  obtain ⟨c, rfl, q⟩ := h
  have nd := sc__law_sign_by.nd
  refine ⟨_, (pss_cons (ps_if (pt_cmpR op_eq (pe_op op_mod (pv 0) pe_int) pe_int (nomark _)) (pss_one (ps_ret (pe_ix ix_str pe_str (pe_op op_mod (pe_op op_fdiv (pv 0) pe_int) pe_int) (fun _ _ => rfl)))) pss_nil) (pss_cons (ps_set (i := 1) nd rfl (Or.inl rfl) pe_str) (pss_cons (ps_set (i := 1) nd rfl (Or.inl rfl) (pe_op op_add_str (pv 1) pe_str)) (pss_one (ps_ret (pe_ix ix_str (pv 1) (pe_op op_mod (pe_op op_fdiv (pv 0) pe_int) pe_int) (fun _ _ => rfl))))))), ?_⟩
  refine ⟨_, rfl, _, _, rfl, rfl, (by show (0 : Int) < 2; decide), rfl, _, rfl, ite2 (fun _ => ?_) (fun _ => ?_)⟩
  · have m0 := Int.emod_nonneg (c / 2) (by omega : (16 : Int) ≠ 0)
    have m1 := Int.emod_lt_of_pos (c / 2) (by omega : (0 : Int) < 16)
    obtain ⟨k, hk, e⟩ := at_all (l := (Str.ofString "0123456789=(),\t\n").cps.toList) (n := 16) (by decide +kernel) (by decide +kernel) m0 m1
    refine ⟨_, rfl, _, _, rfl, rfl, ⟨by decide, by decide⟩, _, _, rfl, rfl, (by show (0 : Int) < 16; decide), _, _, k, rfl, rfl, by decide +kernel, e, q k hk⟩
  · have m0 := Int.emod_nonneg (c / 2) (by omega : (94 : Int) ≠ 0)
    have m1 := Int.emod_lt_of_pos (c / 2) (by omega : (0 : Int) < 94)
    obtain ⟨k, hk, e⟩ := at_all (l := (Str.ofString " !\"#$&'()*+,-./0123456789:;<=>?@ABCDEFGHIJKLMNOPQRSTUVWXYZ[\\]^_`" ++ Str.ofString "abcdefghijklmnopqrstuvwxyz{|}~").cps.toList) (n := 94) (by decide +kernel) (by decide +kernel) m0 m1
    exact ⟨_, rfl, _, _, rfl, rfl, by decide +kernel, _, rfl, _, rfl, _, _, rfl, rfl, ⟨by decide, by decide⟩, _, _, rfl, rfl, (by show (0 : Int) < 94; decide), _, _, k, rfl, rfl, by decide +kernel, e, q k hk⟩
def spSpoil : Sp := fun vs H Q _ => ∃ (z : List Nat) (c o : Int), vs = [.str (tx z), .int c, .int o] ∧ (∀ k ∈ z, k < 128) ∧ z.length ≤ 500 ∧ ∀ z' : List Nat, (∀ k ∈ z', k < 128) → z'.length ≤ z.length + 1 → Q (.str (tx z')) H
theorem ok_spoiled (D : DefAt K mg "_law_spoiled" s__law_spoiled ["text", "cell", "other"]) (M_len : mg "len" = none) (O__law_sign_by : Own P w K mg base "_law_sign_by" 1 ["cell"] spSign) : Own P w K mg base "_law_spoiled" 2 ["text", "cell", "other"] spSpoil := by
  refine own_of D sc__law_spoiled (fun vs H Q E h => ?_) (fun f cdv A outer s H vs Q E hr h => ?_)
  · obtain ⟨_, _, _, rfl, _⟩ := h
    rfl
  obtain ⟨z, c, o, rfl, h128, hz, q⟩ := h
  have nd := sc__law_spoiled.nd
  have hzs : (tx z).length ≤ sizeLine := by rw [tx_len]; exact small_size (by omega)
  have hzs' : z.length ≤ sizeLine := by rw [← tx_len z]; exact hzs
  refine ⟨_, (pss_cons (ps_set (i := 3) nd rfl (Or.inl rfl) (pe_op op_mod (pe_op op_fdiv (pv 1) pe_int) (pe_op op_add (pe_callB call_len_str (by rfl) M_len B_len (pa_cons (pv 0) pa_nil)) pe_int))) (pss_cons (ps_if (pt_cmpR op_eq (pe_op op_mod (pv 1) pe_int) pe_int (nomark _)) (pss_one (ps_ret (pe_op op_add_str (pe_slice sl_str (pv 0) po_none (po_some (pv 3))) (pe_slice sl_str (pv 0) (po_some (pe_op op_add (pv 3) pe_int)) po_none)))) pss_nil) (pss_cons (ps_if (pt_cmpR op_eq (pe_op op_mod (pv 1) pe_int) pe_int (nomark _)) (pss_one (ps_ret (pe_op op_add_str (pe_op op_add_str (pe_slice sl_str (pv 0) po_none (po_some (pv 3))) (pe_own O__law_sign_by (hr.mono (by omega)) (by rfl) (pa_cons (pv 2) pa_nil))) (pe_slice sl_str (pv 0) (po_some (pe_op op_add (pv 3) pe_int)) po_none)))) pss_nil) (pss_one (ps_ret (pe_op op_add_str (pe_op op_add_str (pe_slice sl_str (pv 0) po_none (po_some (pv 3))) (pe_own O__law_sign_by (hr.mono (by omega)) (by rfl) (pa_cons (pv 2) pa_nil))) (pe_slice sl_str (pv 0) (po_some (pv 3)) po_none))))))), ?_⟩
  refine ⟨_, rfl, _, _, rfl, rfl, ⟨by decide, by decide⟩, _, rfl, _, rfl, hzs, _, _, rfl, rfl, _, _, rfl, rfl, (by rw [tx_len]; show (0 : Int) < (z.length : Int) + 1; omega), ?_⟩
  dsimp only
  rw [tx_len]
  have k0 := Int.emod_nonneg (c / 3) (by omega : (z.length : Int) + 1 ≠ 0)
  have k1 := Int.emod_lt_of_pos (c / 3) (by omega : (0 : Int) < (z.length : Int) + 1)
  generalize c / 3 % ((z.length : Int) + 1) = kk at k0 k1
  obtain ⟨k, rfl⟩ : ∃ k : Nat, kk = (k : Int) := ⟨kk.toNat, by omega⟩
  have T1 : ((z.drop 0).take (k - 0)).length ≤ k ∧ ((z.drop 0).take (k - 0)).length ≤ z.length := by
    rw [List.length_take, List.length_drop]
    omega
  have A1 : ∀ a b : Nat, ∀ m ∈ (z.drop a).take b, m < 128 := fun a b m hm => h128 m (List.mem_of_mem_drop (List.mem_of_mem_take hm))
  have ap : ∀ {x y : List Nat}, (∀ m ∈ x, m < 128) → (∀ m ∈ y, m < 128) → ∀ m ∈ x ++ y, m < 128 := fun hx hy m hm => by
    rcases List.mem_append.mp hm with hm | hm
    · exact hx m hm
    · exact hy m hm
  have LL : ∀ a b : Nat, ((z.drop a).take b).length ≤ z.length - a := fun a b => by
    rw [List.length_take, List.length_drop]
    omega
  have e1 : ((k : Nat) : Int) + 1 = ((k + 1 : Nat) : Int) := by omega
  refine ⟨_, rfl, _, _, rfl, rfl, (by show (0 : Int) < 3; decide), rfl, _, rfl, ite2 (fun _ => ?_) (fun _ => ?_)⟩
  · refine ⟨_, rfl, _, rfl, _, rfl, z, 0, k, rfl, hzs', .inr ⟨rfl, rfl⟩, .inl rfl, _, rfl, _, rfl, _, _, rfl, rfl, _, rfl, z, k + 1, z.length, rfl, hzs', .inl (by rw [← e1]), .inr ⟨rfl, rfl⟩, _, _, rfl, rfl, ?_, ?_⟩
    · rw [tx_len, tx_len]
      exact small_size (by have := LL (k + 1) (z.length - (k + 1)); omega)
    rw [tx_app]
    refine q _ (ap (A1 _ _) (A1 _ _)) ?_
    rw [List.length_append]
    have := LL (k + 1) (z.length - (k + 1))
    omega
  · refine ⟨_, rfl, _, _, rfl, rfl, (by show (0 : Int) < 3; decide), rfl, _, rfl, ite2 (fun _ => ?_) (fun _ => ?_)⟩
    · refine ⟨_, rfl, _, rfl, _, rfl, z, 0, k, rfl, hzs', .inr ⟨rfl, rfl⟩, .inl rfl, _, rfl, o, rfl, fun n hn => ⟨_, _, rfl, rfl, ?_, _, rfl, _, rfl, _, _, rfl, rfl, _, rfl, z, k + 1, z.length, rfl, hzs', .inl (by rw [← e1]), .inr ⟨rfl, rfl⟩, _, _, rfl, rfl, ?_, ?_⟩⟩
      · rw [tx_len, tx_len]
        exact small_size (by rw [List.length_singleton]; omega)
      · rw [tx_app, tx_len, tx_len, List.length_append, List.length_singleton]
        exact small_size (by have := LL (k + 1) (z.length - (k + 1)); omega)
      rw [tx_app, tx_app]
      refine q _ (ap (ap (A1 _ _) (fun m hm => by rcases List.mem_singleton.mp hm with rfl; exact hn)) (A1 _ _)) ?_
      rw [List.length_append, List.length_append, List.length_singleton]
      have := LL (k + 1) (z.length - (k + 1))
      omega
    · refine ⟨_, rfl, _, rfl, _, rfl, z, 0, k, rfl, hzs', .inr ⟨rfl, rfl⟩, .inl rfl, _, rfl, o, rfl, fun n hn => ⟨_, _, rfl, rfl, ?_, _, rfl, _, rfl, _, rfl, z, k, z.length, rfl, hzs', .inl rfl, .inr ⟨rfl, rfl⟩, _, _, rfl, rfl, ?_, ?_⟩⟩
      · rw [tx_len, tx_len]
        exact small_size (by rw [List.length_singleton]; omega)
      · rw [tx_app, tx_len, tx_len, List.length_append, List.length_singleton]
        exact small_size (by have := LL k (z.length - k); omega)
      rw [tx_app, tx_app]
      refine q _ (ap (ap (A1 _ _) (fun m hm => by rcases List.mem_singleton.mp hm with rfl; exact hn)) (A1 _ _)) ?_
      rw [List.length_append, List.length_append, List.length_singleton]
      have := LL k (z.length - k)
      omega
/-- a list of written texts -/
def strsOf : List Expr → Option (List V)
  | [] => some []
  | .Constant (.str x) _ _ :: es => (strsOf es).map (V.str x :: ·)
  | _ => none
theorem pa_strs {X : Cx} : ∀ {es : List Expr} {vs : List V}, strsOf es = some vs → PA X es (fun _ H Q => Q vs H)
  | [], vs, h => by
    cases h
    exact pa_nil
  | e :: es, vs, h => by
    cases e with
    | Constant k j pos =>
      cases k with
      | str x =>
        cases hs : strsOf es with
        | none => simp [strsOf, hs] at h
        | some us =>
          have e : vs = V.str x :: us := by
            simp [strsOf, hs] at h
            exact h.symm
          subst e
          exact pa_cons pe_str (pa_strs hs)
      | _ => cases h
    | _ => cases h
theorem sw_list {es : List Expr} {p : Pos} {t : Option Expr} {n : Nat} {env : Env} : swapsWith (.List es p) t n env = pure false := rfl
theorem sw_bin {a b : Expr} {o : Operator} {p : Pos} {t : Option Expr} {n : Nat} {env : Env} : swapsWith (.BinOp a o b p) t n env = pure false := rfl
def oddA : List V := [.str "", .str "=", .str "1", .str "=1 ", .str " =1", .str "=01", .str "=61", .str "=60", .str "=1=1", .str "1(=0,=1", .str "1(=0,=1))", .str "1(=0=1)"]
def oddB : List V := [.str "1(,=1)", .str "(=0,=1)", .str "1(=0,=1),=2", .str "1(=0, =1)", .str "1_0(=0,=1)", .str "+1(=0,=1)", .str "=-1"]
def oddC : List V := [.str "00(=0,=1)", .str "0(=0,=0)", .str "=0("]
def okStr : V → Bool
  | .str x => x.cps.toList.all (fun k => decide (k < 128)) && decide (x.cps.toList.length ≤ 20)
  | _ => false
theorem ok_str {v : V} (h : okStr v = true) : ∃ z : List Nat, v = .str (tx z) ∧ (∀ k ∈ z, k < 128) ∧ z.length ≤ 20 := by
  cases v with
  | str x =>
    obtain ⟨⟨l⟩⟩ := x
    refine ⟨l, rfl, ?_⟩
    simpa [okStr] using h
  | _ => cases h
theorem odd_all : (oddA ++ oddB ++ oddC).all okStr = true := by decide +kernel
def spOdd : Sp := fun vs H Q _ => ∃ c : Int, vs = [.int c] ∧ ∀ (z : List Nat) (H' : Hp), (∀ k ∈ z, k < 128) → z.length ≤ 20 → Same H H' → Q (.str (tx z)) H'
set_option maxHeartbeats 1000000 in
theorem ok_odd (D : DefAt K mg "_law_odd" s__law_odd ["cell"]) : Own P w K mg base "_law_odd" 1 ["cell"] spOdd := by
  refine own_of D sc__law_odd (fun vs H Q E h => ?_) (fun f cdv A outer s H vs Q E hr h => ?_)
  · obtain ⟨_, rfl, _⟩ := h
    rfl
  obtain ⟨c, rfl, q⟩ := h
  have nd := sc__law_odd.nd
  obtain ⟨es1, es2, es3, p1, p2, p3, p4, p5, p6, p7, p8, p9, p10, p11, p12, p13, p14, p15, p16, p17, p18, p19, hb, e1, e2, e3⟩ : ∃ (es1 es2 es3 : List Expr) (p1 p2 p3 p4 p5 p6 p7 p8 p9 p10 p11 p12 p13 p14 p15 p16 p17 p18 p19 : Pos), defBody s__law_odd = [.Assign [.Name "some" p1] (.List es1 p2) p3, .Assign [.Name "some" p4] (.BinOp (.Name "some" p5) .Add (.List es2 p6) p7) p8, .Assign [.Name "some" p9] (.BinOp (.Name "some" p10) .Add (.List es3 p11) p12) p13, .Return (some (.Subscript (.Name "some" p14) (.BinOp (.Name "cell" p15) .Mod (.Constant (.int 22) 0 p16) p17) p18)) p19] ∧ strsOf es1 = some oddA ∧ strsOf es2 = some oddB ∧ strsOf es3 = some oddC := by
    exact ⟨_, _, _, _, _, _, _, _, _, _, _, _, _, _, _, _, _, _, _, _, _, _, rfl, rfl, rfl, rfl⟩
  rw [hb]
  refine ⟨_, (pss_cons (ps_set (i := 1) nd rfl (Or.inl rfl) (pe_lst (pa_strs e1)) (hs := sw_list)) (pss_cons (ps_set (i := 1) nd rfl (Or.inl rfl) (pe_op op_cat (pv 1) (pe_lst (pa_strs e2))) (hs := sw_bin)) (pss_cons (ps_set (i := 1) nd rfl (Or.inl rfl) (pe_op op_cat (pv 1) (pe_lst (pa_strs e3))) (hs := sw_bin)) (pss_one (ps_ret (pe_ix ix_list (pv 1) (pe_op op_mod (pv 0) pe_int) (fun _ _ => rfl))))))), ?_⟩
  have al := odd_all
  have nA : oddA.length = 12 := rfl
  have nB : oddB.length = 7 := rfl
  have nC : oddC.length = 3 := rfl
  generalize oddA = LA at al nA ⊢
  generalize oddB = LB at al nB ⊢
  generalize oddC = LC at al nC ⊢
  refine ⟨by rw [nA]; decide, fun l1 hl1 => ?_⟩
  have s1 := same_upd hl1 (.lst LA)
  refine ⟨_, rfl, by rw [nB]; decide, fun l2 hl2 => ?_⟩
  have s2 := same_upd hl2 (.lst LB)
  refine ⟨l1, l2, _, _, rfl, rfl, s2 _ _ upd_same, upd_same, by rw [nA, nB]; decide, fun l3 hl3 => ?_⟩
  have s3 := same_upd hl3 (.lst (LA ++ LB))
  refine ⟨_, rfl, by rw [nC]; decide, fun l4 hl4 => ?_⟩
  have s4 := same_upd hl4 (.lst LC)
  refine ⟨l3, l4, _, _, rfl, rfl, s4 _ _ upd_same, upd_same, by rw [List.length_append, nA, nB, nC]; decide, fun l5 hl5 => ?_⟩
  have s5 := same_upd hl5 (.lst (LA ++ LB ++ LC))
  have m0 := Int.emod_nonneg c (by omega : (22 : Int) ≠ 0)
  have m1 := Int.emod_lt_of_pos c (by omega : (0 : Int) < 22)
  have nn : (LA ++ LB ++ LC).length = 22 := by rw [List.length_append, List.length_append, nA, nB, nC]
  have hi : (c % 22).toNat < (LA ++ LB ++ LC).length := by omega
  obtain ⟨z, e, z1, z2⟩ := ok_str (List.all_eq_true.mp al _ (List.getElem_mem hi))
  refine ⟨_, rfl, _, rfl, _, _, rfl, rfl, (by show (0 : Int) < 22; decide), l5, _, c % 22, .str (tx z), rfl, rfl, SqL.of upd_same, ?_, q z _ z1 z2 (s1.trans (s2.trans (s3.trans (s4.trans s5))))⟩
  unfold atI ixN
  rw [if_pos m0, if_pos (by omega)]
  show (LA ++ LB ++ LC)[(c % 22).toNat]? = _
  rw [List.getElem?_eq_getElem hi, e]
inductive PlIn (H : Hp) : List Addr → List (Nat × Option Tr) → Prop where
  | nil : PlIn H [] []
  | one {a : Addr} {n : Nat} {ks : List Addr} {pl : List (Nat × Option Tr)} : H a = some (.lst [.int (n : Int)]) → PlIn H ks pl → PlIn H (a :: ks) ((n, none) :: pl)
  | two {a : Addr} {n : Nat} {v : V} {b : Tr} {ks : List Addr} {pl : List (Nat × Option Tr)} : H a = some (.lst [.int (n : Int), v]) → TrIn H v b → PlIn H ks pl → PlIn H (a :: ks) ((n, some b) :: pl)
theorem PlIn.keep {H H' : Hp} (t : TupS H H') {ks : List Addr} {pl : List (Nat × Option Tr)} (h : PlIn H ks pl) : (∀ k ∈ ks, H' k = H k) → PlIn H' ks pl := by
  induction h with
  | nil => exact fun _ => .nil
  | one e _ ih => exact fun s => .one (by rw [s _ (List.mem_cons_self ..)]; exact e) (ih fun k hk => s k (List.mem_cons_of_mem _ hk))
  | two e hT _ ih => exact fun s => .two (by rw [s _ (List.mem_cons_self ..)]; exact e) (hT.tups t) (ih fun k hk => s k (List.mem_cons_of_mem _ hk))
theorem PlIn.there {H : Hp} {ks : List Addr} {pl : List (Nat × Option Tr)} (h : PlIn H ks pl) : ∀ k ∈ ks, ∃ xs, H k = some (.lst xs) := by
  induction h with
  | nil => intro k hk; cases hk
  | one e _ ih =>
    intro k hk
    rcases List.mem_cons.mp hk with rfl | hk
    · exact ⟨_, e⟩
    · exact ih k hk
  | two e _ _ ih =>
    intro k hk
    rcases List.mem_cons.mp hk with rfl | hk
    · exact ⟨_, e⟩
    · exact ih k hk
structure Pil (H : Hp) (l : Addr) (H' : Hp) (ks : List Addr) (pl : List (Nat × Option Tr)) : Prop where
  same : Same H H'
  free : H l = none
  frees : ∀ k ∈ ks, H k = none
  nd : ks.Nodup
  nl : l ∉ ks
  li : H' l = some (.lst (ks.map V.ref).reverse)
  pi : PlIn H' ks pl
theorem Pil.init {H : Hp} {l : Addr} (h : H l = none) : Pil H l (upd H l (.lst [])) [] [] := ⟨same_upd h _, h, (fun k hk => by cases hk), List.nodup_nil, (by simp), upd_same, PlIn.nil⟩
/-- something new beside it -/
theorem Pil.new {H H' : Hp} {l t : Addr} {o : HO} {ks : List Addr} {pl : List (Nat × Option Tr)} (p : Pil H l H' ks pl) (h : H' t = none) : Pil H l (upd H' t o) ks pl := by
  have s := same_upd h o
  refine ⟨p.same.trans s, p.free, p.frees, p.nd, p.nl, s _ _ p.li, p.pi.keep s.tups fun k hk => ?_⟩
  obtain ⟨xs, e⟩ := p.pi.there k hk
  rw [s _ _ e, e]
/-- one more on top -/
theorem Pil.push {H H' : Hp} {l a : Addr} {n : Nat} {ks : List Addr} {pl : List (Nat × Option Tr)} (p : Pil H l H' ks pl) (h : H' a = none) : Pil H l (upd (upd H' a (.lst [.int (n : Int)])) l (.lst ((ks.map V.ref).reverse ++ [.ref a]))) (a :: ks) ((n, none) :: pl) := by
  have p1 := p.new (o := .lst [.int (n : Int)]) h
  have al : a ≠ l := fun z => by
    rw [z, p.li] at h
    cases h
  have ak : a ∉ ks := fun z => by
    obtain ⟨xs, e⟩ := p.pi.there a z
    rw [e] at h
    cases h
  have tt : TupS (upd H' a (.lst [.int (n : Int)])) (upd (upd H' a (.lst [.int (n : Int)])) l (.lst ((ks.map V.ref).reverse ++ [.ref a]))) := tups_lst p1.li
  refine ⟨fun b o e => ?_, p.free, fun k hk => ?_, List.nodup_cons.mpr ⟨ak, p.nd⟩, fun z => ?_, ?_, ?_⟩
  · rw [upd_ne (ne_of_none e p.free)]
    exact p1.same b o e
  · rcases List.mem_cons.mp hk with rfl | hk
    · exact p.same.free h
    · exact p.frees k hk
  · rcases List.mem_cons.mp z with z | z
    · exact al z.symm
    · exact p.nl z
  · rw [upd_same, List.map_cons, List.reverse_cons]
  · refine .one ?_ (p1.pi.keep tt fun k hk => ?_)
    · rw [upd_ne al, upd_same]
    · rw [upd_ne fun z => p.nl (by rw [← z]; exact hk)]
theorem Pil.pop {H H' : Hp} {l a : Addr} {x : Nat × Option Tr} {ks : List Addr} {pl : List (Nat × Option Tr)} (p : Pil H l H' (a :: ks) (x :: pl)) : Pil H l (upd H' l (.lst (ks.map V.ref).reverse)) ks pl := by
  have tt : TupS H' (upd H' l (.lst (ks.map V.ref).reverse)) := tups_lst p.li
  refine ⟨fun b o e => ?_, p.free, fun k hk => p.frees k (List.mem_cons_of_mem _ hk), (List.nodup_cons.mp p.nd).2, fun z => p.nl (List.mem_cons_of_mem _ z), upd_same, ?_⟩
  · rw [upd_ne (ne_of_none e p.free)]
    exact p.same b o e
  · have pp : PlIn H' ks pl := by
      have := p.pi
      cases this with
      | one _ h => exact h
      | two _ _ h => exact h
    exact pp.keep tt fun k hk => by rw [upd_ne fun z => p.nl (by rw [← z]; exact List.mem_cons_of_mem _ hk)]
theorem Pil.add {H H' : Hp} {l a : Addr} {n : Nat} {v : V} {t : Tr} {ks : List Addr} {pl : List (Nat × Option Tr)} (p : Pil H l H' (a :: ks) ((n, none) :: pl)) (hT : TrIn H' v t) : Pil H l (upd H' a (.lst ([.int (n : Int)] ++ [v]))) (a :: ks) ((n, some t) :: pl) := by
  have pp := p.pi
  cases pp with
  | one e h =>
    have tt : TupS H' (upd H' a (.lst ([.int (n : Int)] ++ [v]))) := tups_lst e
    have al : l ≠ a := fun z => p.nl (by rw [z]; exact List.mem_cons_self ..)
    refine ⟨fun b o eb => ?_, p.free, p.frees, p.nd, p.nl, by rw [upd_ne al]; exact p.li, .two upd_same (hT.tups tt) (h.keep tt fun k hk => ?_)⟩
    · rw [upd_ne (ne_of_none eb (p.frees a (List.mem_cons_self ..)))]
      exact p.same b o eb
    · rw [upd_ne fun z => (List.nodup_cons.mp p.nd).1 (by rw [← z]; exact hk)]
theorem at_last {α : Type} (xs : List α) (x : α) : atI (xs ++ [x]) (-1) = some x := by
  unfold atI ixN
  rw [if_neg (by omega), List.length_append]
  show Option.bind (if _ then _ else _) _ = _
  rw [if_pos (by show -((xs.length + 1 : Nat) : Int) ≤ -1; omega)]
  show (xs ++ [x])[((xs.length + 1 : Nat) + -1 : Int).toNat]? = some x
  rw [show ((xs.length + 1 : Nat) + -1 : Int).toNat = xs.length by omega]
  simp
def spDue : Sp := fun vs H Q _ => ∃ z : List Nat, vs = [.str (tx z)] ∧ (∀ c ∈ z, c < 128) ∧ z.length ≤ 1000 ∧ (∀ (p : Tr) (v : V) (H' : Hp), z = shT p → flIn 0 60 p → Same H H' → TrIn H' v p → Q v H') ∧ ((∀ p, ¬ (z = shT p ∧ flIn 0 60 p)) → ∀ H', Same H H' → Q .non H')
theorem TrIn.ne {H : Hp} {v : V} {t : Tr} (h : TrIn H v t) : v ≠ .non := by
  cases h <;> exact fun z => by cases z
theorem sl1 (y : List Nat) (c : Nat) : decide (V.str (tx (y.take 1)) = V.str (tx [c])) = decide (y.head? = some c) := by
  rw [Bool.eq_iff_iff, decide_eq_true_iff, decide_eq_true_iff]
  constructor
  · intro h
    injection h with h
    have := tx_inj h
    cases y with
    | nil => simp at this
    | cons d y =>
      simp at this
      rw [this]
      rfl
  · intro h
    cases y with
    | nil => cases h
    | cons d y =>
      have : d = c := by simpa using h
      rw [this]
      rfl
theorem hd_drop {z : List Nat} {b c : Nat} (h : (z.drop b).head? = some c) : z.drop b = c :: z.drop (b + 1) ∧ b < z.length := by
  have hb : b < z.length := by
    rcases Nat.lt_or_ge b z.length with y | y
    · exact y
    · rw [List.drop_eq_nil_of_le y] at h
      cases h
  rw [List.drop_eq_getElem_cons hb] at h ⊢
  rw [List.head?_cons] at h
  exact ⟨by rw [Option.some.inj h], hb⟩
theorem par_o : Str.ofString "(" = tx [40] := by decide +kernel
theorem par_c : Str.ofString ")" = tx [41] := by decide +kernel
theorem com_ : Str.ofString "," = tx [44] := by decide +kernel
set_option maxHeartbeats 1000000 in
theorem ok_due (D : DefAt K mg "_law_due" s__law_due ["text"]) (M_len : mg "len" = none) (M_int : mg "int" = none) (O__law_end : Own P w K mg base "_law_end" 1 ["text", "at"] spEnd) : Own P w K mg base "_law_due" 2 ["text"] spDue := by
  refine own_of D sc__law_due (fun vs H Q E h => ?_) (fun f cdv A outer s H vs Q E hr h => ?_)
  · obtain ⟨_, rfl, _⟩ := h
    rfl
  obtain ⟨z, rfl, h128, hz, q, x⟩ := h
  have nd := sc__law_due.nd
  have hzs : (tx z).length ≤ sizeLine := by rw [tx_len]; exact small_size (by omega)
  have hzs' : z.length ≤ sizeLine := by rw [← tx_len z]; exact hzs
  refine ⟨_, (pss_cons (ps_set (i := 1) nd rfl (Or.inl rfl) (pe_lst pa_nil)) (pss_cons (ps_set (i := 2) nd rfl (Or.inl rfl) pe_int) (pss_cons (ps_set (i := 3) nd rfl (Or.inl rfl) pe_non) (pss_cons (ps_while PassesOwn.never (PW.pt (pw_and (pt_cmpR op_lt (pv 2) (pe_callB call_len_str (by rfl) M_len B_len (pa_cons (pv 0) pa_nil)) (nomark _)) (pw_and1 (pt_cmpR op_isN (pv 3) pe_non (nomark _))))) (pss_cons (ps_set (i := 4) nd rfl (Or.inl rfl) (pe_cmpR op_eq (pe_ix ix_str (pv 0) (pv 2) (fun _ _ => rfl)) pe_str (nomark _))) (pss_cons (ps_set (i := 5) nd rfl (Or.inl rfl) (pe_own O__law_end (hr.mono (by omega)) (by rfl) (pa_cons (pv 0) (pa_cons (pe_op op_add (pv 2) (pe_callTy call_int1 (by rfl) M_int B_int (pa_cons (pv 4) pa_nil))) pa_nil)))) (pss_cons (ps_if (pt_cmpR op_lt (pv 5) pe_int (nomark _)) (pss_one (ps_ret pe_non)) pss_nil) (pss_cons (ps_set (i := 6) nd rfl (Or.inl rfl) (pe_callTy call_int_text (by rfl) M_int B_int (pa_cons (pe_slice sl_str (pv 0) (po_some (pe_op op_add (pv 2) (pe_callTy call_int1 (by rfl) M_int B_int (pa_cons (pv 4) pa_nil)))) (po_some (pv 5))) pa_nil))) (pss_one (ps_if (pt_not (pt_val (pv 4))) (pss_cons (ps_if (pt_cmpR op_ne (pe_slice sl_str (pv 0) (po_some (pv 5)) (po_some (pe_op op_add (pv 5) pe_int))) pe_str (nomark _)) (pss_one (ps_ret pe_non)) pss_nil) (pss_cons (ps_expr (pe_bm PySem.F.plainAttrs_list PySem.F.slot_list_append PySem.F.type_list_append mt_append (pv 1) (pa_cons (pe_lst (pa_cons (pv 6) pa_nil)) pa_nil))) (pss_one (ps_set (i := 2) nd rfl (Or.inl rfl) (pe_op op_add (pv 5) pe_int))))) (pss_cons (ps_set (i := 7) nd rfl (Or.inl rfl) (pe_tup (pa_cons pe_str (pa_cons (pv 6) pa_nil)))) (pss_cons (ps_set (i := 2) nd rfl (Or.inl rfl) (pv 5)) (pss_cons (ps_while PassesOwn.never (PW.pt (pw_and (pt_cmpR op_gt (pe_callB call_len_seq (by rfl) M_len B_len (pa_cons (pv 1) pa_nil)) pe_int (nomark _)) (pw_and (pt_cmpR op_eq (pe_callB call_len_seq (by rfl) M_len B_len (pa_cons (pe_ix ix_list (pv 1) (pe_un un_neg pe_int) (fun _ _ => rfl)) pa_nil)) pe_int (nomark _)) (pw_and1 (pt_cmpR op_notN (pv 7) pe_non (nomark _)))))) (pss_cons (ps_if (pt_cmpR op_ne (pe_slice sl_str (pv 0) (po_some (pv 2)) (po_some (pe_op op_add (pv 2) pe_int))) pe_str (nomark _)) (pss_one (ps_ret pe_non)) pss_nil) (pss_cons (ps_set (i := 7) nd rfl (Or.inl rfl) (pe_tup (pa_cons pe_str (pa_cons (pe_ix ix_list (pe_ix ix_list (pv 1) (pe_un un_neg pe_int) (fun _ _ => rfl)) pe_int (fun _ _ => rfl)) (pa_cons (pe_ix ix_list (pe_ix ix_list (pv 1) (pe_un un_neg pe_int) (fun _ _ => rfl)) pe_int (fun _ _ => rfl)) (pa_cons (pv 7) pa_nil)))))) (pss_cons (ps_expr (pe_bm0 PySem.F.plainAttrs_list PySem.F.slot_list_pop PySem.F.type_list_pop mt_pop (pv 1))) (pss_one (ps_set (i := 2) nd rfl (Or.inl rfl) (pe_op op_add (pv 2) pe_int))))))) (pss_one (ps_if (pt_cmpR op_eq (pe_callB call_len_seq (by rfl) M_len B_len (pa_cons (pv 1) pa_nil)) pe_int (nomark _)) (pss_one (ps_set (i := 3) nd rfl (Or.inl rfl) (pv 7))) (pss_one (ps_if (pt_cmpR op_ne (pe_slice sl_str (pv 0) (po_some (pv 2)) (po_some (pe_op op_add (pv 2) pe_int))) pe_str (nomark _)) (pss_one (ps_ret pe_non)) (pss_cons (ps_expr (pe_bm PySem.F.plainAttrs_list PySem.F.slot_list_append PySem.F.type_list_append mt_append (pe_ix ix_list (pv 1) (pe_un un_neg pe_int) (fun _ _ => rfl)) (pa_cons (pv 7) pa_nil))) (pss_one (ps_set (i := 2) nd rfl (Or.inl rfl) (pe_op op_add (pv 2) pe_int)))))))))))))))))) (pss_cons (ps_if (PW.pt (pw_or (pt_cmpR op_isN (pv 3) pe_non (nomark _)) (pw_or1 (pt_cmpR op_lt (pv 2) (pe_callB call_len_str (by rfl) M_len B_len (pa_cons (pv 0) pa_nil)) (nomark _))))) (pss_one (ps_ret pe_non)) pss_nil) (pss_one (ps_ret (pv 3)))))))), ?_⟩
  refine ⟨by show 0 ≤ sizeLine; decide, fun l hl => ?_⟩
  refine ⟨fun m σ H' => ∃ (a : Nat) (pl : List (Nat × Option Tr)) (ks : List Addr) (wv : V) (c4 c5 c6 c7 : Option V), a ≤ z.length ∧ m = z.length - a ∧ σ = [some (.str (tx z)), some (.ref l), some (.int (a : Int)), some wv, c4, c5, c6, c7] ∧ Pil H l H' ks pl ∧ ks.length ≤ a ∧ ((wv = .non ∧ ∀ p, (z = shT p ∧ flIn 0 60 p) ↔ Out' pl (z.drop a) p) ∨ ∃ t, TrIn H' wv t ∧ ∀ p, (z = shT p ∧ flIn 0 60 p) ↔ (z.drop a = [] ∧ p = t)),
    ⟨_, 0, [], [], .non, none, none, none, none, Nat.zero_le _, rfl, rfl, .init hl, Nat.zero_le _, .inl ⟨rfl, fun p => out_nil.symm⟩⟩, ?_⟩
  rintro m σ H' ⟨a, pl, ks, wv, c4, c5, c6, c7, ha, rfl, rfl, hp, hk, hs⟩
  refine ⟨_, rfl, _, rfl, _, rfl, hzs, _, _, rfl, rfl, _, rfl, ?_⟩
  rw [tx_len]
  by_cases hB : a < z.length ∧ wv = .non
  case neg =>
    apply ite_rst
    case h2 =>
      intro _ kk
      exact kk
    case h1 =>
      intro c kk
      have c' : a < z.length := by
        have := of_decide_eq_true c
        omega
      have hw : wv ≠ .non := fun y => hB ⟨c', y⟩
      refine ⟨_, rfl, rfl, _, rfl, ?_⟩
      rw [decide_eq_false hw]
      exact kk
    case hR =>
      refine iteF ?_
      rcases hs with ⟨rfl, hS⟩ | ⟨t, hT, hS⟩
      · refine ⟨_, rfl, rfl, _, rfl, ?_⟩
        rw [decide_eq_true rfl]
        refine iteT (iteT ?_)
        refine x (fun p hp' => ?_) H' hp.same
        have := (hS p).mp hp'
        rw [List.drop_eq_nil_of_le (by have : ¬ a < z.length := fun y => hB ⟨y, rfl⟩; omega)] at this
        exact out_end this
      · refine ⟨_, rfl, rfl, _, rfl, ?_⟩
        rw [decide_eq_false hT.ne]
        refine iteF ⟨_, rfl, _, rfl, _, rfl, hzs, _, _, rfl, rfl, _, rfl, ?_⟩
        rw [tx_len]
        by_cases c : a < z.length
        · rw [decide_eq_true (by omega)]
          refine iteT (x (fun p hp' => ?_) H' hp.same)
          have := congrArg List.length ((hS p).mp hp').1
          rw [List.length_drop, List.length_nil] at this
          omega
        · rw [decide_eq_false (by omega)]
          have := (hS t).mpr ⟨List.drop_eq_nil_of_le (by omega), rfl⟩
          exact iteF ⟨_, rfl, q t wv H' this.1 this.2 hp.same hT⟩
  obtain ⟨hB, rfl⟩ := hB
  have hS : ∀ p, (z = shT p ∧ flIn 0 60 p) ↔ Out' pl (z.drop a) p := by
    rcases hs with ⟨_, hS⟩ | ⟨t, hT, _⟩
    · exact hS
    · exact absurd rfl hT.ne
  clear hs
  rw [decide_eq_true (by omega)]
  refine iteT ⟨_, rfl, rfl, _, rfl, ?_⟩
  rw [decide_eq_true rfl]
  refine iteT ?_
  refine ⟨_, fun σ' H' h => h, ?_⟩
  obtain ⟨c, hc⟩ : ∃ c, z[a]? = some c := ⟨_, List.getElem?_eq_getElem hB⟩
  have hd : z.drop a = c :: z.drop (a + 1) := by
    rw [List.drop_eq_getElem_cons hB]
    congr 1
    exact Option.some.inj ((List.getElem?_eq_getElem hB).symm.trans hc)
  have at_a : atI z (a : Int) = some c := by
    unfold atI ixN
    rw [if_pos (by omega), if_pos (by omega)]
    show z[((a : Nat) : Int).toNat]? = some c
    rw [show ((a : Nat) : Int).toNat = a by omega]
    exact hc
  refine ⟨_, rfl, _, rfl, tx z, _, c, rfl, rfl, hzs, at_a, rfl, ?_⟩
  by_cases c61 : c = 61
  · subst c61
    rw [decide_eq_true (show V.str ⟨#[61]⟩ = V.str (Str.ofString "=") from rfl)]
    obtain ⟨fs, r, e, hf, hr'⟩ := span_figs (z.drop (a + 1))
    have el : (a + 1) + fs.length + r.length = z.length := by
      have := congrArg List.length e
      rw [List.length_drop, List.length_append] at this
      omega
    have e1 : ((a : Nat) : Int) + 1 = ((a + 1 : Nat) : Int) := by omega
    refine ⟨_, rfl, _, rfl, _, rfl, .inr ⟨true, rfl, _, _, rfl, rfl, z, a + 1, fs, r, ?_, h128, hz, by omega, e, hf, hr', fun n hn en => ?_, fun no => ?_⟩⟩
    · show [V.str (tx z), V.int ((a : Int) + 1)] = _
      rw [e1]
    case refine_3 =>
      refine ⟨_, rfl, _, _, rfl, rfl, _, rfl, ?_⟩
      rw [decide_eq_true (by decide)]
      refine iteT (x (fun p hp' => ?_) H' hp.same)
      have := (hS p).mp hp'
      rw [hd, e] at this
      exact out_leaf_no hf no hr' this
    refine ⟨_, rfl, _, _, rfl, rfl, _, rfl, ?_⟩
    rw [decide_eq_false (by omega)]
    refine iteF ?_
    have hfl : fs.length ≤ 2 := by rw [en]; exact dg_len2 n
    have hend : (((a + 1 + fs.length : Nat) : Int)) = ((a + 1 + fs.length : Nat) : Int) := rfl
    have hrd : z.drop (a + 1 + fs.length) = r := by
      rw [← List.drop_drop, e]
      simp
    refine ⟨_, rfl, _, rfl, _, rfl, .inr ⟨true, rfl, _, _, rfl, rfl, _, rfl, _, rfl, _, rfl, z, a + 1, a + 1 + fs.length, rfl, hzs', .inl ?_, .inl rfl, ?_⟩⟩
    · show some ((a : Int) + 1) = _
      rw [e1]
    rw [show (z.drop (a + 1)).take (a + 1 + fs.length - (a + 1)) = fs by rw [e, Nat.add_sub_cancel_left]; simp]
    refine ⟨_, (n : Int), rfl, by rw [tx_len]; omega, by rw [en]; exact reads99 (by omega), ?_⟩
    refine ⟨_, rfl, _, rfl, iteF ?_⟩
    refine ⟨_, rfl, by show 2 ≤ sizeLine; decide, fun t0 ht0 => ?_⟩
    refine ⟨_, rfl, ?_⟩
    have s0 := same_upd ht0 (.tup [.str "told", .int (n : Int)])
    refine ⟨fun m σ H2 => ∃ (b : Nat) (pl2 : List (Nat × Option Tr)) (ks2 : List Addr) (v : V) (t : Tr), a < b ∧ b ≤ z.length ∧ m = pl2.length ∧ σ = [some (.str (tx z)), some (.ref l), some (.int (b : Int)), some .non, some (.bl true), some (.int ((a + 1 + fs.length : Nat) : Int)), some (.int (n : Int)), some v] ∧ Pil H l H2 ks2 pl2 ∧ ks2.length ≤ a ∧ TrIn H2 v t ∧ ∀ p, (z = shT p ∧ flIn 0 60 p) ↔ Fin' pl2 t (z.drop b) p,
      ⟨_, a + 1 + fs.length, pl, ks, .ref t0, .told n, by omega, by omega, rfl, rfl, hp.new ht0, hk, .told upd_same, fun p => (hS p).trans ?_⟩, ?_⟩
    · rw [hrd, hd, e, en, out_leaf hn hr']
    rintro m σ H2 ⟨b, pl2, ks2, v, t, hab, hb, rfl, rfl, p2, k2, hT, hF⟩
    refine ⟨_, rfl, l, _, rfl, .inl (SqL.of p2.li), _, _, rfl, rfl, _, rfl, ?_⟩
    have eb1 : ((b : Nat) : Int) + 1 = ((b + 1 : Nat) : Int) := by omega
    have sl : (z.drop b).take (b + 1 - b) = (z.drop b).take 1 := by rw [Nat.add_sub_cancel_left]
    have pp := p2.pi
    cases pp with
    | nil =>
      rw [decide_eq_false (by decide)]
      refine iteF (iteF ?_)
      refine ⟨_, rfl, l, _, rfl, .inl (SqL.of p2.li), rfl, _, rfl, iteT ?_⟩
      refine ⟨_, rfl, ?_⟩
      exact ⟨_, by omega, b, [], [], v, _, _, _, _, hb, rfl, rfl, p2, Nat.zero_le _, .inr ⟨t, hT, hF⟩⟩
    | @one a1 n1 ks3 pl3 ea hpl =>
      have hli : H2 l = some (.lst ((ks3.map V.ref).reverse ++ [.ref a1])) := by rw [p2.li, List.map_cons, List.reverse_cons]
      rw [decide_eq_true (by rw [List.length_reverse, List.length_map, List.length_cons]; omega)]
      refine iteT ⟨_, rfl, _, rfl, l, _, -1, .ref a1, rfl, rfl, SqL.of hli, at_last _ _, a1, _, rfl, .inl (SqL.of ea), rfl, _, rfl, ?_⟩
      rw [decide_eq_false (show ¬ V.int (([V.int (n1 : Int)] : List V).length : Int) = V.int 2 from fun y => by injection y with y; exact absurd (show (1 : Int) = 2 from y) (by decide))]
      refine iteF (iteF ?_)
      refine ⟨_, rfl, l, _, rfl, .inl (SqL.of hli), rfl, _, rfl, ?_⟩
      rw [decide_eq_false (fun y => by
        injection y with y
        rw [List.length_append, List.length_singleton] at y
        omega)]
      refine iteF ⟨_, rfl, _, rfl, _, rfl, _, rfl, _, _, rfl, rfl, _, rfl, z, b, b + 1, rfl, hzs', .inl rfl, .inl (by rw [← eb1]), rfl, _, rfl, ?_⟩
      rw [sl, com_, sl1]
      by_cases hh : (z.drop b).head? = some 44
      · obtain ⟨hd2, hb2⟩ := hd_drop hh
        rw [decide_eq_true hh]
        refine iteF ⟨_, rfl, _, rfl, l, _, -1, .ref a1, rfl, rfl, SqL.of hli, at_last _ _, .inl ⟨rfl, _, SqL.of ea⟩, _, rfl, a1, _, _, rfl, rfl, ea, by show 1 < sizeLine; decide, ?_⟩
        refine ⟨_, rfl, _, _, rfl, rfl, ?_⟩
        refine ⟨_, by omega, b + 1, (n1, some t) :: pl3, a1 :: ks3, .non, _, _, _, _, by omega, rfl, by rw [← eb1]; rfl, p2.add hT, by omega, .inl ⟨rfl, fun p => (hF p).trans ?_⟩⟩
        rw [hd2, fin_comma]
      · rw [decide_eq_false hh]
        exact iteT (x (fun p hp' => fin_comma_no hh ((hF p).mp hp')) H2 p2.same)
    | @two a1 n1 v1 t1 ks3 pl3 ea hT1 hpl =>
      have hli : H2 l = some (.lst ((ks3.map V.ref).reverse ++ [.ref a1])) := by rw [p2.li, List.map_cons, List.reverse_cons]
      rw [decide_eq_true (by rw [List.length_reverse, List.length_map, List.length_cons]; omega)]
      refine iteT ⟨_, rfl, _, rfl, l, _, -1, .ref a1, rfl, rfl, SqL.of hli, at_last _ _, a1, _, rfl, .inl (SqL.of ea), rfl, _, rfl, ?_⟩
      rw [decide_eq_true (show V.int (([V.int (n1 : Int), v1] : List V).length : Int) = V.int 2 from rfl)]
      refine iteT ⟨_, rfl, rfl, _, rfl, ?_⟩
      rw [decide_eq_false hT.ne]
      refine iteT ⟨_, fun σ' H' h => h, ?_⟩
      refine ⟨_, rfl, _, rfl, _, rfl, _, rfl, _, _, rfl, rfl, _, rfl, z, b, b + 1, rfl, hzs', .inl rfl, .inl (by rw [← eb1]), rfl, _, rfl, ?_⟩
      rw [sl, par_c, sl1]
      by_cases hh : (z.drop b).head? = some 41
      · obtain ⟨hd2, hb2⟩ := hd_drop hh
        rw [decide_eq_true hh]
        refine iteF ⟨_, rfl, _, rfl, l, _, -1, .ref a1, rfl, rfl, SqL.of hli, at_last _ _, a1, _, 0, _, rfl, rfl, SqL.of ea, rfl, _, rfl, _, rfl, l, _, -1, .ref a1, rfl, rfl, SqL.of hli, at_last _ _, a1, _, 1, _, rfl, rfl, SqL.of ea, rfl, _, rfl, by show 4 ≤ sizeLine; decide, fun t4 ht4 => ?_⟩
        have s4 := same_upd ht4 (.tup [.str "drop", .int (n1 : Int), v1, v])
        have hT4 : TrIn (upd H2 t4 (.tup [.str "drop", .int (n1 : Int), v1, v])) (.ref t4) (.drop n1 t1 t) := .drop upd_same (hT1.same s4) (hT.same s4)
        have p4 := p2.new (o := .tup [.str "drop", .int (n1 : Int), v1, v]) ht4
        have hli4 := s4 _ _ hli
        refine ⟨_, rfl, .inl ⟨rfl, _, SqL.of hli4⟩, l, _, .ref a1, rfl, rfl, hli4, by simp, ?_⟩
        rw [List.dropLast_concat]
        refine ⟨_, rfl, _, _, rfl, rfl, ?_⟩
        refine ⟨_, ?_, b + 1, pl3, ks3, .ref t4, .drop n1 t1 t, by omega, by omega, rfl, by rw [← eb1]; rfl, p4.pop, ?_, hT4.tups (tups_lst hli4), fun p => (hF p).trans ?_⟩
        · rw [List.length_cons]; omega
        · rw [List.length_cons] at k2; omega
        · rw [hd2, fin_close]
      · rw [decide_eq_false hh]
        exact iteT (x (fun p hp' => fin_close_no hh ((hF p).mp hp')) H2 p2.same)
  · rw [decide_eq_false (show ¬ V.str ⟨#[c]⟩ = V.str (Str.ofString "=") from fun y => by
      injection y with y
      have := tx_inj (show tx [c] = tx [61] from y)
      exact c61 (by simpa using this))]
    obtain ⟨fs, r, e, hf, hr'⟩ := span_figs (z.drop a)
    have el : a + fs.length + r.length = z.length := by
      have := congrArg List.length e
      rw [List.length_drop, List.length_append] at this
      omega
    have e1 : ((a : Nat) : Int) + 0 = ((a : Nat) : Int) := by omega
    have h61 : (fs ++ r).head? ≠ some 61 := by
      rw [← e, hd]
      exact fun y => c61 (by simpa using y)
    refine ⟨_, rfl, _, rfl, _, rfl, .inr ⟨false, rfl, _, _, rfl, rfl, z, a, fs, r, ?_, h128, hz, by omega, e, hf, hr', fun n hn en => ?_, fun no => ?_⟩⟩
    · show [V.str (tx z), V.int ((a : Int) + 0)] = _
      rw [e1]
    case refine_3 =>
      refine ⟨_, rfl, _, _, rfl, rfl, _, rfl, ?_⟩
      rw [decide_eq_true (by decide)]
      refine iteT (x (fun p hp' => ?_) H' hp.same)
      have := (hS p).mp hp'
      rw [e] at this
      exact out_num_no hf hr' h61 (.inl no) this
    refine ⟨_, rfl, _, _, rfl, rfl, _, rfl, ?_⟩
    rw [decide_eq_false (by omega)]
    refine iteF ?_
    have hfl : fs.length ≤ 2 := by rw [en]; exact dg_len2 n
    have hrd : z.drop (a + fs.length) = r := by
      rw [← List.drop_drop, e]
      simp
    have eb1 : ((a + fs.length : Nat) : Int) + 1 = ((a + fs.length + 1 : Nat) : Int) := by omega
    refine ⟨_, rfl, _, rfl, _, rfl, .inr ⟨false, rfl, _, _, rfl, rfl, _, rfl, _, rfl, _, rfl, z, a, a + fs.length, rfl, hzs', .inl ?_, .inl rfl, ?_⟩⟩
    · show some ((a : Int) + 0) = _
      rw [e1]
    rw [show (z.drop a).take (a + fs.length - a) = fs by rw [e, Nat.add_sub_cancel_left]; simp]
    refine ⟨_, (n : Int), rfl, by rw [tx_len]; omega, by rw [en]; exact reads99 (by omega), ?_⟩
    refine ⟨_, rfl, _, rfl, iteT ?_⟩
    refine ⟨_, rfl, _, rfl, _, rfl, _, rfl, _, _, rfl, rfl, _, rfl, z, a + fs.length, a + fs.length + 1, rfl, hzs', .inl rfl, .inl (by rw [← eb1]), rfl, _, rfl, ?_⟩
    rw [Nat.add_sub_cancel_left, par_o, sl1]
    by_cases hh : (z.drop (a + fs.length)).head? = some 40
    · obtain ⟨hd2, hb2⟩ := hd_drop hh
      rw [decide_eq_true hh]
      refine iteF ⟨_, rfl, .inl ⟨rfl, _, SqL.of hp.li⟩, _, rfl, by show 1 ≤ sizeLine; decide, fun a0 ha0 => ?_⟩
      refine ⟨l, _, _, rfl, rfl, (hp.new ha0).li, by rw [List.length_reverse, List.length_map]; exact lt_size (by omega), ?_⟩
      refine ⟨_, rfl, _, _, rfl, rfl, ?_⟩
      refine ⟨_, by omega, a + fs.length + 1, (n, none) :: pl, a0 :: ks, .non, _, _, _, _, by omega, rfl, by rw [← eb1]; rfl, hp.push ha0, by rw [List.length_cons]; omega, .inl ⟨rfl, fun p => (hS p).trans ?_⟩⟩
      have : z.drop a = dg n ++ (40 :: z.drop (a + fs.length + 1)) := by rw [e, ← hrd, hd2, ← en]
      rw [this, out_num hn]
    · rw [decide_eq_false hh]
      refine iteT (x (fun p hp' => ?_) H' hp.same)
      have := (hS p).mp hp'
      rw [e] at this
      rw [hrd] at hh
      exact out_num_no hf hr' h61 (.inr hh) this
theorem ok_cell (D : DefAt K mg "_law_cell_at" s__law_cell_at ["script", "k"]) (M_len : mg "len" = none) : Own P w K mg base "_law_cell_at" 1 ["script", "k"] (spCell K) := by
  refine own_of D sc__law_cell_at (fun vs H Q E h => ?_) (fun f cdv A outer s H vs Q E hr h => ?_)
  · obtain ⟨a, ns, k, rfl, _⟩ := h
    rfl
  obtain ⟨a, ns, k, rfl, hS, h0, q⟩ := h
  refine ⟨_, (pss_cons (ps_if (pt_cmpR op_lt (pv 1) (pe_callB call_len_seq (by rfl) M_len B_len (pa_cons (pv 0) pa_nil)) (nomark _)) (pss_one (ps_ret (pe_ix ix_list (pv 0) (pv 1) (fun _ _ => rfl)))) pss_nil) (pss_one (ps_ret pe_int))), ?_⟩
  refine ⟨_, rfl, _, rfl, a, _, rfl, .inl hS, _, _, rfl, rfl, _, rfl, ?_⟩
  rw [List.length_map]
  refine ite2 (fun c => ?_) (fun c => ?_)
  · have c' : k < (ns.length : Int) := of_decide_eq_true c
    have hk : k.toNat < ns.length := by omega
    refine ⟨_, rfl, _, rfl, a, _, k, .int (cellV ns k), rfl, rfl, hS, ?_, q⟩
    have e : k = ((k.toNat : Nat) : Int) := by omega
    rw [e]
    refine atI_nat ?_
    unfold cellV
    rw [List.getElem?_map, List.getD_eq_getElem?_getD, ← e, List.getElem?_eq_getElem hk]
    rfl
  · have c' : ¬ k < (ns.length : Int) := fun z => c (decide_eq_true z)
    have e : cellV ns k = 0 := by
      unfold cellV
      rw [List.getD_eq_getElem?_getD, List.getElem?_eq_none (by omega)]
      rfl
    rw [e] at q
    exact q
theorem ok_tree (D : DefAt K mg "_law_tree" s__law_tree ["script", "at", "low", "high", "things"]) (O__law_cell_at : Own P w K mg base "_law_cell_at" 1 ["script", "k"] (spCell K)) :
    ∀ n : Nat, Own P w K mg base "_law_tree" (n + 2) ["script", "at", "low", "high", "things"] (spTree K n)
  | 0 => own_none D fun vs H Q E h => by
    obtain ⟨_, _, _, _, _, _, _, _, _, _, _, _, _, _, _, h, _⟩ := h
    omega
  | n + 1 => by
    have O__law_tree := ok_tree D O__law_cell_at n
    refine own_of D sc__law_tree (fun vs H Q E h => ?_) (fun f cdv A outer s H vs Q E hr h => ?_)
    · obtain ⟨_, _, _, _, _, _, rfl, _⟩ := h
      rfl
    obtain ⟨a, ns, at', low, high, t, rfl, hS, a0, l0, l1, l2, t0, t1, hc, hn, q⟩ := h
    have nd := sc__law_tree.nd
    refine ⟨_, (pss_cons (ps_if (pt_cmpR op_eq (pv 2) (pv 3) (nomark _)) (pss_one (ps_ret (pe_tup (pa_cons pe_str (pa_cons (pv 2) pa_nil))))) pss_nil) (pss_cons (ps_set (i := 5) nd rfl (Or.inl rfl) (pe_op op_fdiv (pe_own O__law_cell_at (hr.mono (by omega)) (by rfl) (pa_cons (pv 0) (pa_cons (pe_op op_add (pv 1) (pe_op op_mod (pe_op op_add (pe_op op_mul pe_int (pv 2)) (pe_op op_mul pe_int (pv 3))) pe_int)) pa_nil))) (pe_op op_add pe_int (pv 4)))) (pss_cons (ps_set (i := 6) nd rfl (Or.inl rfl) (pe_op op_add (pe_op op_add (pv 2) pe_int) (pe_op op_mod (pv 5) (pe_op op_sub (pv 3) (pv 2))))) (pss_cons (ps_if (pt_cmpR op_eq (pv 4) pe_int (nomark _)) (pss_one (ps_set (i := 6) nd rfl (Or.inl rfl) (pe_op op_add (pv 2) pe_int))) pss_nil) (pss_cons (ps_set (i := 7) nd rfl (Or.inl rfl) (pe_own O__law_tree (hr.mono (by omega)) (by rfl) (pa_cons (pv 0) (pa_cons (pv 1) (pa_cons (pv 2) (pa_cons (pe_op op_sub (pv 6) pe_int) (pa_cons (pe_op op_sub (pv 4) pe_int) pa_nil))))))) (pss_one (ps_ret (pe_tup (pa_cons pe_str (pa_cons (pv 6) (pa_cons (pv 7) (pa_cons (pe_own O__law_tree (hr.mono (by omega)) (by rfl) (pa_cons (pv 0) (pa_cons (pv 1) (pa_cons (pv 6) (pa_cons (pv 3) (pa_cons (pv 4) pa_nil)))))) pa_nil)))))))))))), ?_⟩
    refine ⟨_, rfl, _, rfl, rfl, _, rfl, ?_⟩
    refine ite2 (fun c => ?_) (fun c => ?_)
    · have c' : low = high := by
        have z : V.int low = V.int high := of_decide_eq_true c
        injection z
      refine ⟨_, rfl, by show 2 ≤ sizeLine; decide, fun p hp => ?_⟩
      refine q _ _ (.told low) 0 (same_upd hp _) (.told upd_same) ?_
      unfold lk
      rw [if_pos ⟨rfl, c'⟩]
    have c' : low ≠ high := fun z => c (decide_eq_true (by rw [z]))
    have tp : 0 < t := by omega
    refine ⟨_, rfl, _, rfl, _, rfl, _, _, rfl, rfl, .inl ⟨by omega, by omega⟩, _, rfl, _, _, rfl, rfl, .inl ⟨by omega, by omega⟩, _, _, rfl, rfl, _, _, rfl, rfl, (by show (0 : Int) < 40; decide), _, _, rfl, rfl, ?_⟩
    have hm := Int.emod_nonneg (7 * low + 3 * high) (by omega : (40 : Int) ≠ 0)
    refine ⟨a, ns, _, rfl, hS, by omega, _, rfl, _, _, rfl, rfl, _, _, rfl, rfl, ⟨by omega, by omega⟩, ?_⟩
    refine ⟨_, rfl, _, _, rfl, rfl, _, rfl, _, rfl, _, rfl, _, _, rfl, rfl, _, _, rfl, rfl, by omega, _, _, rfl, rfl, ?_⟩
    dsimp only
    generalize cellV ns (at' + (7 * low + 3 * high) % 40) / (1 + t) = cell
    have m1 := Int.emod_nonneg cell (by omega : high - low ≠ 0)
    have m2 := Int.emod_lt_of_pos cell (by omega : 0 < high - low)
    generalize cell % (high - low) = md at m1 m2
    refine ⟨_, rfl, rfl, _, rfl, ?_⟩
    refine ite2 (fun c => ?g1) (fun c => ?g2)
    case' g1 =>
      have t1' : t = 1 := by
        have z : V.int t = V.int 1 := of_decide_eq_true c
        injection z
      refine ⟨_, rfl, _, _, rfl, rfl, ?_⟩
      dsimp only
      have hg : low < low + 1 ∧ low + 1 ≤ high ∧ (t = 1 → low + 1 - 1 = low) := by omega
      generalize low + 1 = dr at hg
    case' g2 =>
      have t1' : t ≠ 1 := fun z => c (decide_eq_true (by rw [z]))
      have hg : low < low + 1 + md ∧ low + 1 + md ≤ high ∧ (t = 1 → low + 1 + md - 1 = low) := by omega
      generalize low + 1 + md = dr at hg
    all_goals
      obtain ⟨g1, g2, g3⟩ := hg
      refine ⟨_, rfl, _, rfl, _, rfl, _, rfl, _, _, rfl, rfl, _, rfl, _, _, rfl, rfl, a, ns, at', low, dr - 1, t - 1, rfl, hS, a0, l0, by omega, by omega, by omega, by omega, by omega, by omega, fun vb H1 pb x s1 hb e1 => ?_⟩
      refine ⟨_, rfl, _, rfl, _, rfl, _, rfl, _, rfl, _, rfl, _, rfl, a, ns, at', dr, high, t, rfl, s1.seq hS, a0, by omega, by omega, by omega, by omega, by omega, .inr tp, by omega, fun vw H2 pw y s2 hw e2 => ?_⟩
      refine ⟨by show 4 ≤ sizeLine; decide, fun p hp => ?_⟩
      have s3 := same_upd hp (.tup [.str "drop", .int dr, vb, vw])
      refine q _ _ (.drop dr pb pw) (1 + max x y) (s1.trans (s2.trans s3)) (.drop upd_same ((hb.same s2).same s3) (hw.same s3)) ?_
      rw [show (t - 1).toNat = t.toNat - 1 by omega] at e1
      exact lk_mk (by omega) g1 g2 e1 e2
theorem fig_lt {c : Nat} (h : isFig c = true) : c < 128 := by
  simp [isFig] at h
  omega
theorem sig_lt {c : Nat} (h : isSig c = true) : c < 128 := by
  simp [isSig] at h
  omega
theorem lex_lt {z : List Nat} {ps : List Pc} {fs : List Nat} {r : List Pc} (h : Lex z ps fs r) : ∀ c ∈ z, c < 128 := by
  induction h with
  | done => intro c hc; cases hc
  | last _ => intro c hc; cases hc
  | fig h1 _ ih =>
    intro c hc
    rcases List.mem_cons.mp hc with rfl | hc
    · exact fig_lt h1
    · exact ih c hc
  | sgn h1 _ ih =>
    intro c hc
    rcases List.mem_cons.mp hc with rfl | hc
    · exact sig_lt h1
    · exact ih c hc
  | sgnN h1 _ _ ih =>
    intro c hc
    rcases List.mem_cons.mp hc with rfl | hc
    · exact sig_lt h1
    · exact ih c hc
theorem lk_tsize : ∀ (p : Tr) (low high : Int) (t d : Nat), lk p low high t = some d → (tsize p : Int) = high - low
  | .told f, low, high, t, d, h => by
    obtain ⟨h1, h2, h3⟩ := lk_told h
    show ((0 : Nat) : Int) = _
    omega
  | .drop f b w, low, high, t, d, h => by
    obtain ⟨h0, h1, h2, x, y, e1, e2, e⟩ := lk_drop h
    have hb := lk_tsize b _ _ _ _ e1
    have hw := lk_tsize w _ _ _ _ e2
    show ((1 + tsize b + tsize w : Nat) : Int) = _
    omega
theorem ite_all {c : Prop} {dc : Decidable c} {A R : Hp → List Nat → Prop} {G G0 : Hp → List Nat → Prop} (hG : ∀ H z, G0 H z → G H z) (hR : ∀ H z, G H z → R H z) (h1 : c → (∀ H z, G H z → R H z) → ∀ H z, G0 H z → A H z) : ∀ H z, G0 H z → if c then A H z else R H z := fun H z g => ite2 (fun y => h1 y hR H z g) (fun _ => hR H z (hG H z g))
theorem sh_inj : ∀ (p p' : Tr) (r r' : List Nat), flIn 0 60 p → flIn 0 60 p' → noFig r → noFig r' → shT p ++ r = shT p' ++ r' → p = p' ∧ r = r'
  | .told f, p', r, r', h, h', n, n', e => by
    obtain ⟨m, hm, rfl⟩ := sh_told h' (z := r') (by rw [← e]; rfl)
    obtain ⟨f0, f1⟩ := (show 0 ≤ f ∧ f ≤ 60 from h)
    have e' : 61 :: (dg f.toNat ++ r) = 61 :: (dg m ++ r') := e
    injection e' with _ e'
    obtain ⟨e1, e2⟩ := dg_split (by omega) hm n n' e'
    exact ⟨by rw [← e1, show ((f.toNat : Nat) : Int) = f by omega], e2⟩
  | .drop f b w, p', r, r', h, h', n, n', e => by
    have hh : (shT p' ++ r').head? ≠ some 61 := fun y => by
      obtain ⟨m, _, z⟩ := sh_told h (z := r) (by rw [e]; exact y)
      cases z
    obtain ⟨m, b', w', hm, rfl, hb', hw'⟩ := sh_drop h' hh
    obtain ⟨⟨f0, f1⟩, hb, hw⟩ := (show (0 ≤ f ∧ f ≤ 60) ∧ flIn 0 60 b ∧ flIn 0 60 w from h)
    have e' : dg f.toNat ++ (40 :: (shT b ++ (44 :: (shT w ++ (41 :: r))))) = dg m ++ (40 :: (shT b' ++ (44 :: (shT w' ++ (41 :: r'))))) := by
      have : shT (.drop f b w) ++ r = shT (.drop (m : Int) b' w') ++ r' := e
      simpa [shT] using this
    obtain ⟨e1, e2⟩ := dg_split (n := f.toNat) (by omega) hm (show noFig (40 :: _) from rfl) (show noFig (40 :: _) from rfl) e'
    injection e2 with _ e2
    obtain ⟨rfl, e3⟩ := sh_inj b b' _ _ hb hb' (show noFig (44 :: _) from rfl) (show noFig (44 :: _) from rfl) e2
    injection e3 with _ e3
    obtain ⟨rfl, e4⟩ := sh_inj w w' _ _ hw hw' (show noFig (41 :: _) from rfl) (show noFig (41 :: _) from rfl) e3
    injection e4 with _ e4
    exact ⟨by rw [← e1, show ((f.toNat : Nat) : Int) = f by omega], e4⟩
theorem sh_ht : ∀ p : Tr, 6 * ht p + 2 ≤ (shT p).length
  | .told f => by
    have : dg f.toNat ≠ [] := dg_ne _
    have := List.length_pos_iff.mpr this
    show 6 * 0 + 2 ≤ (61 :: dg f.toNat).length
    rw [List.length_cons]
    omega
  | .drop f b w => by
    have hb := sh_ht b
    have hw := sh_ht w
    have := List.length_pos_iff.mpr (dg_ne f.toNat)
    show 6 * (1 + max (ht b) (ht w)) + 2 ≤ (shT (.drop f b w)).length
    simp only [shT, List.length_append, List.length_cons, List.length_nil]
    omega
def td : Tr → PyData
  | .told f => .tuple [.str "told", .int f]
  | .drop f b w => .tuple [.str "drop", .int f, td b, td w]
theorem TrIn.dat {H : Hp} {v : V} {p : Tr} (h : TrIn H v p) : DatIn K H v (td p) := by
  induction h with
  | told e => exact .tup (SqT.of e) (.cons (.str _) (.cons (.int _) .nil))
  | drop e _ _ h1 h2 => exact .tup (SqT.of e) (.cons (.str _) (.cons (.int _) (.cons h1 (.cons h2 .nil))))
theorem str_told : PyData.strOk "told" = true := by decide +kernel
theorem str_drop : PyData.strOk "drop" = true := by decide +kernel
theorem td_lay : ∀ p : Tr, (td p).canLay0 = true
  | .told f => by simp [td, PyData.canLay0, PyData.canLayAll0, str_told]
  | .drop f b w => by simp [td, PyData.canLay0, PyData.canLayAll0, str_drop, td_lay b, td_lay w]
theorem td_depth : ∀ p : Tr, (td p).depth = ht p + 1
  | .told f => by simp [td, PyData.depth, PyData.depthAll, ht]
  | .drop f b w => by
    simp only [td, PyData.depth, PyData.depthAll, ht, td_depth b, td_depth w]
    omega
theorem td_shaped {p : Tr} (h : ht p ≤ 63) : PySem.SeqAt.shaped (td p) = true := by
  unfold PySem.SeqAt.shaped
  rw [td_lay, td_depth, decide_eq_true (by omega)]
  rfl
theorem dat5 {H : Hp} {l : Addr} {b1 b2 b3 b4 b5 : Bool} (e : H l = some (.lst [.bl b1, .bl b2, .bl b3, .bl b4, .bl b5])) : DatIn K H (.ref l) (.list [.bool b1, .bool b2, .bool b3, .bool b4, .bool b5]) :=
  .lst (SqL.of e) (.cons (.bl _) (.cons (.bl _) (.cons (.bl _) (.cons (.bl _) (.cons (.bl _) .nil)))))
set_option maxHeartbeats 1000000 in
theorem ok_law {f : Addr} {fd : FuncData} (F : Fun K "law" "law" s_law f fd) (M_isinstance : mg "isinstance" = none) (M_tuple : mg "tuple" = none) (k1 : PySem.W.kitOne K (.type "tuple") (.type "tuple") = some true)
    (O__law_cell_at : Own P w K mg base "_law_cell_at" 1 ["script", "k"] (spCell K)) (O__law_tree : Own P w K mg base "_law_tree" 15 ["script", "at", "low", "high", "things"] (spTree K 13)) (O__law_text : Own P w K mg base "_law_text" 14 ["tree"] (spSh 13))
    (O__law_spoiled : Own P w K mg base "_law_spoiled" 2 ["text", "cell", "other"] spSpoil) (O__law_odd : Own P w K mg base "_law_odd" 1 ["cell"] spOdd) (O__law_due : Own P w K mg base "_law_due" 2 ["text"] spDue) (O__law_told : Own P w K mg base "_law_told" 6 ["text"] spTold) :
    FnOk P w K mg base CX0 16 f fd ["script"] (spLaw K) := by
  refine F.ok sc_law (fun vs H Q E h => ?_) (fun cdv A outer s H vs Q E hr h => ?_)
  · obtain ⟨a, ns, rfl, _⟩ := h
    rfl
  obtain ⟨a, ns, rfl, hS, h63, q⟩ := h
  have nd := sc_law.nd
  refine ⟨_, (pss_cons (ps_set (i := 1) nd rfl (Or.inl rfl) (pe_op op_mod (pe_own O__law_cell_at (hr.mono (by omega)) (by rfl) (pa_cons (pv 0) (pa_cons pe_int pa_nil))) pe_int)) (pss_cons (ps_set (i := 2) nd rfl (Or.inl rfl) (pe_own O__law_text (hr.mono (by omega)) (by rfl) (pa_cons (pe_own O__law_tree (hr.mono (by omega)) (by rfl) (pa_cons (pv 0) (pa_cons pe_int (pa_cons pe_int (pa_cons (pv 1) (pa_cons (pe_op op_add pe_int (pe_op op_mod (pe_own O__law_cell_at (hr.mono (by omega)) (by rfl) (pa_cons (pv 0) (pa_cons pe_int pa_nil))) pe_int)) pa_nil)))))) pa_nil))) (pss_cons (ps_if (pt_cmpR op_gt (pe_op op_mod (pe_own O__law_cell_at (hr.mono (by omega)) (by rfl) (pa_cons (pv 0) (pa_cons pe_int pa_nil))) pe_int) pe_int (nomark _)) (pss_one (ps_set (i := 2) nd rfl (Or.inl rfl) (pe_own O__law_spoiled (hr.mono (by omega)) (by rfl) (pa_cons (pv 2) (pa_cons (pe_own O__law_cell_at (hr.mono (by omega)) (by rfl) (pa_cons (pv 0) (pa_cons pe_int pa_nil))) (pa_cons (pe_own O__law_cell_at (hr.mono (by omega)) (by rfl) (pa_cons (pv 0) (pa_cons pe_int pa_nil))) pa_nil)))))) pss_nil) (pss_cons (ps_if (pt_cmpR op_eq (pe_op op_mod (pe_op op_fdiv (pe_own O__law_cell_at (hr.mono (by omega)) (by rfl) (pa_cons (pv 0) (pa_cons pe_int pa_nil))) pe_int) pe_int) pe_int (nomark _)) (pss_one (ps_set (i := 2) nd rfl (Or.inl rfl) (pe_own O__law_odd (hr.mono (by omega)) (by rfl) (pa_cons (pe_own O__law_cell_at (hr.mono (by omega)) (by rfl) (pa_cons (pv 0) (pa_cons pe_int pa_nil))) pa_nil)))) pss_nil) (pss_cons (ps_set (i := 3) nd rfl (Or.inl rfl) (pe_own O__law_due (hr.mono (by omega)) (by rfl) (pa_cons (pv 2) pa_nil))) (pss_cons (ps_set (i := 4) nd rfl (Or.inl rfl) (pe_own O__law_told (hr.mono (by omega)) (by rfl) (pa_cons (pv 2) pa_nil))) (pss_cons (ps_if (pt_cmpR op_isN (pv 3) pe_non (nomark _)) (pss_one (ps_ret (pe_cmpR (op_eqD hr.units) (pv 4) (pe_lst (pa_cons pe_bl (pa_cons pe_bl (pa_cons pe_bl (pa_cons pe_bl (pa_cons pe_bl pa_nil)))))) (nomark _)))) pss_nil) (pss_one (ps_ret (pe_and (pe_callB call_isinst (by rfl) M_isinstance B_isinstance (pa_cons (pv 4) (pa_cons (pe_bltn (v := .ty "tuple") (by rfl) M_tuple B_tuple (by rfl)) pa_nil))) (pe_one (pe_cmpR (op_eqD hr.units) (pv 4) (pv 3) (nomark _))))))))))))), ?_⟩
  refine ⟨_, rfl, a, ns, 0, rfl, hS, by omega, _, _, rfl, rfl, (by show (0 : Int) < 13; decide), ?_⟩
  have hf := Int.emod_nonneg (cellV ns 0) (by omega : (13 : Int) ≠ 0)
  have hf' := Int.emod_lt_of_pos (cellV ns 0) (by omega : (0 : Int) < 13)
  dsimp only
  generalize cellV ns 0 % 13 = fl at hf hf'
  refine ⟨_, rfl, _, rfl, _, rfl, a, ns, 1, rfl, hS, by omega, _, _, rfl, rfl, (by show (0 : Int) < 4; decide), _, _, rfl, rfl, ?_⟩
  dsimp only
  have t0 : 1 ≤ 1 + cellV ns 1 % 4 ∧ 1 + cellV ns 1 % 4 ≤ 6 := by omega
  generalize 1 + cellV ns 1 % 4 = t at t0
  refine ⟨a, ns, 6, 0, fl, t, rfl, hS, by omega, by omega, by omega, by omega, by omega, by omega, .inr (by omega), by omega, fun v H1 p d s1 hT hl => ?_⟩
  have hh := lk_ht _ _ _ _ _ hl
  have hd := lk_le _ _ _ _ _ hl
  have hts := lk_tsize _ _ _ _ _ hl
  have hfl : flIn 0 60 p := flIn_mono (by omega) (by omega) p (lk_flIn _ _ _ _ _ hl)
  have hS1 := s1.seq hS
  refine ⟨v, p, rfl, hT, by omega, hfl, by omega, ?_⟩
  have z1 : ∀ c ∈ shT p, c < 128 := lex_lt (lex_all p hfl)
  have z2 : (shT p).length ≤ 99 := by have := sh_len p; omega
  generalize shT p = z at z1 z2
  clear hfl hts hd hh hl hT
  refine ⟨_, rfl, a, ns, 2, rfl, hS1, by omega, _, _, rfl, rfl, (by show (0 : Int) < 4; decide), _, _, rfl, rfl, _, rfl, ?_⟩
  show @ite _ _ _ _ _
  have g : (∀ c ∈ z, c < 128) ∧ z.length ≤ 99 ∧ Same H H1 := ⟨z1, by omega, s1⟩
  clear hS1 s1 z1 z2
  revert H1 z g
  refine ite_all (G0 := fun H1 z => (∀ c ∈ z, c < 128) ∧ z.length ≤ 99 ∧ Same H H1) (G := fun H1 z => (∀ c ∈ z, c < 128) ∧ z.length ≤ 100 ∧ Same H H1) (fun H z g => ⟨g.1, by omega, g.2.2⟩) ?_ ?_
  case refine_2 =>
    rintro _ kk H1 z ⟨z1, z2, s1⟩
    have hS1 := s1.seq hS
    exact ⟨_, rfl, _, rfl, a, ns, 3, rfl, hS1, by omega, _, rfl, a, ns, 4, rfl, hS1, by omega, z, _, _, rfl, z1, by omega, fun z' h1 h2 => kk H1 z' ⟨h1, by omega, s1⟩⟩
  rintro H1 z ⟨z1, z2, s1⟩
  have hS1 := s1.seq hS
  refine ⟨_, rfl, a, ns, 2, rfl, hS1, by omega, _, _, rfl, rfl, ⟨by decide, by decide⟩, _, _, rfl, rfl, (by show (0 : Int) < 8; decide), rfl, _, rfl, ?_⟩
  show @ite _ _ _ _ _
  have g : (∀ c ∈ z, c < 128) ∧ z.length ≤ 100 ∧ Same H H1 := ⟨z1, by omega, s1⟩
  clear hS1 s1 z1 z2
  revert H1 z g
  refine ite_all (G0 := fun H1 z => (∀ c ∈ z, c < 128) ∧ z.length ≤ 100 ∧ Same H H1) (G := fun H1 z => (∀ c ∈ z, c < 128) ∧ z.length ≤ 100 ∧ Same H H1) (fun H z g => g) ?_ ?_
  case refine_2 =>
    rintro _ kk H1 z ⟨z1, z2, s1⟩
    have hS1 := s1.seq hS
    exact ⟨_, rfl, a, ns, 5, rfl, hS1, by omega, _, rfl, fun z' H' h1 h2 h3 => kk H' z' ⟨h1, by omega, s1.trans h3⟩⟩
  rintro H1 z ⟨z1, z2, s1⟩
  refine ⟨_, rfl, z, rfl, z1, by omega, fun p v H2 e hp s2 hT => ?_, fun no H2 s2 => ?_⟩
  · have hp63 : ht p ≤ 63 := by
      have := sh_ht p
      rw [← e] at this
      omega
    refine ⟨_, rfl, z, rfl, z1, by omega, fun p' v' H3 e' hp' s3 hT' => ?_, fun no => absurd ⟨e, hp⟩ (no p)⟩
    obtain ⟨rfl, _⟩ := sh_inj p p' [] [] hp hp' trivial trivial (by rw [← e, ← e'])
    refine ⟨_, rfl, rfl, _, rfl, ?_⟩
    rw [decide_eq_false hT.ne]
    refine iteF ?_
    have dd := SeqAt.eqv_refl (td p) (td_lay p)
    obtain ⟨ta, xs, ev, ea⟩ : ∃ ta xs, v' = .ref ta ∧ H3 ta = some (.tup xs) := by
      cases hT' with
      | told e9 => exact ⟨_, _, rfl, e9⟩
      | drop e9 _ _ => exact ⟨_, _, rfl, e9⟩
    subst ev
    refine ⟨_, rfl, _, _, _, _, _, rfl, rfl, .tup ea, k1, _, rfl, iteT ?_⟩
    refine ⟨_, rfl, _, rfl, td p, td p, hT'.dat, (hT.same s3).dat, td_shaped hp63, td_shaped hp63, ?_⟩
    rw [if_neg Bool.false_ne_true, dd]
    exact q _
  · refine ⟨_, rfl, z, rfl, z1, by omega, fun p' v' H3 e' hp' s3 hT' => absurd ⟨e', hp'⟩ (no p'), fun _ H3 y s3 ey => ?_⟩
    refine ⟨_, rfl, rfl, _, rfl, ?_⟩
    rw [decide_eq_true rfl]
    refine iteT ⟨_, rfl, by show 5 ≤ sizeLine; decide, fun l hl => ?_⟩
    have s4 := same_upd hl (.lst [.bl false, .bl false, .bl false, .bl true, .bl true])
    exact ⟨_, _, dat5 (s4 _ _ ey), dat5 upd_same, by decide, by decide, q _⟩
end
theorem all_mk {l : PySem.W.OpenLaw} {w : World} {K : PySem.W.Frag} {h : Heap} {mg : Str → Option Value} {fa f1 f2 f3 f4 f5 f6 f7 f8 f9 f10 f11 f12 f13 f14 f15 f16 f17 f18 f19 : Addr} (X : K.In h) (G : h.Ns mainGlobals mg) (hfa : mg "law" = some (.ref fa))
    {od1 an1 od2 an2 od3 an3 od4 an4 od5 an5 od6 an6 od7 an7 od8 an8 od9 an9 od10 an10 od11 an11 od12 an12 od13 an13 od14 an14 od15 an15 od16 an16 od17 an17 od18 an18 od19 an19 : Option Addr} {sl1 sl2 sl3 sl4 sl5 sl6 sl7 sl8 sl9 sl10 sl11 sl12 sl13 sl14 sl15 sl16 sl17 sl18 sl19 : Array (Option Value)} {oc1 kV1 dc1 pm1 cd1 ct1 oc2 kV2 dc2 pm2 cd2 ct2 oc3 kV3 dc3 pm3 cd3 ct3 oc4 kV4 dc4 pm4 cd4 ct4 oc5 kV5 dc5 pm5 cd5 ct5 oc6 kV6 dc6 pm6 cd6 ct6 oc7 kV7 dc7 pm7 cd7 ct7 oc8 kV8 dc8 pm8 cd8 ct8 oc9 kV9 dc9 pm9 cd9 ct9 oc10 kV10 dc10 pm10 cd10 ct10 oc11 kV11 dc11 pm11 cd11 ct11 oc12 kV12 dc12 pm12 cd12 ct12 oc13 kV13 dc13 pm13 cd13 ct13 oc14 kV14 dc14 pm14 cd14 ct14 oc15 kV15 dc15 pm15 cd15 ct15 oc16 kV16 dc16 pm16 cd16 ct16 oc17 kV17 dc17 pm17 cd17 ct17 oc18 kV18 dc18 pm18 cd18 ct18 oc19 kV19 dc19 pm19 cd19 ct19 : Value}
    {tk_MOST_TREE_FLOORS tk_FIGURES tk_SIGNS : Tok}
    {c_FloorError c_NoCase c_NoPlan c_NoFloor c_BadLine : Addr}
    (a1 : PySem.W.nsIn K mainGlobals "read" = some (some (.ref f1))) (l1 : K.lookup f1 = some ⟨oc1, od1, .func (PySem.W.fnOf "read" "read" (defArgs s_read) (defBody s_read) (defScope s_read) .none kV1 dc1 pm1 an1 cd1 ct1), sl1⟩) (c1 : PySem.W.codeIn K cd1 "read" = true) (k1 : PySem.W.keepIn K (.ref f1) = true)
    (a2 : PySem.W.nsIn K mainGlobals "make_last" = some (some (.ref f2))) (l2 : K.lookup f2 = some ⟨oc2, od2, .func (PySem.W.fnOf "make_last" "make_last" (defArgs s_make_last) (defBody s_make_last) (defScope s_make_last) .none kV2 dc2 pm2 an2 cd2 ct2), sl2⟩) (c2 : PySem.W.codeIn K cd2 "make_last" = true) (k2 : PySem.W.keepIn K (.ref f2) = true)
    (a3 : PySem.W.nsIn K mainGlobals "replace_last" = some (some (.ref f3))) (l3 : K.lookup f3 = some ⟨oc3, od3, .func (PySem.W.fnOf "replace_last" "replace_last" (defArgs s_replace_last) (defBody s_replace_last) (defScope s_replace_last) .none kV3 dc3 pm3 an3 cd3 ct3), sl3⟩) (c3 : PySem.W.codeIn K cd3 "replace_last" = true) (k3 : PySem.W.keepIn K (.ref f3) = true)
    (a4 : PySem.W.nsIn K mainGlobals "forms" = some (some (.ref f4))) (l4 : K.lookup f4 = some ⟨oc4, od4, .func (PySem.W.fnOf "forms" "forms" (defArgs s_forms) (defBody s_forms) (defScope s_forms) .none kV4 dc4 pm4 an4 cd4 ct4), sl4⟩) (c4 : PySem.W.codeIn K cd4 "forms" = true) (k4 : PySem.W.keepIn K (.ref f4) = true)
    (a5 : PySem.W.nsIn K mainGlobals "form_of" = some (some (.ref f5))) (l5 : K.lookup f5 = some ⟨oc5, od5, .func (PySem.W.fnOf "form_of" "form_of" (defArgs s_form_of) (defBody s_form_of) (defScope s_form_of) .none kV5 dc5 pm5 an5 cd5 ct5), sl5⟩) (c5 : PySem.W.codeIn K cd5 "form_of" = true) (k5 : PySem.W.keepIn K (.ref f5) = true)
    (a6 : PySem.W.nsIn K mainGlobals "pieces_of" = some (some (.ref f6))) (l6 : K.lookup f6 = some ⟨oc6, od6, .func (PySem.W.fnOf "pieces_of" "pieces_of" (defArgs s_pieces_of) (defBody s_pieces_of) (defScope s_pieces_of) .none kV6 dc6 pm6 an6 cd6 ct6), sl6⟩) (c6 : PySem.W.codeIn K cd6 "pieces_of" = true) (k6 : PySem.W.keepIn K (.ref f6) = true)
    (a7 : PySem.W.nsIn K mainGlobals "add_number" = some (some (.ref f7))) (l7 : K.lookup f7 = some ⟨oc7, od7, .func (PySem.W.fnOf "add_number" "add_number" (defArgs s_add_number) (defBody s_add_number) (defScope s_add_number) .none kV7 dc7 pm7 an7 cd7 ct7), sl7⟩) (c7 : PySem.W.codeIn K cd7 "add_number" = true) (k7 : PySem.W.keepIn K (.ref f7) = true)
    (a8 : PySem.W.nsIn K mainGlobals "number_of" = some (some (.ref f8))) (l8 : K.lookup f8 = some ⟨oc8, od8, .func (PySem.W.fnOf "number_of" "number_of" (defArgs s_number_of) (defBody s_number_of) (defScope s_number_of) .none kV8 dc8 pm8 an8 cd8 ct8), sl8⟩) (c8 : PySem.W.codeIn K cd8 "number_of" = true) (k8 : PySem.W.keepIn K (.ref f8) = true)
    (a9 : PySem.W.nsIn K mainGlobals "_law_cell_at" = some (some (.ref f9))) (l9 : K.lookup f9 = some ⟨oc9, od9, .func (PySem.W.fnOf "_law_cell_at" "_law_cell_at" (defArgs s__law_cell_at) (defBody s__law_cell_at) (defScope s__law_cell_at) .none kV9 dc9 pm9 an9 cd9 ct9), sl9⟩) (c9 : PySem.W.codeIn K cd9 "_law_cell_at" = true) (k9 : PySem.W.keepIn K (.ref f9) = true)
    (a10 : PySem.W.nsIn K mainGlobals "_law_tree" = some (some (.ref f10))) (l10 : K.lookup f10 = some ⟨oc10, od10, .func (PySem.W.fnOf "_law_tree" "_law_tree" (defArgs s__law_tree) (defBody s__law_tree) (defScope s__law_tree) .none kV10 dc10 pm10 an10 cd10 ct10), sl10⟩) (c10 : PySem.W.codeIn K cd10 "_law_tree" = true) (k10 : PySem.W.keepIn K (.ref f10) = true)
    (a11 : PySem.W.nsIn K mainGlobals "_law_which" = some (some (.ref f11))) (l11 : K.lookup f11 = some ⟨oc11, od11, .func (PySem.W.fnOf "_law_which" "_law_which" (defArgs s__law_which) (defBody s__law_which) (defScope s__law_which) .none kV11 dc11 pm11 an11 cd11 ct11), sl11⟩) (c11 : PySem.W.codeIn K cd11 "_law_which" = true) (k11 : PySem.W.keepIn K (.ref f11) = true)
    (a12 : PySem.W.nsIn K mainGlobals "_law_text" = some (some (.ref f12))) (l12 : K.lookup f12 = some ⟨oc12, od12, .func (PySem.W.fnOf "_law_text" "_law_text" (defArgs s__law_text) (defBody s__law_text) (defScope s__law_text) .none kV12 dc12 pm12 an12 cd12 ct12), sl12⟩) (c12 : PySem.W.codeIn K cd12 "_law_text" = true) (k12 : PySem.W.keepIn K (.ref f12) = true)
    (a13 : PySem.W.nsIn K mainGlobals "_law_sign_by" = some (some (.ref f13))) (l13 : K.lookup f13 = some ⟨oc13, od13, .func (PySem.W.fnOf "_law_sign_by" "_law_sign_by" (defArgs s__law_sign_by) (defBody s__law_sign_by) (defScope s__law_sign_by) .none kV13 dc13 pm13 an13 cd13 ct13), sl13⟩) (c13 : PySem.W.codeIn K cd13 "_law_sign_by" = true) (k13 : PySem.W.keepIn K (.ref f13) = true)
    (a14 : PySem.W.nsIn K mainGlobals "_law_odd" = some (some (.ref f14))) (l14 : K.lookup f14 = some ⟨oc14, od14, .func (PySem.W.fnOf "_law_odd" "_law_odd" (defArgs s__law_odd) (defBody s__law_odd) (defScope s__law_odd) .none kV14 dc14 pm14 an14 cd14 ct14), sl14⟩) (c14 : PySem.W.codeIn K cd14 "_law_odd" = true) (k14 : PySem.W.keepIn K (.ref f14) = true)
    (a15 : PySem.W.nsIn K mainGlobals "_law_end" = some (some (.ref f15))) (l15 : K.lookup f15 = some ⟨oc15, od15, .func (PySem.W.fnOf "_law_end" "_law_end" (defArgs s__law_end) (defBody s__law_end) (defScope s__law_end) .none kV15 dc15 pm15 an15 cd15 ct15), sl15⟩) (c15 : PySem.W.codeIn K cd15 "_law_end" = true) (k15 : PySem.W.keepIn K (.ref f15) = true)
    (a16 : PySem.W.nsIn K mainGlobals "_law_due" = some (some (.ref f16))) (l16 : K.lookup f16 = some ⟨oc16, od16, .func (PySem.W.fnOf "_law_due" "_law_due" (defArgs s__law_due) (defBody s__law_due) (defScope s__law_due) .none kV16 dc16 pm16 an16 cd16 ct16), sl16⟩) (c16 : PySem.W.codeIn K cd16 "_law_due" = true) (k16 : PySem.W.keepIn K (.ref f16) = true)
    (a17 : PySem.W.nsIn K mainGlobals "_law_told" = some (some (.ref f17))) (l17 : K.lookup f17 = some ⟨oc17, od17, .func (PySem.W.fnOf "_law_told" "_law_told" (defArgs s__law_told) (defBody s__law_told) (defScope s__law_told) .none kV17 dc17 pm17 an17 cd17 ct17), sl17⟩) (c17 : PySem.W.codeIn K cd17 "_law_told" = true) (k17 : PySem.W.keepIn K (.ref f17) = true)
    (a18 : PySem.W.nsIn K mainGlobals "_law_spoiled" = some (some (.ref f18))) (l18 : K.lookup f18 = some ⟨oc18, od18, .func (PySem.W.fnOf "_law_spoiled" "_law_spoiled" (defArgs s__law_spoiled) (defBody s__law_spoiled) (defScope s__law_spoiled) .none kV18 dc18 pm18 an18 cd18 ct18), sl18⟩) (c18 : PySem.W.codeIn K cd18 "_law_spoiled" = true) (k18 : PySem.W.keepIn K (.ref f18) = true)
    (a19 : PySem.W.nsIn K mainGlobals "law" = some (some (.ref f19))) (l19 : K.lookup f19 = some ⟨oc19, od19, .func (PySem.W.fnOf "law" "law" (defArgs s_law) (defBody s_law) (defScope s_law) .none kV19 dc19 pm19 an19 cd19 ct19), sl19⟩) (c19 : PySem.W.codeIn K cd19 "law" = true) (k19 : PySem.W.keepIn K (.ref f19) = true)
    (z_range : PySem.W.nsIn K mainGlobals "range" = some none)
    (z_len : PySem.W.nsIn K mainGlobals "len" = some none)
    (z_isinstance : PySem.W.nsIn K mainGlobals "isinstance" = some none)
    (z_int : PySem.W.nsIn K mainGlobals "int" = some none)
    (z_str : PySem.W.nsIn K mainGlobals "str" = some none)
    (z_tuple : PySem.W.nsIn K mainGlobals "tuple" = some none)
    (z_ValueError : PySem.W.nsIn K mainGlobals "ValueError" = some none)
    (v_MOST_TREE_FLOORS : PySem.W.nsIn K mainGlobals "MOST_TREE_FLOORS" = some (some (.int 60 tk_MOST_TREE_FLOORS)))
    (v_FIGURES : PySem.W.nsIn K mainGlobals "FIGURES" = some (some (.str "0123456789" tk_FIGURES)))
    (v_SIGNS : PySem.W.nsIn K mainGlobals "SIGNS" = some (some (.str "=(,)" tk_SIGNS)))
    (q_int_int : PySem.W.kitOne K (.type "int") (.type "int") = some true)
    (q_tuple_tuple : PySem.W.kitOne K (.type "tuple") (.type "tuple") = some true)
    (q_int_tuple : PySem.W.kitOne K (.type "int") (.type "tuple") = some false)
    (q_str_tuple : PySem.W.kitOne K (.type "str") (.type "tuple") = some false)
    (q_str_int : PySem.W.kitOne K (.type "str") (.type "int") = some false)
    (y_FloorError : PySem.W.nsIn K mainGlobals "FloorError" = some (some (.ref c_FloorError)))
    (y_NoCase : PySem.W.nsIn K mainGlobals "NoCase" = some (some (.ref c_NoCase)))
    (y_NoPlan : PySem.W.nsIn K mainGlobals "NoPlan" = some (some (.ref c_NoPlan)))
    (y_NoFloor : PySem.W.nsIn K mainGlobals "NoFloor" = some (some (.ref c_NoFloor)))
    (y_BadLine : PySem.W.nsIn K mainGlobals "BadLine" = some (some (.ref c_BadLine)))
    (eex_FloorError : PySem.W.excIn K c_FloorError [.type "ValueError", .type "Exception", .type "BaseException", .type "object"] "ValueError.__new__" = true)
    (esu_FloorError : PySem.W.mroIn K c_FloorError (.ref c_FloorError) = some true)
    (eex_NoCase : PySem.W.excIn K c_NoCase [.type "ValueError", .type "Exception", .type "BaseException", .type "object"] "ValueError.__new__" = true)
    (esu_NoCase : PySem.W.mroIn K c_NoCase (.ref c_FloorError) = some true)
    (ega_NoCase : PySem.W.findIn K (.ref c_NoCase) "__getattribute__" = some (some (.builtin "BaseException.__getattribute__")))
    (egt_NoCase : PySem.W.findIn K (.ref c_NoCase) "__getattr__" = some none)
    (eca_NoCase : PySem.W.findIn K (.ref c_NoCase) "__class__" = some (some (.builtin "object.__class__")))
    (emo_NoCase : PySem.W.mroIn K c_NoCase (.type "object") = some true)
    (emb_NoCase : PySem.W.mroIn K c_NoCase (.type "BaseException") = some true)
    (ecl_NoCase : (PySem.W.clsIn K c_NoCase).isSome = true)
    (ekv_NoCase : PySem.W.kitOne K (.ref c_NoCase) (.type "ValueError") = some true)
    (ek_NoCase_NoCase : PySem.W.kitOne K (.ref c_NoCase) (.ref c_NoCase) = some true)
    (ek_NoPlan_NoCase : PySem.W.kitOne K (.ref c_NoCase) (.ref c_NoPlan) = some false)
    (ek_NoFloor_NoCase : PySem.W.kitOne K (.ref c_NoCase) (.ref c_NoFloor) = some false)
    (ek_BadLine_NoCase : PySem.W.kitOne K (.ref c_NoCase) (.ref c_BadLine) = some false)
    (eex_NoPlan : PySem.W.excIn K c_NoPlan [.type "ValueError", .type "Exception", .type "BaseException", .type "object"] "ValueError.__new__" = true)
    (esu_NoPlan : PySem.W.mroIn K c_NoPlan (.ref c_FloorError) = some true)
    (ega_NoPlan : PySem.W.findIn K (.ref c_NoPlan) "__getattribute__" = some (some (.builtin "BaseException.__getattribute__")))
    (egt_NoPlan : PySem.W.findIn K (.ref c_NoPlan) "__getattr__" = some none)
    (eca_NoPlan : PySem.W.findIn K (.ref c_NoPlan) "__class__" = some (some (.builtin "object.__class__")))
    (emo_NoPlan : PySem.W.mroIn K c_NoPlan (.type "object") = some true)
    (emb_NoPlan : PySem.W.mroIn K c_NoPlan (.type "BaseException") = some true)
    (ecl_NoPlan : (PySem.W.clsIn K c_NoPlan).isSome = true)
    (ekv_NoPlan : PySem.W.kitOne K (.ref c_NoPlan) (.type "ValueError") = some true)
    (ek_NoCase_NoPlan : PySem.W.kitOne K (.ref c_NoPlan) (.ref c_NoCase) = some false)
    (ek_NoPlan_NoPlan : PySem.W.kitOne K (.ref c_NoPlan) (.ref c_NoPlan) = some true)
    (ek_NoFloor_NoPlan : PySem.W.kitOne K (.ref c_NoPlan) (.ref c_NoFloor) = some false)
    (ek_BadLine_NoPlan : PySem.W.kitOne K (.ref c_NoPlan) (.ref c_BadLine) = some false)
    (eex_NoFloor : PySem.W.excIn K c_NoFloor [.type "ValueError", .type "Exception", .type "BaseException", .type "object"] "ValueError.__new__" = true)
    (esu_NoFloor : PySem.W.mroIn K c_NoFloor (.ref c_FloorError) = some true)
    (ega_NoFloor : PySem.W.findIn K (.ref c_NoFloor) "__getattribute__" = some (some (.builtin "BaseException.__getattribute__")))
    (egt_NoFloor : PySem.W.findIn K (.ref c_NoFloor) "__getattr__" = some none)
    (eca_NoFloor : PySem.W.findIn K (.ref c_NoFloor) "__class__" = some (some (.builtin "object.__class__")))
    (emo_NoFloor : PySem.W.mroIn K c_NoFloor (.type "object") = some true)
    (emb_NoFloor : PySem.W.mroIn K c_NoFloor (.type "BaseException") = some true)
    (ecl_NoFloor : (PySem.W.clsIn K c_NoFloor).isSome = true)
    (ekv_NoFloor : PySem.W.kitOne K (.ref c_NoFloor) (.type "ValueError") = some true)
    (ek_NoCase_NoFloor : PySem.W.kitOne K (.ref c_NoFloor) (.ref c_NoCase) = some false)
    (ek_NoPlan_NoFloor : PySem.W.kitOne K (.ref c_NoFloor) (.ref c_NoPlan) = some false)
    (ek_NoFloor_NoFloor : PySem.W.kitOne K (.ref c_NoFloor) (.ref c_NoFloor) = some true)
    (ek_BadLine_NoFloor : PySem.W.kitOne K (.ref c_NoFloor) (.ref c_BadLine) = some false)
    (eex_BadLine : PySem.W.excIn K c_BadLine [.type "ValueError", .type "Exception", .type "BaseException", .type "object"] "ValueError.__new__" = true)
    (esu_BadLine : PySem.W.mroIn K c_BadLine (.ref c_FloorError) = some true)
    (ega_BadLine : PySem.W.findIn K (.ref c_BadLine) "__getattribute__" = some (some (.builtin "BaseException.__getattribute__")))
    (egt_BadLine : PySem.W.findIn K (.ref c_BadLine) "__getattr__" = some none)
    (eca_BadLine : PySem.W.findIn K (.ref c_BadLine) "__class__" = some (some (.builtin "object.__class__")))
    (emo_BadLine : PySem.W.mroIn K c_BadLine (.type "object") = some true)
    (emb_BadLine : PySem.W.mroIn K c_BadLine (.type "BaseException") = some true)
    (ecl_BadLine : (PySem.W.clsIn K c_BadLine).isSome = true)
    (ekv_BadLine : PySem.W.kitOne K (.ref c_BadLine) (.type "ValueError") = some true)
    (ek_NoCase_BadLine : PySem.W.kitOne K (.ref c_BadLine) (.ref c_NoCase) = some false)
    (ek_NoPlan_BadLine : PySem.W.kitOne K (.ref c_BadLine) (.ref c_NoPlan) = some false)
    (ek_NoFloor_BadLine : PySem.W.kitOne K (.ref c_BadLine) (.ref c_NoFloor) = some false)
    (ek_BadLine_BadLine : PySem.W.kitOne K (.ref c_BadLine) (.ref c_BadLine) = some true)
    (xcg : PySem.W.specialIn K (.builtin "object.__class__") "__get__" = some (some (.builtin "getset_descriptor.__get__")))
    (xct : PySem.W.takesIn K (.builtin "object.__class__") = some true)
    : ∃ fd : FuncData, (∀ (s : Shared) (v : Value), BindsTo s fd ⟨[v], []⟩ [("script", v)]) ∧ ∀ base : Heap, K.In base → base.Ns mainGlobals mg → FnOk l.prog w K mg base CX0 16 fa fd ["script"] (spLaw K) := by
  have e := hfa.symm.trans (PySem.W.mg_of X G a19)
  cases e
  have F_read := fun_mk (st := s_read) l1 c1 k1
  have D_read : DefAt K mg "read" s_read ["text"] := ⟨_, _, F_read, PySem.W.mg_of X G a1, F_read.binds (ps := ["text"]) fun _ _ _ _ _ _ us hl => match us, hl with | [_], _ => rfl⟩
  have F_make_last := fun_mk (st := s_make_last) l2 c2 k2
  have D_make_last : DefAt K mg "make_last" s_make_last ["held"] := ⟨_, _, F_make_last, PySem.W.mg_of X G a2, F_make_last.binds (ps := ["held"]) fun _ _ _ _ _ _ us hl => match us, hl with | [_], _ => rfl⟩
  have F_replace_last := fun_mk (st := s_replace_last) l3 c3 k3
  have D_replace_last : DefAt K mg "replace_last" s_replace_last ["held", "many", "tree"] := ⟨_, _, F_replace_last, PySem.W.mg_of X G a3, F_replace_last.binds (ps := ["held", "many", "tree"]) fun _ _ _ _ _ _ us hl => match us, hl with | [_, _, _], _ => rfl⟩
  have F_forms := fun_mk (st := s_forms) l4 c4 k4
  have D_forms : DefAt K mg "forms" s_forms ["pieces"] := ⟨_, _, F_forms, PySem.W.mg_of X G a4, F_forms.binds (ps := ["pieces"]) fun _ _ _ _ _ _ us hl => match us, hl with | [_], _ => rfl⟩
  have F_form_of := fun_mk (st := s_form_of) l5 c5 k5
  have D_form_of : DefAt K mg "form_of" s_form_of ["piece"] := ⟨_, _, F_form_of, PySem.W.mg_of X G a5, F_form_of.binds (ps := ["piece"]) fun _ _ _ _ _ _ us hl => match us, hl with | [_], _ => rfl⟩
  have F_pieces_of := fun_mk (st := s_pieces_of) l6 c6 k6
  have D_pieces_of : DefAt K mg "pieces_of" s_pieces_of ["text"] := ⟨_, _, F_pieces_of, PySem.W.mg_of X G a6, F_pieces_of.binds (ps := ["text"]) fun _ _ _ _ _ _ us hl => match us, hl with | [_], _ => rfl⟩
  have F_add_number := fun_mk (st := s_add_number) l7 c7 k7
  have D_add_number : DefAt K mg "add_number" s_add_number ["pieces", "figures"] := ⟨_, _, F_add_number, PySem.W.mg_of X G a7, F_add_number.binds (ps := ["pieces", "figures"]) fun _ _ _ _ _ _ us hl => match us, hl with | [_, _], _ => rfl⟩
  have F_number_of := fun_mk (st := s_number_of) l8 c8 k8
  have D_number_of : DefAt K mg "number_of" s_number_of ["figures"] := ⟨_, _, F_number_of, PySem.W.mg_of X G a8, F_number_of.binds (ps := ["figures"]) fun _ _ _ _ _ _ us hl => match us, hl with | [_], _ => rfl⟩
  have F__law_cell_at := fun_mk (st := s__law_cell_at) l9 c9 k9
  have D__law_cell_at : DefAt K mg "_law_cell_at" s__law_cell_at ["script", "k"] := ⟨_, _, F__law_cell_at, PySem.W.mg_of X G a9, F__law_cell_at.binds (ps := ["script", "k"]) fun _ _ _ _ _ _ us hl => match us, hl with | [_, _], _ => rfl⟩
  have F__law_tree := fun_mk (st := s__law_tree) l10 c10 k10
  have D__law_tree : DefAt K mg "_law_tree" s__law_tree ["script", "at", "low", "high", "things"] := ⟨_, _, F__law_tree, PySem.W.mg_of X G a10, F__law_tree.binds (ps := ["script", "at", "low", "high", "things"]) fun _ _ _ _ _ _ us hl => match us, hl with | [_, _, _, _, _], _ => rfl⟩
  have F__law_which := fun_mk (st := s__law_which) l11 c11 k11
  have D__law_which : DefAt K mg "_law_which" s__law_which ["e"] := ⟨_, _, F__law_which, PySem.W.mg_of X G a11, F__law_which.binds (ps := ["e"]) fun _ _ _ _ _ _ us hl => match us, hl with | [_], _ => rfl⟩
  have F__law_text := fun_mk (st := s__law_text) l12 c12 k12
  have D__law_text : DefAt K mg "_law_text" s__law_text ["tree"] := ⟨_, _, F__law_text, PySem.W.mg_of X G a12, F__law_text.binds (ps := ["tree"]) fun _ _ _ _ _ _ us hl => match us, hl with | [_], _ => rfl⟩
  have F__law_sign_by := fun_mk (st := s__law_sign_by) l13 c13 k13
  have D__law_sign_by : DefAt K mg "_law_sign_by" s__law_sign_by ["cell"] := ⟨_, _, F__law_sign_by, PySem.W.mg_of X G a13, F__law_sign_by.binds (ps := ["cell"]) fun _ _ _ _ _ _ us hl => match us, hl with | [_], _ => rfl⟩
  have F__law_odd := fun_mk (st := s__law_odd) l14 c14 k14
  have D__law_odd : DefAt K mg "_law_odd" s__law_odd ["cell"] := ⟨_, _, F__law_odd, PySem.W.mg_of X G a14, F__law_odd.binds (ps := ["cell"]) fun _ _ _ _ _ _ us hl => match us, hl with | [_], _ => rfl⟩
  have F__law_end := fun_mk (st := s__law_end) l15 c15 k15
  have D__law_end : DefAt K mg "_law_end" s__law_end ["text", "at"] := ⟨_, _, F__law_end, PySem.W.mg_of X G a15, F__law_end.binds (ps := ["text", "at"]) fun _ _ _ _ _ _ us hl => match us, hl with | [_, _], _ => rfl⟩
  have F__law_due := fun_mk (st := s__law_due) l16 c16 k16
  have D__law_due : DefAt K mg "_law_due" s__law_due ["text"] := ⟨_, _, F__law_due, PySem.W.mg_of X G a16, F__law_due.binds (ps := ["text"]) fun _ _ _ _ _ _ us hl => match us, hl with | [_], _ => rfl⟩
  have F__law_told := fun_mk (st := s__law_told) l17 c17 k17
  have D__law_told : DefAt K mg "_law_told" s__law_told ["text"] := ⟨_, _, F__law_told, PySem.W.mg_of X G a17, F__law_told.binds (ps := ["text"]) fun _ _ _ _ _ _ us hl => match us, hl with | [_], _ => rfl⟩
  have F__law_spoiled := fun_mk (st := s__law_spoiled) l18 c18 k18
  have D__law_spoiled : DefAt K mg "_law_spoiled" s__law_spoiled ["text", "cell", "other"] := ⟨_, _, F__law_spoiled, PySem.W.mg_of X G a18, F__law_spoiled.binds (ps := ["text", "cell", "other"]) fun _ _ _ _ _ _ us hl => match us, hl with | [_, _, _], _ => rfl⟩
  have F_law := fun_mk (st := s_law) l19 c19 k19
  have M_range := PySem.W.mg_none_of X G z_range
  have M_len := PySem.W.mg_none_of X G z_len
  have M_isinstance := PySem.W.mg_none_of X G z_isinstance
  have M_int := PySem.W.mg_none_of X G z_int
  have M_str := PySem.W.mg_none_of X G z_str
  have M_tuple := PySem.W.mg_none_of X G z_tuple
  have M_ValueError := PySem.W.mg_none_of X G z_ValueError
  have M_MOST_TREE_FLOORS := PySem.W.mg_of X G v_MOST_TREE_FLOORS
  have M_FIGURES := PySem.W.mg_of X G v_FIGURES
  have M_SIGNS := PySem.W.mg_of X G v_SIGNS
  have M_FloorError := PySem.W.mg_of X G y_FloorError
  have K_FloorError : XKind K c_FloorError c_FloorError := ⟨eex_FloorError, esu_FloorError⟩
  have M_NoCase := PySem.W.mg_of X G y_NoCase
  have K_NoCase : XKind K c_FloorError c_NoCase := ⟨eex_NoCase, esu_NoCase⟩
  have X_NoCase : XCls K c_NoCase := ⟨ega_NoCase, egt_NoCase, eca_NoCase, xcg, xct, emo_NoCase, emb_NoCase, ecl_NoCase⟩
  have M_NoPlan := PySem.W.mg_of X G y_NoPlan
  have K_NoPlan : XKind K c_FloorError c_NoPlan := ⟨eex_NoPlan, esu_NoPlan⟩
  have X_NoPlan : XCls K c_NoPlan := ⟨ega_NoPlan, egt_NoPlan, eca_NoPlan, xcg, xct, emo_NoPlan, emb_NoPlan, ecl_NoPlan⟩
  have M_NoFloor := PySem.W.mg_of X G y_NoFloor
  have K_NoFloor : XKind K c_FloorError c_NoFloor := ⟨eex_NoFloor, esu_NoFloor⟩
  have X_NoFloor : XCls K c_NoFloor := ⟨ega_NoFloor, egt_NoFloor, eca_NoFloor, xcg, xct, emo_NoFloor, emb_NoFloor, ecl_NoFloor⟩
  have M_BadLine := PySem.W.mg_of X G y_BadLine
  have K_BadLine : XKind K c_FloorError c_BadLine := ⟨eex_BadLine, esu_BadLine⟩
  have X_BadLine : XCls K c_BadLine := ⟨ega_BadLine, egt_BadLine, eca_BadLine, xcg, xct, emo_BadLine, emb_BadLine, ecl_BadLine⟩
  refine ⟨PySem.W.fnOf "law" "law" (defArgs s_law) (defBody s_law) (defScope s_law) .none kV19 dc19 pm19 an19 cd19 ct19, fun s v => .of_eq rfl, fun base _ _ => ?_⟩
  have O6 := ok_cell (P := l.prog) (w := w) (base := base) D__law_cell_at M_len
  have O27 := ok_tree D__law_tree O6 13
  have O31 := ok_text (P := l.prog) (w := w) (base := base) D__law_text M_str 13
  have O32 := ok_form (P := l.prog) (w := w) (base := base) D_form_of M_isinstance M_tuple M_int q_tuple_tuple q_int_tuple q_str_tuple q_int_int q_str_int
  have O33 := ok_forms D_forms O32
  have O34 := ok_last D_make_last O33 (ok_repl D_replace_last M_range)
  have O35 := okx_num (P := l.prog) (w := w) (base := base) D_number_of M_len M_int M_str M_MOST_TREE_FLOORS M_BadLine eex_BadLine
  have O36 := okx_pcs D_pieces_of M_FIGURES tk_SIGNS M_SIGNS M_BadLine eex_BadLine (okx_add D_add_number O35)
  have O37 := okx_read D_read M_BadLine eex_BadLine O36 O34 O33
  have O21 := ok_which (P := l.prog) (w := w) (base := base) D__law_which M_isinstance M_ValueError M_NoCase M_NoPlan M_NoFloor M_BadLine
  have O38 := ok_told D__law_told M_FloorError K_FloorError K_BadLine X_BadLine ek_NoCase_BadLine ek_NoPlan_BadLine ek_NoFloor_BadLine ek_BadLine_BadLine ekv_BadLine O37 O21
  have O39 := ok_due D__law_due M_len M_int (ok_end (P := l.prog) (w := w) (base := base) D__law_end M_len M_int)
  have O40 := ok_odd (P := l.prog) (w := w) (base := base) D__law_odd
  have O41 := ok_spoiled D__law_spoiled M_len (ok_sign (P := l.prog) (w := w) (base := base) D__law_sign_by)
  exact ok_law F_law M_isinstance M_tuple q_tuple_tuple O6 O27 O31 O41 O40 O39 O38
theorem walk {l : PySem.W.OpenLaw} {q : Program} {loose : List Str} {XP : (Str → Option Value) → Heap → Prop} {YP : World → Heap → Prop} {d : DefRec} {K : Params → PySem.W.Frag} (hn : l.most = some 63) (hdf : d.params.defaults = [])
    (hY : ∀ (w : World) (h : Heap), YP w h → (K w.params).In h)
    (F : ∀ (w : World) (mg : Str → Option Value) (fa : Addr) (h : Heap), (K w.params).In h → h.Ns mainGlobals mg → mg d.name = some (.ref fa) →
      ∃ fd : FuncData, (∀ (s : Shared) (u : Value), BindsTo s fd ⟨[u], []⟩ [("script", u)]) ∧ ∀ base : Heap, (K w.params).In base → base.Ns mainGlobals mg → FnOk l.prog w (K w.params) mg base CX0 16 fa fd ["script"] (spLaw (K w.params))) :
    PySem.W.WalkO q loose XP YP l.row.toRowW d [] (fun f vs => PySem.call f vs) :=
  L2.walk_of (n := 63) (k := 16) (x := "script") (CX := fun _ => CX0) (sp := fun w => spLaw (K w.params)) hn (by decide) hdf ⟨rfl, by decide, by decide⟩ hY F (fun _ _ a ns hl _ hS => ⟨a, ns, rfl, hS, hl, fun _ => rfl⟩) fun _ _ _ _ _ z => z
end Egg
open PySem PySem.W PyProof.Rows
set_option maxRecDepth 100000 in
set_option maxHeartbeats 0 in
theorem PySem.Challenge.cw_eggfloors_k12_texts_refused_holds : PySem.Challenge.rw_eggfloors_k12_texts_refused.Holds := by
  w_on; o_law; k_head; (case hw => w_witness2)
  k_fill
  refine Egg.walk (l := PySem.Challenge.rw_eggfloors_k12_texts_refused) rfl rfl (fun w h Y => PySem.W.kIn_of Y) ?F
  case F =>
    intro w mg fa h KX G hmg
    refine' Egg.all_mk KX G hmg ?a1 ?l1 ?c1 ?k1 ?a2 ?l2 ?c2 ?k2 ?a3 ?l3 ?c3 ?k3 ?a4 ?l4 ?c4 ?k4 ?a5 ?l5 ?c5 ?k5 ?a6 ?l6 ?c6 ?k6 ?a7 ?l7 ?c7 ?k7 ?a8 ?l8 ?c8 ?k8 ?a9 ?l9 ?c9 ?k9 ?a10 ?l10 ?c10 ?k10 ?a11 ?l11 ?c11 ?k11 ?a12 ?l12 ?c12 ?k12 ?a13 ?l13 ?c13 ?k13 ?a14 ?l14 ?c14 ?k14 ?a15 ?l15 ?c15 ?k15 ?a16 ?l16 ?c16 ?k16 ?a17 ?l17 ?c17 ?k17 ?a18 ?l18 ?c18 ?k18 ?a19 ?l19 ?c19 ?k19 ?z_range ?z_len ?z_isinstance ?z_int ?z_str ?z_tuple ?z_ValueError ?v_MOST_TREE_FLOORS ?v_FIGURES ?v_SIGNS ?q_int_int ?q_tuple_tuple ?q_int_tuple ?q_str_tuple ?q_str_int ?y_FloorError ?y_NoCase ?y_NoPlan ?y_NoFloor ?y_BadLine ?eex_FloorError ?esu_FloorError ?eex_NoCase ?esu_NoCase ?ega_NoCase ?egt_NoCase ?eca_NoCase ?emo_NoCase ?emb_NoCase ?ecl_NoCase ?ekv_NoCase ?ek_NoCase_NoCase ?ek_NoPlan_NoCase ?ek_NoFloor_NoCase ?ek_BadLine_NoCase ?eex_NoPlan ?esu_NoPlan ?ega_NoPlan ?egt_NoPlan ?eca_NoPlan ?emo_NoPlan ?emb_NoPlan ?ecl_NoPlan ?ekv_NoPlan ?ek_NoCase_NoPlan ?ek_NoPlan_NoPlan ?ek_NoFloor_NoPlan ?ek_BadLine_NoPlan ?eex_NoFloor ?esu_NoFloor ?ega_NoFloor ?egt_NoFloor ?eca_NoFloor ?emo_NoFloor ?emb_NoFloor ?ecl_NoFloor ?ekv_NoFloor ?ek_NoCase_NoFloor ?ek_NoPlan_NoFloor ?ek_NoFloor_NoFloor ?ek_BadLine_NoFloor ?eex_BadLine ?esu_BadLine ?ega_BadLine ?egt_BadLine ?eca_BadLine ?emo_BadLine ?emb_BadLine ?ecl_BadLine ?ekv_BadLine ?ek_NoCase_BadLine ?ek_NoPlan_BadLine ?ek_NoFloor_BadLine ?ek_BadLine_BadLine ?xcg ?xct
    (case a1 => k_is)
    (case l1 => k_is)
    (case c1 => k_is)
    (case k1 => k_is)
    (case a2 => k_is)
    (case l2 => k_is)
    (case c2 => k_is)
    (case k2 => k_is)
    (case a3 => k_is)
    (case l3 => k_is)
    (case c3 => k_is)
    (case k3 => k_is)
    (case a4 => k_is)
    (case l4 => k_is)
    (case c4 => k_is)
    (case k4 => k_is)
    (case a5 => k_is)
    (case l5 => k_is)
    (case c5 => k_is)
    (case k5 => k_is)
    (case a6 => k_is)
    (case l6 => k_is)
    (case c6 => k_is)
    (case k6 => k_is)
    (case a7 => k_is)
    (case l7 => k_is)
    (case c7 => k_is)
    (case k7 => k_is)
    (case a8 => k_is)
    (case l8 => k_is)
    (case c8 => k_is)
    (case k8 => k_is)
    (case a9 => k_is)
    (case l9 => k_is)
    (case c9 => k_is)
    (case k9 => k_is)
    (case a10 => k_is)
    (case l10 => k_is)
    (case c10 => k_is)
    (case k10 => k_is)
    (case a11 => k_is)
    (case l11 => k_is)
    (case c11 => k_is)
    (case k11 => k_is)
    (case a12 => k_is)
    (case l12 => k_is)
    (case c12 => k_is)
    (case k12 => k_is)
    (case a13 => k_is)
    (case l13 => k_is)
    (case c13 => k_is)
    (case k13 => k_is)
    (case a14 => k_is)
    (case l14 => k_is)
    (case c14 => k_is)
    (case k14 => k_is)
    (case a15 => k_is)
    (case l15 => k_is)
    (case c15 => k_is)
    (case k15 => k_is)
    (case a16 => k_is)
    (case l16 => k_is)
    (case c16 => k_is)
    (case k16 => k_is)
    (case a17 => k_is)
    (case l17 => k_is)
    (case c17 => k_is)
    (case k17 => k_is)
    (case a18 => k_is)
    (case l18 => k_is)
    (case c18 => k_is)
    (case k18 => k_is)
    (case a19 => k_is)
    (case l19 => k_is)
    (case c19 => k_is)
    (case k19 => k_is)
    (case z_range => k_is)
    (case z_len => k_is)
    (case z_isinstance => k_is)
    (case z_int => k_is)
    (case z_str => k_is)
    (case z_tuple => k_is)
    (case z_ValueError => k_is)
    (case v_MOST_TREE_FLOORS => k_is)
    (case v_FIGURES => k_is)
    (case v_SIGNS => k_is)
    (case q_int_int => first | k_is | rfl | decide)
    (case q_tuple_tuple => first | k_is | rfl | decide)
    (case q_int_tuple => first | k_is | rfl | decide)
    (case q_str_tuple => first | k_is | rfl | decide)
    (case q_str_int => first | k_is | rfl | decide)
    (case y_FloorError => k_is)
    (case y_NoCase => k_is)
    (case y_NoPlan => k_is)
    (case y_NoFloor => k_is)
    (case y_BadLine => k_is)
    (case eex_FloorError => k_exc)
    (case esu_FloorError => first | k_is | rfl | decide)
    (case eex_NoCase => k_exc)
    (case esu_NoCase => first | k_is | rfl | decide)
    (case ega_NoCase => first | k_is | rfl | decide)
    (case egt_NoCase => first | k_is | rfl | decide)
    (case eca_NoCase => first | k_is | rfl | decide)
    (case emo_NoCase => first | k_is | rfl | decide)
    (case emb_NoCase => first | k_is | rfl | decide)
    (case ecl_NoCase => first | k_is | rfl | decide)
    (case ekv_NoCase => first | k_is | rfl | decide)
    (case ek_NoCase_NoCase => first | k_is | rfl | decide)
    (case ek_NoPlan_NoCase => first | k_is | rfl | decide)
    (case ek_NoFloor_NoCase => first | k_is | rfl | decide)
    (case ek_BadLine_NoCase => first | k_is | rfl | decide)
    (case eex_NoPlan => k_exc)
    (case esu_NoPlan => first | k_is | rfl | decide)
    (case ega_NoPlan => first | k_is | rfl | decide)
    (case egt_NoPlan => first | k_is | rfl | decide)
    (case eca_NoPlan => first | k_is | rfl | decide)
    (case emo_NoPlan => first | k_is | rfl | decide)
    (case emb_NoPlan => first | k_is | rfl | decide)
    (case ecl_NoPlan => first | k_is | rfl | decide)
    (case ekv_NoPlan => first | k_is | rfl | decide)
    (case ek_NoCase_NoPlan => first | k_is | rfl | decide)
    (case ek_NoPlan_NoPlan => first | k_is | rfl | decide)
    (case ek_NoFloor_NoPlan => first | k_is | rfl | decide)
    (case ek_BadLine_NoPlan => first | k_is | rfl | decide)
    (case eex_NoFloor => k_exc)
    (case esu_NoFloor => first | k_is | rfl | decide)
    (case ega_NoFloor => first | k_is | rfl | decide)
    (case egt_NoFloor => first | k_is | rfl | decide)
    (case eca_NoFloor => first | k_is | rfl | decide)
    (case emo_NoFloor => first | k_is | rfl | decide)
    (case emb_NoFloor => first | k_is | rfl | decide)
    (case ecl_NoFloor => first | k_is | rfl | decide)
    (case ekv_NoFloor => first | k_is | rfl | decide)
    (case ek_NoCase_NoFloor => first | k_is | rfl | decide)
    (case ek_NoPlan_NoFloor => first | k_is | rfl | decide)
    (case ek_NoFloor_NoFloor => first | k_is | rfl | decide)
    (case ek_BadLine_NoFloor => first | k_is | rfl | decide)
    (case eex_BadLine => k_exc)
    (case esu_BadLine => first | k_is | rfl | decide)
    (case ega_BadLine => first | k_is | rfl | decide)
    (case egt_BadLine => first | k_is | rfl | decide)
    (case eca_BadLine => first | k_is | rfl | decide)
    (case emo_BadLine => first | k_is | rfl | decide)
    (case emb_BadLine => first | k_is | rfl | decide)
    (case ecl_BadLine => first | k_is | rfl | decide)
    (case ekv_BadLine => first | k_is | rfl | decide)
    (case ek_NoCase_BadLine => first | k_is | rfl | decide)
    (case ek_NoPlan_BadLine => first | k_is | rfl | decide)
    (case ek_NoFloor_BadLine => first | k_is | rfl | decide)
    (case ek_BadLine_BadLine => first | k_is | rfl | decide)
    (case xcg => first | k_is | rfl | decide)
    (case xct => first | k_is | rfl | decide)
