import PyProof.Rows.All
import Wide.All
import OpenK.AllK
import Wide.FinOn
import Lean
import PyProof.EqAt
import PyProof.EqKinds
import PyProof.TupleCall
import PySem.Challenge.RW_eggfloors_k10_whole_search
set_option Elab.async false
set_option linter.all false
set_option maxRecDepth 100000
/-! THE HAND LAYER, for ints, bools, texts, own classes, LISTS and tuples (index, slices, in, append, pop ..), calls, loops. Paste it whole ahead of your own text; what your proof does not reach may be deleted. -/
namespace L2
open PySem PySem.Spec PyProof.Rows

/-- a key: an int or a str -/
abbrev Key := Sum Int Str
def keyIs : Key → Value → Bool
  | .inl k, v => Value.isInt k v
  | .inr x, v => Value.isStrOf x v
def keyH (w : World) : Key → Int
  | .inl k => hashInt k
  | .inr x => hashStr w x
theorem keyIs_shape : ∀ {k : Key} {v : Value}, keyIs k v = true → (∃ i t, k = Sum.inl i ∧ v = Value.int i t) ∨ (∃ x t, k = Sum.inr x ∧ v = Value.str x t)
  | .inl i, v, h => by
    obtain ⟨t, e⟩ := Value.isInt_shape (k := i) (v := v) h
    exact .inl ⟨i, t, rfl, e⟩
  | .inr x, v, h => by
    obtain ⟨t, e⟩ := Value.isStrOf_shape (x := x) (v := v) h
    exact .inr ⟨x, t, rfl, e⟩
theorem key_ll (a b : Int) : decide ((Sum.inl a : Key) = Sum.inl b) = (a == b) := by
  by_cases e : a = b
  · subst e; simp
  · have h : ¬ (Sum.inl a : Key) = Sum.inl b := fun q => e (Sum.inl.inj q)
    rw [decide_eq_false h]
    exact (beq_eq_false_iff_ne.mpr e).symm
theorem key_rr (a b : Str) : decide ((Sum.inr a : Key) = Sum.inr b) = decide (a = b) := by
  by_cases e : a = b
  · subst e; simp
  · have h : ¬ (Sum.inr a : Key) = Sum.inr b := fun q => e (Sum.inr.inj q)
    rw [decide_eq_false h, decide_eq_false e]
theorem key_lr (a : Int) (b : Str) : decide ((Sum.inl a : Key) = Sum.inr b) = false := decide_eq_false (fun q => nomatch q)
theorem key_rl (a : Str) (b : Int) : decide ((Sum.inr a : Key) = Sum.inl b) = false := decide_eq_false (fun q => nomatch q)

def mixKind (prog : Program) (w : World) : PySem.KeyKind prog w Key where
  is := keyIs
  hash := keyH w
  inj := fun v a b ha hb => by
    rcases keyIs_shape ha with ⟨i, t, rfl, rfl⟩ | ⟨x, t, rfl, rfl⟩
    · rcases keyIs_shape hb with ⟨j, u, rfl, e⟩ | ⟨y, u, rfl, e⟩
      · injection e with e1 _; rw [e1]
      · exact nomatch e
    · rcases keyIs_shape hb with ⟨j, u, rfl, e⟩ | ⟨y, u, rfl, e⟩
      · exact nomatch e
      · injection e with e1 _; rw [e1]
  byValue := fun k v h => by
    rcases keyIs_shape h with ⟨i, t, rfl, rfl⟩ | ⟨x, t, rfl, rfl⟩ <;> rfl
  pyHash := fun hv h => by
    rcases keyIs_shape hv with ⟨i, t, rfl, rfl⟩ | ⟨x, t, rfl, rfl⟩
    · exact wpAny_pyHash_int h
    · exact wpAny_pyHash_str h
  eqBool := fun hu hv h => by
    rcases keyIs_shape hu with ⟨i, t, rfl, rfl⟩ | ⟨x, t, rfl, rfl⟩
    · rcases keyIs_shape hv with ⟨j, u, rfl, rfl⟩ | ⟨y, u, rfl, rfl⟩
      · rw [key_ll] at h; exact wpAny_eqBool_int h
      · rw [key_lr] at h; exact SeqAt.EqAt.int_str i t y u _ _ _ _ h
    · rcases keyIs_shape hv with ⟨j, u, rfl, rfl⟩ | ⟨y, u, rfl, rfl⟩
      · rw [key_rl] at h; exact SeqAt.EqAt.str_int x t j u _ _ _ _ h
      · rw [key_rr] at h; exact wpAny_eqBool_str h
  «strs» := fun k x t v h => by
    rcases keyIs_shape h with ⟨i, u, rfl, e⟩ | ⟨y, u, rfl, e⟩
    · exact nomatch e
    · injection e with e1 _
      subst e1
      cases v <;> rfl

end L2

namespace L2
open PySem PySem.Spec PyProof.Rows

/-- a value, without the heap -/
inductive V where
  | non | bl (b : Bool) | int (i : Int) | str (x : Str) | byt (b : Array UInt8) | flt (b : UInt64) | ref (a : Addr) | ty (n : String)
  deriving DecidableEq

def RelV : V → Value → Prop
  | .non, u => u = Value.none
  | .bl b, u => u = Value.bool b
  | .int i, u => ∃ t, u = Value.int i t
  | .str x, u => ∃ t, u = Value.str x t
  | .byt b, u => ∃ t, u = Value.bytes b t
  | .flt b, u => ∃ t, u = Value.float b t
  | .ref a, u => u = Value.ref a
  | .ty n, u => u = Value.type n

abbrev Vals : List V → List Value → Prop := Paired RelV
theorem Vals.length {xs : List V} {us : List Value} (r : Vals xs us) : xs.length = us.length := Paired.length r
theorem Vals.get : ∀ {xs : List V} {us : List Value} {i : Nat} {x : V}, Vals xs us → xs[i]? = some x → ∃ u, us[i]? = some u ∧ RelV x u
  | _, _, _, _, .nil, e => by simp at e
  | _, _, 0, _, .cons r _, e => by simp at e; subst e; exact ⟨_, rfl, r⟩
  | _, _, i + 1, x, .cons _ t, e => by
    obtain ⟨u, h1, h2⟩ := Vals.get (i := i) (x := x) t (by simpa using e)
    exact ⟨u, by simpa using h1, h2⟩
theorem Vals.append : ∀ {xs ys : List V} {us ws : List Value}, Vals xs us → Vals ys ws → Vals (xs ++ ys) (us ++ ws)
  | _, _, _, _, .nil, s => s
  | _, _, _, _, .cons r t, s => .cons r (Vals.append t s)
def RelO : Option V → Option Value → Prop
  | some v, some u => RelV v u
  | none, none => True
  | _, _ => False
def KV {κ : Type} : List (κ × V) → List (κ × Value) → Prop := Paired fun (p : κ × V) (q : κ × Value) => p.1 = q.1 ∧ RelV p.2 q.2

/-- a key of a dict (00_mix): an int or a text -/
def kV : Key → V
  | .inl i => .int i
  | .inr x => .str x

/-- what stands at a tracked address -/
inductive HO where
  /-- a list -/
  | lst (xs : List V)
  /-- a tuple (never changes) -/
  | tup (xs : List V)
  /-- a dict whose keys are ints and texts; one whose keys are tuples of ints and texts (the empty one is both) -/
  | dK (kvs : List (Key × V)) | dT (kvs : List (List Key × V))
  /-- a set of ints: its members, its size -/
  | set (S : Int → Bool) (n : Nat)
  /-- an instance of the class at C, its dict at dx, its attributes -/
  | ins (C dx : Addr) (fs : List (Str × V))
  /-- the dict of the instance at x -/
  | own (x : Addr)
  /-- the dict of an exception -/
  | xd (fs : List (Str × V))
  /-- a bound method, f of x -/
  | met (f x : Addr)
  /-- a range object lo, lo + 1, .. below hi -/
  | rng (lo hi : Int)
  /-- a thing that is known to the object (the script; a dict while a loop walks it): read, never written while it is so -/
  | frz (o : Obj) (u : HO)
  /-- a code object's table -/
  | tbl (ps : Array Value)
  /-- any other thing, by what is true of its one object (a def of one's own: SetO a S n := HO.ext fun h => ..) -/
  | ext (φ : Heap → Prop)

abbrev Hp := Addr → Option HO
def upd (H : Hp) (a : Addr) (o : HO) : Hp := fun b => if b = a then some o else H b
theorem upd_same {H : Hp} {a : Addr} {o : HO} : upd H a o a = some o := by unfold upd; rw [if_pos rfl]
theorem upd_ne {H : Hp} {a b : Addr} {o : HO} (h : b ≠ a) : upd H a o b = H b := by unfold upd; rw [if_neg h]
theorem upd_upd {H : Hp} {a : Addr} {o u : HO} : upd (upd H a o) a u = upd H a u := by
  funext b; unfold upd; split <;> rfl
/-- two objects of different content stand apart -/
theorem ne_of {H : Hp} {a b : Addr} {o u : HO} (h : H a = some o) (h' : H b = some u) (d : o ≠ u) : a ≠ b := by
  intro e; subst e; rw [h] at h'; exact d (Option.some.inj h')
theorem ne_of_none {H : Hp} {a b : Addr} {o : HO} (h : H a = some o) (h' : H b = none) : a ≠ b := by
  intro e; subst e; rw [h] at h'; cases h'

section
variable (P : Program) (w : World)
def ObjOk (H : Hp) (h : Heap) (a : Addr) : HO → Prop
  | .lst xs => xs.length ≤ sizeLine ∧ ∃ (its : List Value) (n : Nat), Vals xs its ∧ h.get? a = some { cls := .type "list", data := .seq its.toArray n }
  | .tup xs => xs.length ≤ sizeLine ∧ ∃ its : List Value, Vals xs its ∧ IsTup h a its.toArray
  | .dK kvs => kvs.length ≤ sizeLine ∧ (a == sysModules) = false ∧ ∃ vs, KV kvs vs ∧ h.DictOf (mixKind P w) a vs
  | .dT kvs => kvs.length ≤ sizeLine ∧ (a == sysModules) = false ∧ ∃ xs : List (List Key × Addr × Value),
      Paired (fun (p : List Key × V) (q : List Key × Addr × Value) => p.1 = q.1 ∧ H q.2.1 = some (.tup (p.1.map kV)) ∧ RelV p.2 q.2.2) kvs xs ∧
      ∃ o es ep, h.get? a = some o ∧ o.ExactDict ∧ o.data = .dict es ep ∧ es.toList = xs.map (entryOfKey (tupleKind (mixKind P w))) ∧ (xs.map (·.1)).Nodup
  | .set S n => h.SetOf (intKind P w) a S n
  | .ins C dx fs => H dx = some (.own a) ∧ fs.length ≤ 1000 ∧ dx ≠ a ∧ h.get? a = some (PySem.W.instObj C dx) ∧
      ∃ mA, h.Ns1 dx mA ∧ (∀ f, RelO (fs.lookup f) (mA f)) ∧ PySem.Within mA (fs.map (·.1))
  | .own _ => ∃ o, h.get? a = some o
  | .xd fs => ∃ mA, h.Ns1 a mA ∧ ∀ f, RelO (fs.lookup f) (mA f)
  | .rng lo hi => ∃ t u v, h.get? a = some { cls := .type "range", data := .fields #[.int lo t, .int hi u, .int 1 v] }
  | .frz o u => h.get? a = some o ∧ ObjOk H h a u
  | .tbl ps => h.get? a = some { cls := .none, data := .fields ps }
  | .met f x => h.get? a = some (PySem.W.methodObj (.ref f) (.ref x))
  | .ext φ => φ h ∧ (∃ o, h.get? a = some o) ∧ ∀ h1 h2 : Heap, φ h1 → (∀ o, h1.get? a = some o → h2.get? a = some o) → φ h2
/-- the abstract heap is held -/
def HOk (H : Hp) (h : Heap) : Prop := ∀ a o, H a = some o → ObjOk P w H h a o
end

section
variable {P : Program} {w : World} {H H' : Hp} {h h' : Heap} {a : Addr} {o : HO}
theorem ObjOk.lt (x : ObjOk P w H h a o) : a < h.objs.size := by
  cases o with
  | lst xs => obtain ⟨_, _, _, _, e⟩ := x; exact Heap.lt_size e
  | tup xs => obtain ⟨_, _, _, p⟩ := x; exact p.lt
  | dK kvs => obtain ⟨_, _, _, _, o, _, _, e, _⟩ := x; exact Heap.lt_size e
  | dT kvs => obtain ⟨_, _, _, _, o, _, _, e, _⟩ := x; exact Heap.lt_size e
  | set S n => obtain ⟨o, _, _, _, e, _⟩ := x; exact Heap.lt_size e
  | ins C dx fs => obtain ⟨_, _, _, e, _⟩ := x; exact Heap.lt_size e
  | own y => obtain ⟨_, e⟩ := x; exact Heap.lt_size e
  | xd fs => obtain ⟨_, ⟨_, _, _, e, _⟩, _⟩ := x; exact Heap.lt_size e
  | rng lo hi => obtain ⟨_, _, _, e⟩ := x; exact Heap.lt_size e
  | frz ob u => obtain ⟨e, _⟩ := x; exact Heap.lt_size e
  | tbl ps => exact Heap.lt_size (show h.get? a = some _ from x)
  | met f y => exact Heap.lt_size (show h.get? a = some _ from x)
  | ext φ => obtain ⟨_, ⟨_, e⟩, _⟩ := x; exact Heap.lt_size e
theorem Paired.mapP {α β : Type} {F G : α → β → Prop} : ∀ {l₁ : List α} {l₂ : List β}, Paired F l₁ l₂ → (∀ a b, F a b → G a b) → Paired G l₁ l₂
  | _, _, .nil, _ => .nil
  | _, _, .cons r t, f => .cons (f _ _ r) (Paired.mapP t f)
/-- what an object's description leans on: its own object, its own dict, the tuples -/
theorem ObjOk.stay (x : ObjOk P w H h a o) (k : ∀ b u, (b = a ∨ H b = some (.own a)) → h.get? b = some u → h'.get? b = some u)
    (ho : ∀ b, H b = some (.own a) → H' b = some (.own a)) (ht : ∀ b xs, H b = some (.tup xs) → H' b = some (.tup xs)) : ObjOk P w H' h' a o := by
  induction o with
  | lst xs => obtain ⟨z, its, n, r, e⟩ := x; exact ⟨z, its, n, r, k _ _ (.inl rfl) e⟩
  | tup xs => obtain ⟨z, its, r, ob, e, c⟩ := x; exact ⟨z, its, r, ob, k _ _ (.inl rfl) e, c⟩
  | dK kvs => obtain ⟨z, y, vs, r, ob, es, ep, e, c⟩ := x; exact ⟨z, y, vs, r, ob, es, ep, k _ _ (.inl rfl) e, c⟩
  | dT kvs =>
    obtain ⟨z, y, xs, r, ob, es, ep, e, c⟩ := x
    exact ⟨z, y, xs, Paired.mapP r fun p q z => ⟨z.1, ht _ _ z.2.1, z.2.2⟩, ob, es, ep, k _ _ (.inl rfl) e, c⟩
  | set S n => obtain ⟨ob, es, ep, t, e, c⟩ := x; exact ⟨ob, es, ep, t, k _ _ (.inl rfl) e, c⟩
  | ins C dx fs =>
    obtain ⟨d, z, ne, e, mA, ⟨od, es, ep, e2, c⟩, r⟩ := x
    exact ⟨ho _ d, z, ne, k _ _ (.inl rfl) e, mA, ⟨od, es, ep, k _ _ (.inr d) e2, c⟩, r⟩
  | own y => obtain ⟨ob, e⟩ := x; exact ⟨ob, k _ _ (.inl rfl) e⟩
  | xd fs => obtain ⟨mA, ⟨od, es, ep, e, c⟩, r⟩ := x; exact ⟨mA, ⟨od, es, ep, k _ _ (.inl rfl) e, c⟩, r⟩
  | rng lo hi => obtain ⟨t, u, v, e⟩ := x; exact ⟨t, u, v, k _ _ (.inl rfl) e⟩
  | frz ob u ih => obtain ⟨e, q⟩ := x; exact ⟨k _ _ (.inl rfl) e, ih q⟩
  | tbl ps =>
    have e : h.get? a = some { cls := .none, data := .fields ps } := x
    show h'.get? a = some { cls := .none, data := .fields ps }
    exact k a _ (.inl rfl) e
  | met f y =>
    have e : h.get? a = some (PySem.W.methodObj (.ref f) (.ref y)) := x
    show h'.get? a = some (PySem.W.methodObj (.ref f) (.ref y))
    exact k a _ (.inl rfl) e
  | ext φ => obtain ⟨p, ⟨o, e⟩, st⟩ := x; exact ⟨st _ _ p fun o q => k _ _ (.inl rfl) q, ⟨o, k _ _ (.inl rfl) e⟩, st⟩
theorem HOk.lt (x : HOk P w H h) (e : H a = some o) : a < h.objs.size := (x a o e).lt
theorem HOk.fresh (x : HOk P w H h) (e : h.objs.size ≤ a) : H a = none := by
  cases q : H a with
  | none => rfl
  | some u => exact absurd (Nat.lt_of_lt_of_le (x.lt q) e) (Nat.lt_irrefl _)
/-- every object of the heap is kept -/
theorem HOk.kept (x : HOk P w H h) (k : ∀ b u, h.get? b = some u → h'.get? b = some u) : HOk P w H h' := fun a o e =>
  (x a o e).stay (fun b u _ q => k b u q) (fun _ q => q) fun _ _ q => q
/-- a new object is laid and tracked -/
theorem HOk.laid (x : HOk P w H h) (k : ∀ b u, h.get? b = some u → h'.get? b = some u) (hp : h.objs.size ≤ a) (new : ObjOk P w (upd H a o) h' a o) : HOk P w (upd H a o) h' := fun b u e => by
  have hn := x.fresh hp
  by_cases hb : b = a
  · subst hb; rw [upd_same] at e; cases e; exact new
  · rw [upd_ne hb] at e
    exact (x b u e).stay (fun c v _ q => k c v q) (fun c q => by rw [upd_ne (ne_of_none q hn)]; exact q) fun c xs q => by rw [upd_ne (ne_of_none q hn)]; exact q
end

/-- what may be read as u: it is u, or a known u -/
def Rd (H : Hp) (a : Addr) (u : HO) : Prop := H a = some u ∨ ∃ o, H a = some (.frz o u)
theorem Rd.ok {P : Program} {w : World} {H : Hp} {h : Heap} {a : Addr} {u : HO} (r : Rd H a u) (x : HOk P w H h) : ObjOk P w H h a u := by
  rcases r with r | ⟨o, r⟩
  · exact x a u r
  · obtain ⟨_, q⟩ := x a _ r
    exact q
/-- what may be written -/
def Mut : Option HO → Prop
  | some (.lst _) => True
  | some (.dK _) => True
  | some (.dT _) => True
  | some (.set _ _) => True
  | some (.ins _ _ _) => True
  | some (.ext _) => True
  | _ => False
section
variable {P : Program} {w : World} {H : Hp} {h h' : Heap} {x e : Addr} {o' : HO}
/-- the object at e is changed: x itself, or the dict of the instance x -/
theorem HOk.write (ok : HOk P w H h) (mu : Mut (H x)) (he : e = x ∨ H e = some (.own x)) (k : ∀ b u, b ≠ e → h.get? b = some u → h'.get? b = some u) (heo : ∃ u, h'.get? e = some u)
    (new : ObjOk P w (upd H x o') h' x o') : HOk P w (upd H x o') h' := fun b u q => by
  have nown : ∀ c y, H c = some (.own y) → c ≠ x := fun c y r z => by subst z; rw [r] at mu; exact mu
  have ntup : ∀ c xs, H c = some (.tup xs) → c ≠ x := fun c xs r z => by subst z; rw [r] at mu; exact mu
  by_cases hb : b = x
  · subst hb; rw [upd_same] at q; cases q; exact new
  · rw [upd_ne hb] at q
    by_cases hbe : b = e
    · have q' : H b = some (.own x) := by
        rcases he with z | z
        · exact absurd (hbe.trans z) hb
        · rw [hbe]; exact z
      rw [q] at q'; cases q'
      obtain ⟨v, hv⟩ := heo
      exact ⟨v, by rw [hbe]; exact hv⟩
    · refine (ok b u q).stay (fun c v hc r => k c v ?_ r) (fun c r => by rw [upd_ne (nown c b r)]; exact r) fun c xs r => by rw [upd_ne (ntup c xs r)]; exact r
      rcases hc with rfl | hc
      · exact hbe
      · rintro rfl
        rcases he with z | z
        · exact nown c b hc z
        · rw [hc] at z; cases z; exact hb rfl
end

/-! ### kept unless tracked; of the frames at fs (the callers') the slots may change (an exception that passes writes there); of the records at ex (iterators) nothing is said -/
structure Un (fs ex : List Addr) (H H' : Hp) (h h' : Heap) : Prop where
  keep : ∀ b o, h.get? b = some o → H b = none → b ∉ fs → b ∉ ex → h'.get? b = some o
  slot : ∀ b o, h.get? b = some o → H b = none → b ∈ fs → b ∉ ex → ∃ sl, h'.get? b = some { o with slots := sl }
  free : ∀ b o, h.get? b = some o → H b = none → b ∉ ex → H' b = none
  there : ∀ b o, h.get? b = some o → b ∉ ex → ∃ o', h'.get? b = some o'
  tups : ∀ b xs, H b = some (.tup xs) → H' b = some (.tup xs)
  frzs : ∀ b o u, H b = some (.frz o u) → H' b = some (.frz o u)
  tbls : ∀ b ps, H b = some (.tbl ps) → ∃ more, H' b = some (.tbl (ps ++ more))
section
variable {fs fs' ex ex' : List Addr} {H H1 H2 : Hp} {h h1 h2 h' : Heap} {a x e : Addr} {o : HO}
theorem Un.any (u : Un fs ex H H1 h h1) {b : Addr} {ob : Obj} (q : h.get? b = some ob) (n : H b = none) (hx : b ∉ ex) : ∃ sl, h1.get? b = some { ob with slots := sl } := by
  by_cases hb : b ∈ fs
  · exact u.slot b ob q n hb hx
  · exact ⟨ob.slots, u.keep b ob q n hb hx⟩
theorem Un.kept (k : ∀ b u, h.get? b = some u → h'.get? b = some u) : Un fs ex H H h h' :=
  ⟨fun b ob q _ _ _ => k b ob q, fun b ob q _ _ _ => ⟨ob.slots, k b ob q⟩, fun _ _ _ n _ => n, fun b ob q _ => ⟨ob, k b ob q⟩, fun _ _ q => q, fun _ _ _ q => q, fun _ ps q => ⟨#[], by rw [q]; simp⟩⟩
theorem Un.refl : Un fs ex H H h h := Un.kept fun _ _ q => q
theorem Un.laid (k : ∀ b u, h.get? b = some u → h'.get? b = some u) (hp : h.objs.size ≤ a) (hn : H a = none) : Un fs ex H (upd H a o) h h' where
  keep := fun b u q _ _ _ => k b u q
  slot := fun b u q _ _ _ => ⟨u.slots, k b u q⟩
  free := fun b u q n _ => by rw [upd_ne (Nat.ne_of_lt (Nat.lt_of_lt_of_le (Heap.lt_size q) hp))]; exact n
  there := fun b u q _ => ⟨u, k b u q⟩
  tups := fun b xs q => by rw [upd_ne (ne_of_none q hn)]; exact q
  frzs := fun b u xs q => by rw [upd_ne (ne_of_none q hn)]; exact q
  tbls := fun b ps q => ⟨#[], by rw [upd_ne (ne_of_none q hn), q]; simp⟩
theorem Un.write (mu : Mut (H x)) (he : e = x ∨ H e = some (.own x)) (k : ∀ b u, b ≠ e → h.get? b = some u → h'.get? b = some u) (heo : ∃ u, h'.get? e = some u) : Un fs ex H (upd H x o) h h' := by
  have hx : ∀ b, H b = none → b ≠ x := fun b n z => by subst z; rw [n] at mu; exact mu
  have hb : ∀ b, H b = none → b ≠ e := fun b n z => by
    subst z
    rcases he with r | r
    · exact hx b n r
    · rw [n] at r; cases r
  have hm : ∀ b u, H b = some u → ¬ Mut (some u) → b ≠ x := fun b u q nm z => by subst z; rw [q] at mu; exact nm mu
  refine ⟨fun b u q n _ _ => k b u (hb b n) q, fun b u q n _ _ => ⟨u.slots, k b u (hb b n) q⟩, fun b u q n _ => by rw [upd_ne (hx b n)]; exact n, fun b u q _ => ?_,
    fun b xs q => by rw [upd_ne (hm b _ q fun z => z)]; exact q, fun b u xs q => by rw [upd_ne (hm b _ q fun z => z)]; exact q, fun b ps q => ⟨#[], by rw [upd_ne (hm b _ q fun z => z), q]; simp⟩⟩
  by_cases hbe : b = e
  · subst hbe; exact heo
  · exact ⟨u, k b u hbe q⟩
end

/-! ### the heap without what is tracked -/
def trk (h : Heap) (H : Hp) : List Addr := (List.range h.objs.size).filter fun a => (H a).isSome
def hidT (h : Heap) (H : Hp) : Heap := PySem.W.hideAll h (trk h H)
theorem hidT_size (h : Heap) (H : Hp) : (hidT h H).objs.size = h.objs.size := PySem.W.hideAll_size _ _
theorem hidT_get {h : Heap} {H : Hp} {b : Addr} {o : Obj} (e : h.get? b = some o) (n : H b = none) : (hidT h H).get? b = some o :=
  PySem.W.hideAll_get _ e fun hm => by
    have q : (H b).isSome = true := (List.mem_filter.mp hm).2
    rw [n] at q; simp at q
theorem of_hidT {h : Heap} {H : Hp} {b : Addr} {o : Obj} (e : (hidT h H).get? b = some o) : h.get? b = some o ∧ H b = none := by
  have e' : h.get? b = some o := PySem.W.of_hideAll (trk h H) e
  refine ⟨e', ?_⟩
  cases q : H b with
  | none => rfl
  | some x =>
    have hm : b ∈ trk h H := List.mem_filter.mpr ⟨List.mem_range.mpr (Heap.lt_size e'), by simp [q]⟩
    have z : (hidT h H).get? b = none := PySem.W.hideAll_none (trk h H) hm
    rw [z] at e; cases e

/-! ### OpenK's ledger, filled with every new object but one -/
def allNews (g h : Heap) (L : Addr) : List (Addr × Obj) := (List.range h.objs.size).filterMap fun a => if a = L ∨ (g.get? a).isSome = true then none else (h.get? a).map fun o => (a, o)
def rest (g h : Heap) (L d : Addr) : List (Addr × Obj) := (allNews g h L).filter fun p => decide (p.1 ≠ d)
end L2

namespace L2
open PySem PySem.Spec PyProof.Rows

/-- the module's facts, over the base: the heap at the law's entry without what is tracked there -/
structure Mod (K : PySem.W.Frag) (mg : Str → Option Value) (base : Heap) : Prop where
  kin : K.In base
  glob : base.Ns mainGlobals mg
  blt : ∃ mb, base.Ns builtinsNs mb ∧ ∀ x : Str, x ≠ "__name__" → mb x = bootBuiltins x
  nolimit : base.NoLimit

/-- the context: a def's body (or a comprehension's block) running. base: fixed through the whole law; s₀, H₀: the entry; outer: the frames whose slots others may change (a def's callers); stack: all frames that run;
   ex: iterators that were made ahead of the entry and are walked here (a comprehension's); fn: the names whose cells were made at the entry (a def: all; a comprehension's block: its own); calm: not within an except suite; pn: pins that every state bears; xe: what is wanted of an exception that leaves the code -/
structure Cx where
  prog : Program
  w : World
  K : PySem.W.Frag
  mg : Str → Option Value
  base : Heap
  A : Around
  N : List Str
  s₀ : Shared
  H₀ : Hp
  env : Env
  outer : List Env
  stack : List Env
  ex : List Addr
  fn : Str → Bool
  calm : Bool
  pn : List (Addr × Obj)
  xe : Value → Shared → Prop
/-- the callers' frames -/
def frs (l : List Env) : List Addr := l.filterMap (·.frame)
abbrev Cx.fs (X : Cx) : List Addr := frs X.outer

def Vis (sc : Scope) (x : Str) : Prop := sc.names.lookup x = some .local ∨ sc.names.lookup x = some .cell ∨ sc.names.lookup x = some .free
def Loc (sc : Scope) (x : Str) : Prop := sc.names.lookup x = some .local ∨ sc.names.lookup x = some .cell
def Look (env : Env) (h : Heap) (m : Str → Option Value) (x : Str) (u : Value) : Prop :=
  (env.kindOf x = some .local ∧ m x = some u) ∨ ((env.kindOf x = some .cell ∨ env.kindOf x = some .free) ∧ ∃ c, env.cells.lookup x = some c ∧ h.IsCell c (some u))

structure Cx.Ok (X : Cx) : Prop where
  mod : Mod X.K X.mg X.base
  kind : X.env.scope.kind = .function
  glob : X.env.globals = mainGlobals
  blt : X.env.builtins = builtinsNs
  above : X.s₀.heap.objs.size ≤ X.env.locals
  inj : ∀ x y c, X.env.cells.lookup x = some c → X.env.cells.lookup y = some c → x = y
  has : ∀ x, (X.env.kindOf x = some .cell ∨ X.env.kindOf x = some .free) → ∃ c, X.env.cells.lookup x = some c
  cab : ∀ x c, X.fn x = true → X.env.cells.lookup x = some c → X.s₀.heap.objs.size ≤ c
  hd : X.calm = true → X.A.handled = none
  frames : X.A.frames = some X.stack
  stk : X.stack = X.outer ∨ (X.stack = X.env :: X.outer ∧ X.env.frame = some X.env.locals)
  exf : ∀ b ∈ X.ex, b ≠ X.env.locals ∧ ∀ x c, X.env.cells.lookup x = some c → c ≠ b
  bs : ∀ b o, X.base.get? b = some o → X.s₀.heap.get? b = some o ∧ X.H₀ b = none
  bsz : X.base.objs.size ≤ X.s₀.heap.objs.size
  noex : ∀ b o, X.base.get? b = some o → b ∉ X.ex
  exfs : ∀ b ∈ X.ex, b ∉ X.fs
  funs : X.s₀.heap.FunFrames X.base X.outer
  frf : ∀ b ∈ X.fs, X.H₀ b = none

structure Inv (X : Cx) (pins : List (Addr × Obj)) (σ : List (Option V)) (H : Hp) (s : Shared) : Prop where
  ok : X.Ok
  os : s.os = X.s₀.os
  bare : AllBare s.gens
  base : Un X.fs X.ex X.H₀ H X.s₀.heap s.heap
  loc : ∃ m, s.heap.Ns X.env.locals m ∧ ∀ (i : Nat) (x : Str) (v : V), X.N[i]? = some x → σ[i]? = some (some v) → Vis X.env.scope x → ∃ u, RelV v u ∧ Look X.env s.heap m x u
  cell : ∀ x c, X.env.cells.lookup x = some c → ∃ v, s.heap.IsCell c v
  free : H X.env.locals = none
  freeC : ∀ x c, X.env.cells.lookup x = some c → H c = none
  pin : ∀ p ∈ X.pn ++ pins, s.heap.get? p.1 = some p.2 ∧ H p.1 = none ∧ p.1 ≠ X.env.locals ∧ p.1 ∉ X.fs ∧ ∀ v, p.2.data ≠ .cell v
  hok : HOk X.prog X.w H s.heap
  len : σ.length = X.N.length

section
variable {X : Cx} {pins : List (Addr × Obj)} {σ : List (Option V)} {H H' : Hp} {s : Shared} {h' : Heap}

theorem Cx.Ok.nofr (ok : X.Ok) {b : Addr} {o : Obj} (e : X.base.get? b = some o) : b ∉ X.fs := fun hb => by
  have := (ok.funs.mem hb).1
  rw [e] at this; cases this
theorem Inv.bs (I : Inv X pins σ H s) : ∀ b o, X.base.get? b = some o → s.heap.get? b = some o ∧ H b = none := fun b o e =>
  ⟨I.base.keep b o (I.ok.bs b o e).1 (I.ok.bs b o e).2 (I.ok.nofr e) (I.ok.noex b o e), I.base.free b o (I.ok.bs b o e).1 (I.ok.bs b o e).2 (I.ok.noex b o e)⟩
theorem Inv.bk (I : Inv X pins σ H s) : ∀ b o, X.base.get? b = some o → s.heap.get? b = some o := fun b o e => (I.bs b o e).1
theorem Inv.mod (I : Inv X pins σ H s) : Mod X.K X.mg X.base := I.ok.mod
theorem Inv.kIn (I : Inv X pins σ H s) : X.K.In s.heap := I.ok.mod.kin.keeps I.bk
theorem Inv.lt (I : Inv X pins σ H s) : X.env.locals < s.heap.objs.size := let ⟨_, hn, _⟩ := I.loc; hn.lt
theorem Inv.sz (I : Inv X pins σ H s) : X.s₀.heap.objs.size ≤ s.heap.objs.size := Nat.le_trans I.ok.above (Nat.le_of_lt I.lt)
theorem Inv.nofs (I : Inv X pins σ H s) {a : Addr} (h : s.heap.objs.size ≤ a) : a ∉ X.fs := fun hb => by
  obtain ⟨_, o, ho, _⟩ := I.ok.funs.mem hb
  exact absurd (Nat.lt_of_lt_of_le (Heap.lt_size ho) (Nat.le_trans I.sz h)) (Nat.lt_irrefl _)
theorem Inv.cne (I : Inv X pins σ H s) : ∀ x c, X.env.cells.lookup x = some c → c ≠ X.env.locals := fun x c e z => by
  obtain ⟨v, o, ho, hd⟩ := I.cell x c e
  obtain ⟨m, ⟨o', es, ep, ho', hd', _⟩, _⟩ := I.loc
  rw [z, ho'] at ho; cases ho; rw [hd'] at hd; cases hd
theorem Inv.funs (I : Inv X pins σ H s) : s.heap.FunFrames X.base X.outer := by
  have all : ∀ (l : List Env), (∀ b ∈ frs l, b ∈ X.fs) → X.s₀.heap.FunFrames X.base l → s.heap.FunFrames X.base l := by
    intro l
    induction l with
    | nil => intro _ _; trivial
    | cons env r ih =>
      intro hs hl
      obtain ⟨hk, ⟨L, o, hf, hn, ho, hd⟩, hr⟩ := hl
      have hL : L ∈ X.fs := hs L (by unfold frs; rw [List.filterMap_cons, hf]; exact List.mem_cons_self)
      obtain ⟨sl, e⟩ := I.base.slot L o ho (I.ok.frf L hL) hL fun z => I.ok.exfs L z hL
      exact ⟨hk, ⟨L, _, hf, hn, e, hd⟩, ih (fun b hb => hs b (by unfold frs; rw [List.filterMap_cons, hf]; exact List.mem_cons_of_mem _ hb)) hr⟩
  exact all X.outer (fun _ hb => hb) I.ok.funs

/-- the frames that run, for a call -/
theorem Inv.stack (I : Inv X pins σ H s) : s.heap.FunFrames X.base X.stack := by
  rcases I.ok.stk with e | ⟨e, hf⟩
  · rw [e]; exact I.funs
  · rw [e]
    obtain ⟨m, hn, _⟩ := I.loc
    refine .cons (by rw [I.ok.kind]; decide) hf hn ?_ I.funs
    exact Heap.get?_none_of_le (Nat.le_trans I.ok.bsz I.ok.above)
theorem Inv.stkSub (I : Inv X pins σ H s) : ∀ b ∈ frs X.stack, b ∈ X.env.locals :: X.fs := fun b hb => by
  rcases I.ok.stk with e | ⟨e, hf⟩
  · rw [e] at hb; exact List.mem_cons_of_mem _ hb
  · rw [e] at hb
    unfold frs at hb
    rw [List.filterMap_cons, hf] at hb
    exact hb
theorem Inv.stkFree (I : Inv X pins σ H s) : ∀ b ∈ frs X.stack, H b = none := fun b hb => by
  rcases List.mem_cons.mp (I.stkSub b hb) with e | hb
  · rw [e]; exact I.free
  · obtain ⟨_, o, ho, _⟩ := I.ok.funs.mem hb
    exact I.base.free b o ho (I.ok.frf b hb) fun z => I.ok.exfs b z hb

/-- THE STEP: the untracked objects but the frame and the records at ch are kept (the callers' frames up to slots), the frame's map is kept, the new abstract heap is held -/
theorem Inv.step {g' : Array GenState} {t' : Nat} {d' : Drawn} {ch : List Addr} (I : Inv X pins σ H s)
    (hch : ∀ b ∈ ch, (b ∈ X.ex ∨ X.s₀.heap.objs.size ≤ b) ∧ b ≠ X.env.locals ∧ (∀ x c, X.env.cells.lookup x = some c → c ≠ b) ∧ ∀ p ∈ X.pn ++ pins, p.1 ≠ b)
    (keep : ∀ b o, b ≠ X.env.locals → b ∉ X.fs → b ∉ ch → s.heap.get? b = some o → H b = none → h'.get? b = some o)
    (slot : ∀ b o, b ≠ X.env.locals → b ∈ X.fs → b ∉ ch → s.heap.get? b = some o → H b = none → ∃ sl, h'.get? b = some { o with slots := sl }) (free : ∀ b o, b ∉ ch → s.heap.get? b = some o → H b = none → H' b = none)
    (there : ∀ b o, b ∉ ch → s.heap.get? b = some o → ∃ o', h'.get? b = some o')
    (tups : ∀ b xs, H b = some (.tup xs) → H' b = some (.tup xs)) (frzs : ∀ b o u, H b = some (.frz o u) → H' b = some (.frz o u)) (tbls : ∀ b ps, H b = some (.tbl ps) → ∃ more, H' b = some (.tbl (ps ++ more)))
    (ns : ∀ m, s.heap.Ns X.env.locals m → h'.Ns X.env.locals m) (hok : HOk X.prog X.w H' h') (hg : AllBare g') :
    Inv X pins σ H' { s with heap := h', gens := g', drawn := d', toks := t' } := by
  have neL : ∀ b o, X.s₀.heap.get? b = some o → b ≠ X.env.locals := fun b o e => Nat.ne_of_lt (Nat.lt_of_lt_of_le (Heap.lt_size e) I.ok.above)
  have neC : ∀ b o, X.s₀.heap.get? b = some o → b ∉ X.ex → b ∉ ch := fun b o e hx hb => by
    rcases (hch b hb).1 with z | z
    · exact hx z
    · exact absurd (Nat.lt_of_lt_of_le (Heap.lt_size e) z) (Nat.lt_irrefl _)
  have cellK : ∀ x c, X.env.cells.lookup x = some c → ∀ v, s.heap.IsCell c v → h'.IsCell c v := fun x c e v ⟨o, ho, hd⟩ => by
    have nch : c ∉ ch := fun z => (hch c z).2.2.1 x c e rfl
    by_cases hc : c ∈ X.fs
    · obtain ⟨sl, q⟩ := slot c o (I.cne x c e) hc nch ho (I.freeC x c e)
      exact ⟨_, q, hd⟩
    · exact ⟨o, keep c o (I.cne x c e) hc nch ho (I.freeC x c e), hd⟩
  refine ⟨I.ok, I.os, hg, ⟨fun b o e n hb hx => ?_, fun b o e n hb hx => ?_, fun b o e n hx => ?_, fun b o e hx => ?_, fun b xs e => tups b xs (I.base.tups b xs e), fun b o xs e => frzs b o xs (I.base.frzs b o xs e), fun b ps e => ?_⟩, ?_, fun x c e => ?_, ?_, fun x c e => ?_, fun p hp => ?_, hok, I.len⟩
  · exact keep b o (neL b o e) hb (neC b o e hx) (I.base.keep b o e n hb hx) (I.base.free b o e n hx)
  · obtain ⟨sl, e1⟩ := I.base.slot b o e n hb hx
    obtain ⟨sl', e2⟩ := slot b _ (neL b o e) hb (neC b o e hx) e1 (I.base.free b o e n hx)
    exact ⟨sl', e2⟩
  · obtain ⟨o', e1⟩ := I.base.there b o e hx
    exact free b o' (neC b o e hx) e1 (I.base.free b o e n hx)
  · obtain ⟨o', e1⟩ := I.base.there b o e hx
    exact there b o' (neC b o e hx) e1
  · obtain ⟨m1, e1⟩ := I.base.tbls b ps e
    obtain ⟨m2, e2⟩ := tbls b _ e1
    exact ⟨m1 ++ m2, by rw [e2, Array.append_assoc]⟩
  · obtain ⟨m, hn, hl⟩ := I.loc
    refine ⟨m, ns m hn, fun i x v e1 e2 e3 => ?_⟩
    obtain ⟨u, r, l⟩ := hl i x v e1 e2 e3
    refine ⟨u, r, ?_⟩
    rcases l with l | ⟨k, c, e, z⟩
    · exact .inl l
    · exact .inr ⟨k, c, e, cellK x c e _ z⟩
  · obtain ⟨v, z⟩ := I.cell x c e
    exact ⟨v, cellK x c e v z⟩
  · obtain ⟨m, ⟨o, _, _, ho, _⟩, _⟩ := I.loc
    exact free _ o (fun z => (hch _ z).2.1 rfl) ho I.free
  · obtain ⟨v, o, ho, hd⟩ := I.cell x c e
    exact free c o (fun z => (hch c z).2.2.1 x c e rfl) ho (I.freeC x c e)
  · obtain ⟨e, n, ne, nf, d⟩ := I.pin p hp
    have nch : p.1 ∉ ch := fun z => (hch p.1 z).2.2.2 p hp rfl
    exact ⟨keep p.1 p.2 ne nf nch e n, free p.1 p.2 nch e n, ne, nf, d⟩
/-- .. where the frame's own object is kept too -/
theorem Inv.un {t' : Nat} (I : Inv X pins σ H s) (u : Un X.fs [] H H' s.heap h') (hok : HOk X.prog X.w H' h') : Inv X pins σ H' { s with heap := h', toks := t' } := by
  obtain ⟨m, ⟨o, es, ep, ho, r⟩, _⟩ := id I.loc
  obtain ⟨sl, hL⟩ := u.any ho I.free (by simp)
  exact I.step (g' := s.gens) (d' := s.drawn) (ch := []) (fun _ z => nomatch z) (fun b o _ hb _ e n => u.keep b o e n hb (by simp)) (fun b o _ hb _ e n => u.slot b o e n hb (by simp)) (fun b o _ e n => u.free b o e n (by simp)) (fun b o _ e => u.there b o e (by simp)) u.tups u.frzs u.tbls (fun m' hm => by
    obtain ⟨o', es', ep', ho', r'⟩ := hm
    rw [ho] at ho'; cases ho'
    exact ⟨_, es', ep', hL, r'⟩) hok I.bare
/-- behind a call (or a comprehension's block): the slots of this frame may have changed too, the records at ch may have turned -/
theorem Inv.call {g' : Array GenState} {t' : Nat} {d' : Drawn} {ch : List Addr} (I : Inv X pins σ H s) (u : Un (frs X.stack) ch H H' s.heap h') (hok : HOk X.prog X.w H' h') (hg : AllBare g')
    (hch : ∀ b ∈ ch, (b ∈ X.ex ∨ X.s₀.heap.objs.size ≤ b) ∧ b ≠ X.env.locals ∧ (∀ x c, X.env.cells.lookup x = some c → c ≠ b) ∧ ∀ p ∈ X.pn ++ pins, p.1 ≠ b) :
    Inv X pins σ H' { s with heap := h', gens := g', drawn := d', toks := t' } := by
  obtain ⟨m, ⟨o, es, ep, ho, r⟩, _⟩ := id I.loc
  obtain ⟨sl, hL⟩ := u.any ho I.free fun z => (hch _ z).2.1 rfl
  exact I.step (ch := ch) hch (fun b o hL hb hc e n => u.keep b o e n (fun z => (List.mem_cons.mp (I.stkSub b z)).elim hL hb) hc) (fun b o _ _ hc e n => u.any e n hc) (fun b o hc e n => u.free b o e n hc) (fun b o hc e => u.there b o e hc) u.tups u.frzs u.tbls (fun m' hm => by
    obtain ⟨o', es', ep', ho', r'⟩ := hm
    rw [ho] at ho'; cases ho'
    exact ⟨_, es', ep', hL, r'⟩) hok hg
/-- an untracked record of ours (an iterator) has turned -/
theorem Inv.turned {t' : Nat} {it : Addr} (I : Inv X pins σ H s) (k : ∀ b o, b ≠ it → s.heap.get? b = some o → h'.get? b = some o) (hn : H it = none) (hL : it ≠ X.env.locals)
    (h1 : it ∈ X.ex ∨ X.s₀.heap.objs.size ≤ it) (h2 : ∀ x c, X.env.cells.lookup x = some c → c ≠ it) (h3 : ∀ p ∈ X.pn ++ pins, p.1 ≠ it) : Inv X pins σ H { s with heap := h', toks := t' } := by
  have nit : ∀ b u, H b = some u → b ≠ it := fun b u e z => by rw [z, hn] at e; cases e
  refine I.step (g' := s.gens) (d' := s.drawn) (ch := [it]) (fun b hb => ?_) (fun b o _ _ hc e _ => k b o (fun z => hc (by simp [z])) e) (fun b o _ _ hc e _ => ⟨o.slots, k b o (fun z => hc (by simp [z])) e⟩) (fun _ _ _ _ n => n)
    (fun b o hc e => ⟨o, k b o (fun z => hc (by simp [z])) e⟩) (fun _ _ e => e) (fun _ _ _ e => e) (fun b ps e => ⟨#[], by rw [e]; simp⟩) (fun m hm => ?_) (fun b u e => ?_) I.bare
  · have e : b = it := by simpa using hb
    subst e
    exact ⟨h1, hL, h2, h3⟩
  · obtain ⟨o, es, ep, ho, r⟩ := hm
    exact ⟨o, es, ep, k _ o (Ne.symm hL) ho, r⟩
  · refine (I.hok b u e).stay (fun c v hc q => k c v ?_ q) (fun _ q => q) fun _ _ q => q
    rcases hc with z | z
    · rw [z]; exact nit b u e
    · exact nit c _ z
theorem Inv.tok (I : Inv X pins σ H s) (t : Nat) : Inv X pins σ H { s with toks := t } := I.un (h' := s.heap) (t' := t) Un.refl I.hok
/-- all objects kept -/
theorem Inv.kept {t' : Nat} (I : Inv X pins σ H s) (k : ∀ b u, s.heap.get? b = some u → h'.get? b = some u) : Inv X pins σ H { s with heap := h', toks := t' } := I.un (Un.kept k) (I.hok.kept k)
/-- a new object laid and tracked -/
theorem Inv.laid {a : Addr} {o : HO} {t' : Nat} (I : Inv X pins σ H s) (k : ∀ b u, s.heap.get? b = some u → h'.get? b = some u) (hp : s.heap.objs.size ≤ a) (new : ObjOk X.prog X.w (upd H a o) h' a o) :
    Inv X pins σ (upd H a o) { s with heap := h', toks := t' } := I.un (Un.laid k hp (I.hok.fresh hp)) (I.hok.laid k hp new)
/-- an object written -/
theorem Inv.write {x e : Addr} {o : HO} {t' : Nat} (I : Inv X pins σ H s) (mu : Mut (H x)) (he : e = x ∨ H e = some (.own x)) (k : ∀ b u, b ≠ e → s.heap.get? b = some u → h'.get? b = some u) (heo : ∃ u, h'.get? e = some u)
    (new : ObjOk X.prog X.w (upd H x o) h' x o) : Inv X pins σ (upd H x o) { s with heap := h', toks := t' } := I.un (Un.write mu he k heo) (I.hok.write mu he k heo new)
theorem Inv.pins_of {pins' : List (Addr × Obj)} (I : Inv X pins σ H s) (h : ∀ p ∈ pins', s.heap.get? p.1 = some p.2 ∧ H p.1 = none ∧ p.1 ≠ X.env.locals ∧ p.1 ∉ X.fs ∧ ∀ v, p.2.data ≠ .cell v) : Inv X pins' σ H s :=
  ⟨I.ok, I.os, I.bare, I.base, I.loc, I.cell, I.free, I.freeC, fun p hp => (List.mem_append.mp hp).elim (fun z => I.pin p (List.mem_append_left _ z)) (h p), I.hok, I.len⟩

theorem nodup_ix {N : List Str} (hN : N.Nodup) {i j : Nat} {x : Str} (a : N[i]? = some x) (b : N[j]? = some x) : i = j := by
  obtain ⟨h1, e1⟩ := List.getElem?_eq_some_iff.mp a
  obtain ⟨h2, e2⟩ := List.getElem?_eq_some_iff.mp b
  exact (List.getElem_inj hN).mp (e1.trans e2.symm)

/-- a name is stored; what changed -/
theorem store_ok2 {M : Model} {A : Around} {E : Value → Shared → Prop} {i : Nat} {x : Str} {v : V} {u : Value} {Q : Unit → Shared → Prop} (I : Inv X pins σ H s) (hN : X.N.Nodup) (hi : X.N[i]? = some x) (hx : Loc X.env.scope x) (r : RelV v u)
    (h : ∀ s', Inv X pins (σ.set i (some v)) H s' → (∃ a, Heap.SameBut a s.heap s'.heap ∧ (a = X.env.locals ∨ X.env.cells.lookup x = some a)) → Q () s') (hf : X.fn x = true ∨ X.env.scope.names.lookup x = some .local := by first | exact .inl rfl | exact .inr rfl | assumption) : wpAny M A (storeName X.env x u) Q E s := by
  obtain ⟨m, hn, hl⟩ := id I.loc
  have hcls : (X.env.scope.kind == .class || (X.env.scope.kind == .module && X.env.locals != X.env.globals)) = false := by rw [I.ok.kind]; rfl
  have hiσ : i < σ.length := by rw [I.len]; exact (List.getElem?_eq_some_iff.mp hi).1
  have cne := I.cne
  have tracked : ∀ {a : Addr} {h' : Heap}, (∃ o, s.heap.get? a = some o ∧ H a = none) → Heap.SameBut a s.heap h' → HOk X.prog X.w H h' := fun {a h'} ha hs b ob e => by
    obtain ⟨_, _, hfree⟩ := ha
    refine (I.hok b ob e).stay (fun c w' hc q => (hs.2 c ?_).trans q) (fun _ q => q) fun _ _ q => q
    rintro rfl
    rcases hc with rfl | hc
    · rw [hfree] at e; cases e
    · rw [hfree] at hc; cases hc
  rcases hx with hk | hk
  · refine wpAny_storeName_local hk hn (fun h' hn' hs => ?_) hcls
    obtain ⟨oL, _, _, hoL, _⟩ := id hn
    refine h _ ⟨I.ok, I.os, I.bare, ⟨fun b o e n hb hx => ?_, fun b o e n hb hx => ?_, I.base.free, fun b o e hx => ?_, I.base.tups, I.base.frzs, I.base.tbls⟩, ⟨_, hn', fun j y v' e1 e2 e3 => ?_⟩, fun y c e => ?_, I.free, I.freeC, fun p hp => ?_, tracked ⟨oL, hoL, I.free⟩ hs, by simpa using I.len⟩ ⟨_, hs, .inl rfl⟩
    · exact (hs.2 b (Nat.ne_of_lt (Nat.lt_of_lt_of_le (Heap.lt_size e) I.ok.above))).trans (I.base.keep b o e n hb hx)
    · obtain ⟨sl, e1⟩ := I.base.slot b o e n hb hx
      exact ⟨sl, (hs.2 b (Nat.ne_of_lt (Nat.lt_of_lt_of_le (Heap.lt_size e) I.ok.above))).trans e1⟩
    · obtain ⟨o', e1⟩ := I.base.there b o e hx
      exact ⟨o', (hs.2 b (Nat.ne_of_lt (Nat.lt_of_lt_of_le (Heap.lt_size e) I.ok.above))).trans e1⟩
    · by_cases hj : j = i
      · subst hj
        rw [hi] at e1; cases e1
        rw [List.getElem?_set_self hiσ] at e2
        cases e2
        exact ⟨u, r, .inl ⟨hk, by simp⟩⟩
      · rw [List.getElem?_set_ne (Ne.symm hj)] at e2
        obtain ⟨u', r', q⟩ := hl j y v' e1 e2 e3
        refine ⟨u', r', ?_⟩
        rcases q with ⟨k, e⟩ | ⟨k, c, e, z⟩
        · refine .inl ⟨k, ?_⟩
          have : y ≠ x := fun e => hj (nodup_ix hN e1 (e ▸ hi))
          simp [this, e]
        · exact .inr ⟨k, c, e, z.sameBut hs (cne y c e)⟩
    · obtain ⟨w', z⟩ := I.cell y c e
      exact ⟨w', z.sameBut hs (cne y c e)⟩
    · obtain ⟨e, n, ne, nf, d⟩ := I.pin p hp
      exact ⟨(hs.2 p.1 ne).trans e, n, ne, nf, d⟩
  · have hfn : X.fn x = true := by
      rcases hf with z | z
      · exact z
      · rw [z] at hk; cases hk
    obtain ⟨c, hc⟩ := I.ok.has x (.inl hk)
    obtain ⟨w', z⟩ := I.cell x c hc
    refine wpAny_storeName_cell I.ok.kind hk hc z (fun h' hc' hs => ?_)
    obtain ⟨oc, hoc, hocd⟩ := id z
    refine h { s with heap := h' } ⟨I.ok, I.os, I.bare, ⟨fun b o e n hb hx => ?_, fun b o e n hb hx => ?_, I.base.free, fun b o e hx => ?_, I.base.tups, I.base.frzs, I.base.tbls⟩, ⟨m, hn.sameBut hs (Ne.symm (cne x c hc)), fun j y v' e1 e2 e3 => ?_⟩, fun y c' e => ?_, I.free, I.freeC, fun p hp => ?_, tracked ⟨oc, hoc, I.freeC x c hc⟩ hs, by simpa using I.len⟩ ⟨c, hs, .inr hc⟩
    · exact (hs.2 b (Nat.ne_of_lt (Nat.lt_of_lt_of_le (Heap.lt_size e) (I.ok.cab x c hfn hc)))).trans (I.base.keep b o e n hb hx)
    · obtain ⟨sl, e1⟩ := I.base.slot b o e n hb hx
      exact ⟨sl, (hs.2 b (Nat.ne_of_lt (Nat.lt_of_lt_of_le (Heap.lt_size e) (I.ok.cab x c hfn hc)))).trans e1⟩
    · obtain ⟨o', e1⟩ := I.base.there b o e hx
      exact ⟨o', (hs.2 b (Nat.ne_of_lt (Nat.lt_of_lt_of_le (Heap.lt_size e) (I.ok.cab x c hfn hc)))).trans e1⟩
    · by_cases hj : j = i
      · subst hj
        rw [hi] at e1; cases e1
        rw [List.getElem?_set_self hiσ] at e2
        cases e2
        exact ⟨u, r, .inr ⟨.inl hk, c, hc, hc'⟩⟩
      · rw [List.getElem?_set_ne (Ne.symm hj)] at e2
        obtain ⟨u', r', q⟩ := hl j y v' e1 e2 e3
        refine ⟨u', r', ?_⟩
        rcases q with q | ⟨k, c', e, z'⟩
        · exact .inl q
        · refine .inr ⟨k, c', e, z'.sameBut hs ?_⟩
          rintro rfl
          exact hj (nodup_ix hN e1 (I.ok.inj _ _ _ e hc ▸ hi))
    · by_cases hcc : c' = c
      · subst hcc; exact ⟨_, hc'⟩
      · obtain ⟨w2, z2⟩ := I.cell y c' e
        exact ⟨w2, z2.sameBut hs hcc⟩
    · obtain ⟨e, n, ne, nf, d⟩ := I.pin p hp
      refine ⟨(hs.2 p.1 ?_).trans e, n, ne, nf, d⟩
      intro q
      rw [q, hoc] at e
      have q' : oc = p.2 := Option.some.inj e
      exact d w' (by rw [← q']; exact hocd)
theorem store_ok {M : Model} {A : Around} {E : Value → Shared → Prop} {i : Nat} {x : Str} {v : V} {u : Value} {Q : Unit → Shared → Prop} (I : Inv X pins σ H s) (hN : X.N.Nodup) (hi : X.N[i]? = some x) (hx : Loc X.env.scope x) (r : RelV v u)
    (h : ∀ s', Inv X pins (σ.set i (some v)) H s' → Q () s') (hf : X.fn x = true ∨ X.env.scope.names.lookup x = some .local := by first | exact .inl rfl | exact .inr rfl | assumption) : wpAny M A (storeName X.env x u) Q E s :=
  store_ok2 I hN hi hx r (fun s' I' _ => h s' I') hf
/-- behind a call or a block, the state as it is -/
theorem Inv.call' {s' : Shared} {ch : List Addr} (I : Inv X pins σ H s) (ho : s'.os = s.os) (u : Un (frs X.stack) ch H H' s.heap s'.heap) (hok : HOk X.prog X.w H' s'.heap) (hg : AllBare s'.gens)
    (hch : ∀ b ∈ ch, (b ∈ X.ex ∨ X.s₀.heap.objs.size ≤ b) ∧ b ≠ X.env.locals ∧ (∀ x c, X.env.cells.lookup x = some c → c ≠ b) ∧ ∀ p ∈ X.pn ++ pins, p.1 ≠ b) : Inv X pins σ H' s' := by
  obtain ⟨h', g', d', t', o'⟩ := s'
  have e : o' = s.os := ho
  subst e
  exact I.call (g' := g') (t' := t') (d' := d') u hok hg hch
end

/-! ### the judgements -/
/-- an exception: its class, its own dict's address (where it has one), the abstract heap behind it -/
abbrev XK := Value → Option Addr → Hp → Prop
abbrev St := List (Option V)
abbrev VK := V → Hp → Prop
/-- an expression's reading; a test's; an argument list's -/
abbrev TE := St → Hp → VK → Prop
abbrev TT := St → Hp → (Bool → Hp → Prop) → Prop
abbrev TA := St → Hp → (List V → Hp → Prop) → Prop
/-- what is wanted behind a statement -/
structure Ends where
  nx : St → Hp → Prop
  rt : VK
  bk : St → Hp → Prop := fun _ _ => False
  ct : St → Hp → Prop := fun _ _ => False
abbrev TS := Ends → St → Hp → Prop

def EP (X : Cx) (pins : List (Addr × Obj)) (σ : St) (Q : VK) (u : Value) (s' : Shared) : Prop := ∃ v H', Inv X pins σ H' s' ∧ RelV v u ∧ Q v H'
def TP (X : Cx) (pins : List (Addr × Obj)) (σ : St) (Q : Bool → Hp → Prop) (b : Bool) (s' : Shared) : Prop := ∃ H', Inv X pins σ H' s' ∧ Q b H'
def AP (X : Cx) (pins : List (Addr × Obj)) (σ : St) (Q : List V → Hp → Prop) (us : List Value) (s' : Shared) : Prop := ∃ vs H', Inv X pins σ H' s' ∧ Vals vs us ∧ Q vs H'
def SP (X : Cx) (pins : List (Addr × Obj)) (D : Ends) (f : Flow) (s' : Shared) : Prop :=
  match f with
  | .next => ∃ σ' H', Inv X pins σ' H' s' ∧ D.nx σ' H'
  | .brk => ∃ σ' H', Inv X pins σ' H' s' ∧ D.bk σ' H'
  | .cont => ∃ σ' H', Inv X pins σ' H' s' ∧ D.ct σ' H'
  | .ret u => ∃ v σ' H', Inv X pins σ' H' s' ∧ RelV v u ∧ D.rt v H'

def PE (X : Cx) (e : Expr) (t : TE) : Prop :=
  ∀ (pins : List (Addr × Obj)) (s : Shared) (σ : St) (H : Hp) (Q : VK), Inv X pins σ H s → t σ H Q → wpAny (model X.prog X.w) X.A (eval e X.env) (EP X pins σ Q) X.xe s
def PT (X : Cx) (e : Expr) (t : TT) : Prop :=
  ∀ (pins : List (Addr × Obj)) (s : Shared) (σ : St) (H : Hp) (Q : Bool → Hp → Prop), Inv X pins σ H s → t σ H Q → wpAny (model X.prog X.w) X.A (isTrue e X.env (eval e X.env)) (TP X pins σ Q) X.xe s
/-- a test whatever its 'whole' is (and, or) -/
def PW (X : Cx) (e : Expr) (t : TT) : Prop :=
  ∀ (whole : Sem Value) (pins : List (Addr × Obj)) (s : Shared) (σ : St) (H : Hp) (Q : Bool → Hp → Prop), Inv X pins σ H s → t σ H Q → wpAny (model X.prog X.w) X.A (isTrue e X.env whole) (TP X pins σ Q) X.xe s
theorem PW.pt {X : Cx} {e : Expr} {t : TT} (h : PW X e t) : PT X e t := h _
/-- an argument list (no star), from the left -/
def PA (X : Cx) (es : List Expr) (t : TA) : Prop :=
  ∀ (pos : Pos) (pins : List (Addr × Obj)) (s : Shared) (σ : St) (H : Hp) (Q : List V → Hp → Prop), Inv X pins σ H s → t σ H Q → wpAny (model X.prog X.w) X.A (spliced (backTo pos (starEach es X.env))) (AP X pins σ Q) X.xe s
def PS (X : Cx) (st : Stmt) (t : TS) : Prop :=
  ∀ (pins : List (Addr × Obj)) (s : Shared) (σ : St) (H : Hp) (D : Ends), Inv X pins σ H s → t D σ H → wpAny (model X.prog X.w) X.A (exec st X.env) (SP X pins D) X.xe s
def PSs (X : Cx) (st : List Stmt) (t : TS) : Prop :=
  ∀ (pins : List (Addr × Obj)) (s : Shared) (σ : St) (H : Hp) (D : Ends), Inv X pins σ H s → t D σ H → wpAny (model X.prog X.w) X.A (execs st X.env) (SP X pins D) X.xe s
/-- weaken the end -/
theorem thn {α : Type} {t : Sem α} {Q Q' : α → Shared → Prop} {M : Model} {A : Around} {E : Value → Shared → Prop} {s : Shared} (h : wpAny M A t Q E s) (hQ : ∀ a s, Q a s → Q' a s) : wpAny M A t Q' E s := wpAny_mono h hQ fun _ _ x => x
end L2

namespace L2
open PySem PySem.Spec PyProof.Rows
section
variable {X : Cx}

/-! ### names and constants -/
def tVar (i : Nat) : TE := fun σ H Q => ∃ v, σ[i]? = some (some v) ∧ Q v H
def tC (v : V) : TE := fun _ H Q => Q v H
theorem pe_var {i : Nat} {x : Str} {pos : Pos} (hN : X.N[i]? = some x) (hv : Vis X.env.scope x) (hd : (x == ("__debug__" : Str)) = false := by decide) (hcd : (x == ("__classdict__" : Str)) = false := by decide) : PE X (.Name x pos) (tVar i) := by
  intro pins s σ H Q I h
  obtain ⟨v, e, h⟩ := h
  obtain ⟨m, hn, hl⟩ := I.loc
  obtain ⟨u, r, l⟩ := hl i x v hN e hv
  have fin : EP X pins σ Q u s := ⟨v, H, I, r, h⟩
  rcases l with ⟨hk, hm⟩ | ⟨hk, c, hc, hcell⟩
  · exact wpAny_Name (wpAny_loadName_local I.ok.kind hk hn hm fin) hd
  · rcases hk with hk | hk
    · exact wpAny_Name (wpAny_loadName_cell I.ok.kind hk hc hcell fin) hd
    · exact wpAny_Name (wpAny_loadName_free I.ok.kind hk hc hcell fin hcd) hd
theorem pe_int {i j pos} : PE X (.Constant (.int i) j pos) (tC (.int i)) := fun _ _ _ H _ I h => wpAny_Constant_int ⟨.int i, H, I.tok _, ⟨_, rfl⟩, h⟩
theorem pe_bl {b j pos} : PE X (.Constant (.bool b) j pos) (tC (.bl b)) := fun _ _ _ H _ I h => Constant_bool ⟨.bl b, H, I, rfl, h⟩
theorem pe_non {j pos} : PE X (.Constant .none j pos) (tC .non) := fun _ _ _ H _ I h => Constant_none ⟨.non, H, I, rfl, h⟩
theorem pe_str {x j pos} : PE X (.Constant (.str x) j pos) (tC (.str x)) := fun _ _ _ H _ I h => Calls.Constant_str ⟨.str x, H, I.tok _, ⟨_, rfl⟩, h⟩

/-- a global name of the def -/
def Gl (X : Cx) (x : Str) : Prop := X.env.kindOf x = some .globalImplicit
theorem ld_glob {E : Value → Shared → Prop} {pins : List (Addr × Obj)} {s : Shared} {σ : St} {H : Hp} {x : Str} {u : Value} {pos : Pos} {Q : Value → Shared → Prop} (I : Inv X pins σ H s) (hg : Gl X x) (hm : X.mg x = some u) (h : Q u s)
    (hd : (x == ("__debug__" : Str)) = false := by decide) : wpAny (model X.prog X.w) X.A (eval (.Name x pos) X.env) Q E s :=
  Calls.Name_function_global I.ok.kind hg (Calls.loadGlobal_global (by rw [I.ok.glob]; exact I.mod.glob.keeps I.bk) hm h) hd
theorem ld_blt {E : Value → Shared → Prop} {pins : List (Addr × Obj)} {s : Shared} {σ : St} {H : Hp} {x : Str} {u : Value} {pos : Pos} {Q : Value → Shared → Prop} (I : Inv X pins σ H s) (hg : Gl X x) (hm : X.mg x = none) (hv : bootBuiltins x = some u) (h : Q u s)
    (hn : x ≠ "__name__" := by decide) (hd : (x == ("__debug__" : Str)) = false := by decide) : wpAny (model X.prog X.w) X.A (eval (.Name x pos) X.env) Q E s := by
  obtain ⟨mb, h1, h2⟩ := I.mod.blt
  exact Calls.Name_function_global I.ok.kind hg (Calls.loadGlobal_builtin (by rw [I.ok.glob]; exact I.mod.glob.keeps I.bk) hm (by rw [I.ok.blt]; exact h1.keeps I.bk) ((h2 x hn).trans hv) h) hd
/-- a module's constant, a class, a function, as a value -/
theorem pe_glob {x : Str} {v : V} {u : Value} {pos : Pos} (hg : Gl X x) (hm : X.mg x = some u) (r : RelV v u) (hd : (x == ("__debug__" : Str)) = false := by decide) : PE X (.Name x pos) (tC v) :=
  fun _ _ _ H _ I h => ld_glob I hg hm ⟨v, H, I, r, h⟩ hd
theorem pe_bltn {x : Str} {v : V} {u : Value} {pos : Pos} (hg : Gl X x) (hm : X.mg x = none) (hv : bootBuiltins x = some u) (r : RelV v u) (hn : x ≠ "__name__" := by decide) (hd : (x == ("__debug__" : Str)) = false := by decide) : PE X (.Name x pos) (tC v) :=
  fun _ _ _ H _ I h => ld_blt I hg hm hv ⟨v, H, I, r, h⟩ hn hd

/-! ### arithmetic -/
/-- two ints -/
def t2I (ta tb : TE) (k : Int → Int → Hp → Prop) : St → Hp → Prop := fun σ H => ta σ H fun x H1 => tb σ H1 fun y H2 => ∃ i j, x = .int i ∧ y = .int j ∧ k i j H2
def tAdd (ta tb : TE) : TE := fun σ H Q => t2I ta tb (fun i j H2 => Q (.int (i + j)) H2) σ H
def tSub (ta tb : TE) : TE := fun σ H Q => t2I ta tb (fun i j H2 => Q (.int (i - j)) H2) σ H
/-- the left factor below 2^64 -/
def tMul (ta tb : TE) : TE := fun σ H Q => t2I ta tb (fun i j H2 => (-(2 ^ 64) < i ∧ i < 2 ^ 64) ∧ Q (.int (i * j)) H2) σ H
variable {a b : Expr} {ta tb : TE} {pos : Pos}
/-! ### comparisons -/
def PC (X : Cx) (op : CmpOp) (a b : Expr) (t : TE) : Prop :=
  ∀ (pins : List (Addr × Obj)) (s : Shared) (σ : St) (H : Hp) (Q : VK), Inv X pins σ H s → t σ H Q →
    wpAny (model X.prog X.w) X.A (eval a X.env) (fun v s₁ => wpAny (model X.prog X.w) X.A (eval b X.env) (fun u s₂ => wpAny (model X.prog X.w) X.A (compareOp op v u) (EP X pins σ Q) X.xe s₂) X.xe s₁) X.xe s
def tCmp (p : Int → Int → Bool) (ta tb : TE) : TE := fun σ H Q => t2I ta tb (fun i j H2 => Q (.bl (p i j)) H2) σ H
abbrev tLt : TE → TE → TE := tCmp fun i j => decide (i < j)
abbrev tLe : TE → TE → TE := tCmp fun i j => decide (i ≤ j)
abbrev tGt : TE → TE → TE := tCmp fun i j => decide (j < i)
abbrev tGe : TE → TE → TE := tCmp fun i j => decide (j ≤ i)
abbrev tEqI : TE → TE → TE := tCmp fun i j => decide (i = j)
abbrev tNeI : TE → TE → TE := tCmp fun i j => !decide (i = j)
/-- is None -/
def tIsN (ta : TE) : TE := fun σ H Q => ta σ H fun x H1 => Q (.bl (decide (x = .non))) H1
def tNotN (ta : TE) : TE := fun σ H Q => ta σ H fun x H1 => Q (.bl (!decide (x = .non))) H1
/-- a comparison as a value, as a test -/
def tB (t : TE) : TT := fun σ H Q => t σ H fun x H1 => ∃ c, x = .bl c ∧ Q c H1
/-- an expression whose value is a bool, as a test -/
theorem pt_val {e : Expr} {t : TE} (h : PE X e t) (he : ∀ whole, isTrue e X.env whole = (do let v ← whole; standAt e.pos; holding [v] (truthy v)) := by intro _; rfl) : PT X e (tB t) := by
  intro pins s σ H Q I hw
  refine isTrue_plain (thn (h pins s σ H _ I hw) fun v s1 ⟨x, H1, I1, r1, q1⟩ => ?_) (he _)
  obtain ⟨d, rfl, q⟩ := q1
  cases r1
  exact wpAny_truthy_bool ⟨H1, I1, q⟩

/-! ### and, or, not -/
variable {tA tB' : TT} {rest : List Expr}
def tAnd (t u : TT) : TT := fun σ H Q => t σ H fun c H1 => if c = true then u σ H1 Q else Q false H1
def tOr (t u : TT) : TT := fun σ H Q => t σ H fun c H1 => if c = true then Q true H1 else u σ H1 Q
def tNot (t : TT) : TT := fun σ H Q => t σ H fun c H1 => Q (!c) H1
theorem pw_and1 (ha : PT X a tA) : PW X (.BoolOp .And [a] pos) tA := by
  intro wh pins s σ H Q I h
  refine isTrue_and (thn (ha pins s σ H Q I h) fun c s1 e => ?_)
  cases c with
  | true => exact isTrue_and_nil e
  | false => exact e
theorem pw_or1 (ha : PT X a tA) : PW X (.BoolOp .Or [a] pos) tA := by
  intro wh pins s σ H Q I h
  refine isTrue_or (thn (ha pins s σ H Q I h) fun c s1 e => ?_)
  cases c with
  | false => exact isTrue_or_nil e
  | true => exact e
theorem pw_and (ha : PT X a tA) (hb : PW X (.BoolOp .And (b :: rest) pos) tB') : PW X (.BoolOp .And (a :: b :: rest) pos) (tAnd tA tB') := by
  intro wh pins s σ H Q I h
  refine isTrue_and (thn (ha pins s σ H _ I h) fun c s1 ⟨H1, I1, q1⟩ => ?_)
  cases c with
  | true => exact hb wh pins s1 σ H1 Q I1 q1
  | false => exact ⟨H1, I1, q1⟩
theorem pw_or (ha : PT X a tA) (hb : PW X (.BoolOp .Or (b :: rest) pos) tB') : PW X (.BoolOp .Or (a :: b :: rest) pos) (tOr tA tB') := by
  intro wh pins s σ H Q I h
  refine isTrue_or (thn (ha pins s σ H _ I h) fun c s1 ⟨H1, I1, q1⟩ => ?_)
  cases c with
  | true => exact ⟨H1, I1, q1⟩
  | false => exact hb wh pins s1 σ H1 Q I1 q1
theorem pt_not (ha : PT X a tA) : PT X (.UnaryOp .Not a pos) (tNot tA) := by
  intro pins s σ H Q I h
  exact isTrue_not (ha pins s σ H (fun c H1 => Q (!c) H1) I h)
/-- .. as values (bools) -/
def tAndV (ta tb : TE) : TE := fun σ H Q => ta σ H fun x H1 => ∃ c, x = .bl c ∧ if c = true then tb σ H1 Q else Q (.bl false) H1
def tOrV (ta tb : TE) : TE := fun σ H Q => ta σ H fun x H1 => ∃ c, x = .bl c ∧ if c = true then Q (.bl true) H1 else tb σ H1 Q
def tNotV (ta : TE) : TE := fun σ H Q => ta σ H fun x H1 => ∃ c, x = .bl c ∧ Q (.bl (!c)) H1
theorem pe_one {op} {t : TE} (h : PE X a t) : PE X (.BoolOp op [a] pos) t := fun pins s σ H Q I hw => BoolOp_one (h pins s σ H Q I hw)
theorem pe_and (ha : PE X a ta) (hb : PE X (.BoolOp .And (b :: rest) pos) tb) : PE X (.BoolOp .And (a :: b :: rest) pos) (tAndV ta tb) := by
  intro pins s σ H Q I h
  refine BoolOp_and (thn (ha pins s σ H _ I h) fun v s1 ⟨x, H1, I1, r1, q1⟩ => ?_)
  obtain ⟨c, rfl, q1⟩ := q1
  cases r1
  refine wpAny_truthy_bool ?_
  cases c with
  | true => exact hb pins s1 σ H1 Q I1 q1
  | false => exact ⟨.bl false, H1, I1, rfl, q1⟩
theorem pe_not (ha : PE X a ta) : PE X (.UnaryOp .Not a pos) (tNotV ta) := by
  intro pins s σ H Q I h
  refine UnaryOp_ (thn (ha pins s σ H _ I h) fun v s1 ⟨x, H1, I1, r1, q1⟩ => ?_)
  obtain ⟨c, rfl, q1⟩ := q1
  cases r1
  exact not_of (wpAny_truthy_bool ⟨.bl (!c), H1, I1, rfl, q1⟩)
/-- a if t else b -/
def tIf (t : TT) (ta tb : TE) : TE := fun σ H Q => t σ H fun c H1 => if c = true then ta σ H1 Q else tb σ H1 Q
end
end L2

namespace L2
open PySem PySem.Spec PyProof.Rows

/-! ### a list, a tuple that is read: tracked, frozen, or an object of the module -/
def SqL (K : PySem.W.Frag) (H : Hp) (a : Addr) (xs : List V) : Prop :=
  Rd H a (.lst xs) ∨
    ∃ (o : Obj) (its : Array Value) (n : Nat), K.lookup a = some o ∧ o.cls = .type "list" ∧ o.dict = none ∧ o.data = .seq its n ∧ its.size ≤ sizeLine ∧ Vals xs its.toList
def SqT (K : PySem.W.Frag) (H : Hp) (a : Addr) (xs : List V) : Prop :=
  Rd H a (.tup xs) ∨
    ∃ (o : Obj) (its : Array Value) (n : Nat), K.lookup a = some o ∧ o.cls = .type "tuple" ∧ o.data = .seq its n ∧ its.size ≤ sizeLine ∧ Vals xs its.toList
def absV : Value → Option V
  | .none => some .non
  | .bool b => some (.bl b)
  | .int i _ => some (.int i)
  | .str x _ => some (.str x)
  | .bytes b _ => some (.byt b)
  | .float b _ => some (.flt b)
  | .ref a => some (.ref a)
  | .type n => some (.ty n)
  | _ => none
section
variable {X : Cx} {pins : List (Addr × Obj)} {σ : St} {H : Hp} {s : Shared} {a : Addr} {xs ys : List V}
theorem SqL.of {K : PySem.W.Frag} (h : H a = some (.lst xs)) : SqL K H a xs := .inl (.inl h)
theorem SqT.of {K : PySem.W.Frag} (h : H a = some (.tup xs)) : SqT K H a xs := .inl (.inl h)
theorem Inv.list (I : Inv X pins σ H s) (h : SqL X.K H a xs) : ∃ its : List Value, Vals xs its ∧ PlainL s.heap a its.toArray ∧ xs.length ≤ sizeLine := by
  rcases h with h | ⟨o, its, n, hk, hc, hd, hs, hz, r⟩
  · obtain ⟨z, its, n, r, e⟩ := h.ok I.hok
    exact ⟨its, r, ⟨_, n, e, rfl, rfl, rfl⟩, z⟩
  · refine ⟨its.toList, r, ⟨o, n, I.kIn a o hk, hc, hd, by simpa using hs⟩, ?_⟩
    have e := r.length
    simp only [Array.length_toList] at e
    omega
theorem Inv.tuple (I : Inv X pins σ H s) (h : SqT X.K H a xs) : ∃ its : List Value, Vals xs its ∧ IsTup s.heap a its.toArray ∧ xs.length ≤ sizeLine := by
  rcases h with h | ⟨o, its, n, hk, hc, hs, hz, r⟩
  · obtain ⟨z, its, r, p⟩ := h.ok I.hok
    exact ⟨its, r, p, z⟩
  · refine ⟨its.toList, r, ⟨o, I.kIn a o hk, hc, n, by simpa using hs⟩, ?_⟩
    have e := r.length
    simp only [Array.length_toList] at e
    omega
end

/-! ### another wish about exceptions -/
abbrev Cx.wish (X : Cx) (E : Value → Shared → Prop) : Cx := { X with xe := E }
/-- no exception leaves -/
abbrev Cx.nox (X : Cx) : Cx := X.wish fun _ _ => False
theorem Cx.Ok.wish {X : Cx} (ok : X.Ok) (E : Value → Shared → Prop) : (X.wish E).Ok :=
  ⟨ok.mod, ok.kind, ok.glob, ok.blt, ok.above, ok.inj, ok.has, ok.cab, ok.hd, ok.frames, ok.stk, ok.exf, ok.bs, ok.bsz, ok.noex, ok.exfs, ok.funs, ok.frf⟩
theorem Cx.Ok.unwish {X : Cx} {E : Value → Shared → Prop} (ok : (X.wish E).Ok) : X.Ok :=
  ⟨ok.mod, ok.kind, ok.glob, ok.blt, ok.above, ok.inj, ok.has, ok.cab, ok.hd, ok.frames, ok.stk, ok.exf, ok.bs, ok.bsz, ok.noex, ok.exfs, ok.funs, ok.frf⟩
section
variable {X : Cx} {pins : List (Addr × Obj)} {σ : St} {H : Hp} {s : Shared} {E : Value → Shared → Prop}
theorem Inv.wish (I : Inv X pins σ H s) (E : Value → Shared → Prop) : Inv (X.wish E) pins σ H s := ⟨I.ok.wish E, I.os, I.bare, I.base, I.loc, I.cell, I.free, I.freeC, I.pin, I.hok, I.len⟩
theorem Inv.unwish (I : Inv (X.wish E) pins σ H s) : Inv X pins σ H s := ⟨I.ok.unwish, I.os, I.bare, I.base, I.loc, I.cell, I.free, I.freeC, I.pin, I.hok, I.len⟩
theorem SP.unwish {D : Ends} {f : Flow} {s' : Shared} (h : SP (X.wish E) pins D f s') : SP X pins D f s' := by
  cases f with
  | next => obtain ⟨σ', H', I, q⟩ := h; exact ⟨σ', H', I.unwish, q⟩
  | brk => obtain ⟨σ', H', I, q⟩ := h; exact ⟨σ', H', I.unwish, q⟩
  | cont => obtain ⟨σ', H', I, q⟩ := h; exact ⟨σ', H', I.unwish, q⟩
  | ret u => obtain ⟨v, σ', H', I, r, q⟩ := h; exact ⟨v, σ', H', I.unwish, r, q⟩
theorem PSs.nox {st : List Stmt} {t : TS} (h : PSs X.nox st t) : PSs X st t := fun pins s σ H D I hw =>
  wpAny_mono (h pins s σ H D (I.wish _) hw) (fun _ _ q => q.unwish) fun _ _ z => False.elim z
end

/-! ### blocks and small statements -/
section
variable {X : Cx} {st : Stmt} {rest : List Stmt} {t u : TS} {e : Expr} {te : TE} {pos : Pos}
def tNext : TS := fun D σ H => D.nx σ H
def tSeq (t u : TS) : TS := fun D σ H => t { D with nx := u D } σ H
theorem pss_nil : PSs X [] tNext := fun _ _ σ H _ I h => wpAny_execs_nil ⟨σ, H, I, h⟩
theorem pss_cons (h1 : PS X st t) (h2 : PSs X rest u) : PSs X (st :: rest) (tSeq t u) := by
  intro pins s σ H D I h
  refine wpAny_execs_cons (thn (h1 pins s σ H { D with nx := u D } I h) fun f s1 q => ?_)
  cases f with
  | next =>
    obtain ⟨σ', H', I', q⟩ := q
    exact h2 pins s1 σ' H' D I' q
  | ret v => exact q
  | brk => exact q
  | cont => exact q
theorem pss_one (h1 : PS X st t) : PSs X [st] t := by
  intro pins s σ H D I h
  refine wpAny_execs_cons (thn (h1 pins s σ H D I h) fun f s1 q => ?_)
  cases f with
  | next => exact wpAny_execs_nil q
  | ret v => exact q
  | brk => exact q
  | cont => exact q
def tBreak : TS := fun D σ H => D.bk σ H
def tCont : TS := fun D σ H => D.ct σ H
/-- in a def's body nothing is shown -/
theorem Inv.quiet {pins : List (Addr × Obj)} {σ : St} {H : Hp} {s : Shared} (I : Inv X pins σ H s) : interactive X.env = false := by simp [interactive, I.ok.kind]
/-- an expression whose value is dropped -/
def tDrop (te : TE) : TS := fun D σ H => te σ H fun _ H1 => D.nx σ H1
theorem ps_expr (he : PE X e te) (hs : swapsWith e none pos.line X.env = pure false := by rfl) : PS X (.Expr e pos) (tDrop te) := by
  intro pins s σ H D I h
  exact wpAny_Expr_any (thn (he pins s σ H _ I h) fun v s1 ⟨x, H1, I1, r1, q1⟩ => ⟨σ, H1, I1, q1⟩) I.quiet hs
def tRet (te : TE) : TS := fun D σ H => te σ H D.rt
theorem ps_ret (he : PE X e te) : PS X (.Return (some e) pos) (tRet te) := by
  intro pins s σ H D I h
  exact wpAny_Return_some (thn (he pins s σ H _ I h) fun v s1 ⟨x, H1, I1, r1, q1⟩ => ⟨x, σ, H1, I1, r1, q1⟩)
def tRetN : TS := fun D _ H => D.rt .non H
def tIfS (c : TT) (t u : TS) : TS := fun D σ H => c σ H fun b H1 => if b = true then t D σ H1 else u D σ H1
theorem ps_if {c : Expr} {a b : List Stmt} {tc : TT} (hc : PT X c tc) (ha : PSs X a t) (hb : PSs X b u) : PS X (.If c a b pos) (tIfS tc t u) := by
  intro pins s σ H D I h
  refine wpAny_If (thn (hc pins s σ H _ I h) fun d s1 ⟨H1, I1, q1⟩ => ?_)
  cases d with
  | true => exact ha pins s1 σ H1 D I1 q1
  | false => exact hb pins s1 σ H1 D I1 q1
/-- code that the proof never comes to -/
def tNever : TS := fun _ _ _ => False
end

/-! ### targets -/
abbrev TG := V → St → Hp → (St → Hp → Prop) → Prop
abbrev TGs := List V → St → Hp → (St → Hp → Prop) → Prop
def PG (X : Cx) (target : Expr) (t : TG) : Prop :=
  ∀ (pins : List (Addr × Obj)) (s : Shared) (σ : St) (H : Hp) (v : V) (u : Value) (Q : St → Hp → Prop), Inv X pins σ H s → RelV v u → t v σ H Q →
    wpAny (model X.prog X.w) X.A (assign target X.env u) (fun _ s' => ∃ σ' H', Inv X pins σ' H' s' ∧ Q σ' H') X.xe s
/-- several targets, one after another -/
def PGs (X : Cx) (ts : List Expr) (t : TGs) : Prop :=
  ∀ (pins : List (Addr × Obj)) (s : Shared) (σ : St) (H : Hp) (vs : List V) (us : List Value) (Q : St → Hp → Prop), Inv X pins σ H s → Vals vs us → t vs σ H Q →
    wpAny (model X.prog X.w) X.A (assignInOrder ((assignEach ts X.env).map (·.2)) us) (fun _ s' => ∃ σ' H', Inv X pins σ' H' s' ∧ Q σ' H') X.xe s
/-- o[i] = v, by values -/
abbrev TSet := V → V → V → Hp → (Hp → Prop) → Prop
def PSet (X : Cx) (t : TSet) : Prop :=
  ∀ (pins : List (Addr × Obj)) (s : Shared) (σ : St) (H : Hp) (o i v : V) (ov iv u : Value) (Q : Hp → Prop), Inv X pins σ H s → RelV o ov → RelV i iv → RelV v u → t o i v H Q →
    wpAny (model X.prog X.w) X.A (setItem ov iv u) (fun _ s' => ∃ H', Inv X pins σ H' s' ∧ Q H') X.xe s
/-- a op= b, by values -/
abbrev TIp := V → V → Hp → VK → Prop
def PIp (X : Cx) (op : Operator) (t : TIp) : Prop :=
  ∀ (pins : List (Addr × Obj)) (s : Shared) (σ : St) (H : Hp) (x y : V) (v u : Value) (Q : VK), Inv X pins σ H s → RelV x v → RelV y u → t x y H Q →
    wpAny (model X.prog X.w) X.A (inplaceOp op v u) (EP X pins σ Q) X.xe s
section
variable {X : Cx} {pos : Pos}
def gName (i : Nat) : TG := fun v σ H Q => Q (σ.set i (some v)) H
theorem pg_name {i : Nat} {x : Str} (hN : X.N.Nodup) (hi : X.N[i]? = some x) (hx : Loc X.env.scope x) (hf : X.fn x = true ∨ X.env.scope.names.lookup x = some .local := by first | exact .inl rfl | exact .inr rfl | assumption) : PG X (.Name x pos) (gName i) := by
  intro pins s σ H v u Q I r h
  exact wpAny_assign_Name (store_ok I hN hi hx r (fun s' I' => ⟨_, H, I', h⟩) hf)
def gNil : TGs := fun vs σ H Q => vs = [] ∧ Q σ H
def gCons (t : TG) (u : TGs) : TGs := fun vs σ H Q => ∃ v r, vs = v :: r ∧ t v σ H fun σ' H' => u r σ' H' Q
theorem pgs_nil : PGs X [] gNil := by
  intro pins s σ H vs us Q I r h
  obtain ⟨e, h⟩ := h
  subst e
  cases r
  exact assignInOrder_nil ⟨σ, H, I, h⟩
theorem pgs_cons {e : Expr} {es : List Expr} {t : TG} {u : TGs} (h1 : PG X e t) (h2 : PGs X es u)
    (hs : (assignEach (e :: es) X.env).map (·.2) = assign e X.env :: (assignEach es X.env).map (·.2) := by rfl) : PGs X (e :: es) (gCons t u) := by
  intro pins s σ H vs us Q I r h
  obtain ⟨v, vr, e1, h⟩ := h
  subst e1
  cases r with
  | cons r rr =>
    rw [hs]
    refine assignInOrder_cons (thn (h1 pins s σ H _ _ _ I r h) fun _ s1 ⟨σ1, H1, I1, q1⟩ => ?_)
    exact h2 pins s1 σ1 H1 _ _ Q I1 rr q1
/-- (a, b, ..) = a tuple of that length -/
def gTup (K : PySem.W.Frag) (n : Nat) (t : TGs) : TG := fun v σ H Q => ∃ a xs, v = .ref a ∧ SqT K H a xs ∧ xs.length = n ∧ t xs σ H Q
theorem pg_tup {es : List Expr} {k : Nat} {t : TGs} {n : Nat} (hc : X.calm = true) (h : PGs X es t)
    (hn : (assignEach es X.env).length = n := by rfl) (hst : (assignEach es X.env).findIdx? (·.1) = none := by rfl) : PG X (.Tuple es k pos) (gTup X.K n t) := by
  intro pins s σ H v u Q I r hw
  obtain ⟨a, xs, e1, hq, hl, hw⟩ := hw
  subst e1
  cases r
  obtain ⟨its, rv, ht, hz⟩ := I.tuple hq
  refine assign_Tuple_tuple (I.ok.hd hc) ht (by simp [hn, ← hl, rv.length]) hst fun h' hx => ?_
  have I1 : Inv X pins σ H { s with heap := h' } := I.kept (t' := s.toks) fun b o e => hx b o (Nat.ne_of_lt (Heap.lt_size e)) e
  exact h pins _ σ H xs _ Q I1 (by simpa using rv) hw
/-- o[i] = .. -/
def gSub (to ti : TE) (t : TSet) : TG := fun v σ H Q => to σ H fun o H1 => ti σ H1 fun i H2 => t o i v H2 fun H3 => Q σ H3
/-- target = value -/
def tAsg (te : TE) (g : TG) : TS := fun D σ H => te σ H fun x H1 => g x σ H1 D.nx
theorem ps_asg {tg e : Expr} {te : TE} {g : TG} (he : PE X e te) (hg : PG X tg g) (hs : swapsWithSole [tg] e pos.line X.env = pure false := by rfl) (hw : swappedStores [tg] e X.env = pure none := by rfl)
    (h1 : (assignEach [tg] X.env).map (·.2) = [assign tg X.env] := by rfl) : PS X (.Assign [tg] e pos) (tAsg te g) := by
  intro pins s σ H D I h
  refine wpAny_Assign_stores (thn (he pins s σ H _ I h) fun v s1 ⟨x, H1, I1, r1, q1⟩ => ?_) hs hw
  rw [h1]
  exact thn (hg pins s1 σ H1 x v _ I1 r1 q1) fun _ s2 q => q
/-- name = value -/
theorem ps_set {i : Nat} {x : Str} {e : Expr} {te : TE} {pos' : Pos} (hN : X.N.Nodup) (hi : X.N[i]? = some x) (hx : Loc X.env.scope x) (he : PE X e te) (hs : swapsWith e (some (.Name x pos')) pos.line X.env = pure false := by rfl) (hf : X.fn x = true ∨ X.env.scope.names.lookup x = some .local := by first | exact .inl rfl | exact .inr rfl | assumption) :
    PS X (.Assign [.Name x pos'] e pos) (tAsg te (gName i)) := by
  intro pins s σ H D I h
  refine wpAny_Assign_Name (thn (he pins s σ H _ I h) fun v s1 ⟨y, H1, I1, r1, q1⟩ => ?_) hs
  exact store_ok I1 hN hi hx r1 (fun s2 I2 => ⟨_, H1, I2, q1⟩) hf
/-- a, b = x, y with plain local names: stored from the right; the pair itself is not tracked (the opening rows as in PyProof/Rows/TupAssign.lean:23) -/
def tPar (i j : Nat) (ta : TA) : TS := fun D σ H => ta σ H fun vs H1 => ∃ v w, vs = [v, w] ∧ D.nx ((σ.set i (some v)).set j (some w)) H1
/-- name op= e -/
def tAug (i : Nat) (te : TE) (ti : TIp) : TS := fun D σ H => ∃ x, σ[i]? = some (some x) ∧ te σ H fun y H1 => ti x y H1 fun z H2 => D.nx (σ.set i (some z)) H2
/-- o[i] op= e -/
def tAugS (to ti te : TE) (tget : V → V → Hp → VK → Prop) (tip : TIp) (tset : TSet) : TS := fun D σ H => to σ H fun o H1 => ti σ H1 fun i H2 => tget o i H2 fun x H3 => te σ H3 fun y H4 => tip x y H4 fun z H5 => tset o i z H5 fun H6 => D.nx σ H6
/-- o[i], by values -/
def PGet (X : Cx) (t : V → V → Hp → VK → Prop) : Prop :=
  ∀ (pins : List (Addr × Obj)) (s : Shared) (σ : St) (H : Hp) (o i : V) (ov iv : Value) (Q : VK), Inv X pins σ H s → RelV o ov → RelV i iv → t o i H Q →
    wpAny (model X.prog X.w) X.A (getItem ov iv) (EP X pins σ Q) X.xe s
/-- ints -/
def ipI (f : Int → Int → Int) : TIp := fun x y H Q => ∃ i j, x = .int i ∧ y = .int j ∧ Q (.int (f i j)) H
end

/-! ### while -/
section
variable {X : Cx} {pos : Pos}
/-- the invariant W with its measure -/
def tWhile (c : TT) (tb : TS) : TS := fun D σ H => ∃ W : Nat → St → Hp → Prop, (∃ m, W m σ H) ∧ ∀ m σ H, W m σ H →
  c σ H fun b H1 => if b = true then ∃ N : St → Hp → Prop, (∀ σ' H', N σ' H' → ∃ m', m' < m ∧ W m' σ' H') ∧ tb { D with nx := N, ct := N, bk := D.nx } σ H1 else D.nx σ H1
theorem ps_while {c : Expr} {body : List Stmt} {tc : TT} {tb : TS} (hp : PassesOwn (model X.prog X.w) X.A X.env X.xe) (hc : PT X c tc) (hb : PSs X body tb) : PS X (.While c body [] pos) (tWhile tc tb) := by
  intro pins s σ H D I h
  obtain ⟨W, ⟨m0, w0⟩, turn⟩ := h
  refine wpAny_While (codeAny_whileLoop (fun n s' => ∃ σ' H', Inv X pins σ' H' s' ∧ W n σ' H') ?_ m0 ⟨σ, H, I, w0⟩)
  rintro n s1 ⟨σ1, H1, I1, w1⟩
  refine wpAny_passesOwn hp (thn (hc pins s1 σ1 H1 _ I1 (turn n σ1 H1 w1)) fun b s2 ⟨H2, I2, q2⟩ => ?_)
  cases b with
  | true =>
    obtain ⟨N, hN, q2⟩ := q2
    rw [if_pos rfl]
    refine wpAny_passesOwn hp (thn (hb pins s2 σ1 H2 _ I2 q2) fun f s3 q3 => ?_)
    cases f with
    | next =>
      obtain ⟨σ3, H3, I3, n3⟩ := q3
      obtain ⟨m', hm, w3⟩ := hN σ3 H3 n3
      exact ⟨m', hm, σ3, H3, I3, w3⟩
    | cont =>
      obtain ⟨σ3, H3, I3, n3⟩ := q3
      obtain ⟨m', hm, w3⟩ := hN σ3 H3 n3
      exact ⟨m', hm, σ3, H3, I3, w3⟩
    | brk => exact q3
    | ret v => exact q3
  | false =>
    rw [if_neg Bool.false_ne_true]
    exact wpAny_execs_nil ⟨σ1, H2, I2, q2⟩
end

/-! ### what a loop or a comprehension walks -/
/-- at turn i: it yields x (the heap may grow), or it stops -/
structure It where
  go : Nat → Hp → Prop
  yld : Nat → Hp → V → Hp → Prop
  stop : Nat → Hp → Prop
/-- the iterator's own objects may turn: they are not the frame's, not pinned, younger than the entry (or a comprehension's own) -/
def FpOk (X : Cx) (pins : List (Addr × Obj)) (H : Hp) (b : Addr) : Prop :=
  H b = none ∧ b ≠ X.env.locals ∧ b ∉ X.fs ∧ (b ∈ X.ex ∨ X.s₀.heap.objs.size ≤ b) ∧ (∀ x c, X.env.cells.lookup x = some c → c ≠ b) ∧ ∀ p ∈ X.pn ++ pins, p.1 ≠ b
theorem Inv.fpOk {X : Cx} {pins : List (Addr × Obj)} {σ : St} {H H' : Hp} {s : Shared} {b : Addr} (I : Inv X pins σ H s) (hb : s.heap.objs.size ≤ b) (hn : H' b = none) : FpOk X pins H' b := by
  refine ⟨hn, Nat.ne_of_gt (Nat.lt_of_lt_of_le I.lt hb), I.nofs hb, .inr (Nat.le_trans I.sz hb), fun x c e z => ?_, fun p hp z => ?_⟩
  · obtain ⟨v, q⟩ := I.cell x c e
    exact absurd (Nat.lt_of_lt_of_le q.lt (by rw [z]; exact hb)) (Nat.lt_irrefl _)
  · exact absurd (Nat.lt_of_lt_of_le (Heap.lt_size (I.pin p hp).1) (by rw [z]; exact hb)) (Nat.lt_irrefl _)
structure Turn (P : Program) (w : World) (K : PySem.W.Frag) (tg : Expr) (J : It) (fp : List Addr) (it : Addr) (tn : Nat → Heap → Prop) : Prop where
  mem : it ∈ fp
  obj : ∀ i h, tn i h → ∀ b ∈ fp, ∃ o, h.get? b = some o ∧ ∀ v, o.data ≠ .cell v
  keep : ∀ i h h', tn i h → (∀ b ∈ fp, ∀ o, h.get? b = some o → h'.get? b = some o) → tn i h'
  item : ∀ (X : Cx), X.prog = P → X.w = w → X.K = K → X.calm = true → ∀ (i : Nat) (pins : List (Addr × Obj)) (s : Shared) (σ : St) (H : Hp) (E : Value → Shared → Prop), Inv X pins σ H s → (∀ b ∈ fp, FpOk X pins H b) → tn i s.heap → J.go i H →
    wpAny (model P w) X.A (pyNext (.ref it)) (fun r s1 => ∃ u, r = some u ∧
      wpAny (model P w) X.A (letOwnedTupleGo tg (.ref it) u) (fun _ s2 => ∃ x H', Inv X pins σ H' s2 ∧ RelV x u ∧ J.yld i H x H' ∧ tn (i + 1) s2.heap ∧ ∀ b ∈ fp, H' b = none) E s1) E s
  done : ∀ (X : Cx), X.prog = P → X.w = w → X.K = K → X.calm = true → ∀ (i : Nat) (pins : List (Addr × Obj)) (s : Shared) (σ : St) (H : Hp) (E : Value → Shared → Prop), Inv X pins σ H s → (∀ b ∈ fp, FpOk X pins H b) → tn i s.heap → J.stop i H →
    wpAny (model P w) X.A (pyNext (.ref it)) (fun r s1 => r = none ∧ Inv X pins σ H s1) E s
  self : ∀ (A : Around) (i : Nat) (s : Shared) (Q : Value → Shared → Prop) (E : Value → Shared → Prop), tn i s.heap → Q (.ref it) s → wpAny (model P w) A (pyIter (.ref it)) Q E s
abbrev TI := St → Hp → (It → Hp → Prop) → Prop
/-- an iterator has come -/
def PIE (X : Cx) (pins : List (Addr × Obj)) (σ : St) (tg : Expr) (R : It → Hp → Prop) (itv : Value) (s2 : Shared) : Prop :=
  ∃ (it : Addr) (fp : List Addr) (tn : Nat → Heap → Prop) (J : It) (H' : Hp), itv = .ref it ∧ Inv X pins σ H' s2 ∧ Turn X.prog X.w X.K tg J fp it tn ∧ tn 0 s2.heap ∧ (∀ b ∈ fp, FpOk X pins H' b) ∧ R J H'
def PI (X : Cx) (tg iter : Expr) (wi : TI) : Prop :=
  ∀ (pins : List (Addr × Obj)) (s : Shared) (σ : St) (H : Hp) (R : It → Hp → Prop), Inv X pins σ H s → wi σ H R →
    wpAny (model X.prog X.w) X.A (eval iter X.env) (fun v s1 => wpAny (model X.prog X.w) X.A (pyIter v) (PIE X pins σ tg R) X.xe s1) X.xe s

/-- the step ahead of the store is nothing for an iterator that keeps no tuple -/
theorem go_of {M : Model} {A : Around} {E : Value → Shared → Prop} {s : Shared} {tg : Expr} {it : Addr} {u : Value} {o : Obj} {n : String} {vs : Array Value} {Q : Unit → Shared → Prop} (ho : s.heap.get? it = some o) (hc : o.cls = .type n) (hd : o.data = .fields vs)
    (hn : ["enumerate", "zip", "dict_itemiterator", "dict_reverseitemiterator", "odict_iterator", "itertools.zip_longest", "itertools.pairwise"].contains n = false) (hQ : Q () s) : wpAny M A (letOwnedTupleGo tg (.ref it) u) Q E s := by
  unfold letOwnedTupleGo
  cases tg <;> first
    | exact wpAny_pure hQ
    | (cases u <;> first
        | exact wpAny_pure hQ
        | (refine wpAny_bind (wpAny_load ho ?_)
           rw [hc, hd]
           show wpAny M A (if (["enumerate", "zip", "dict_itemiterator", "dict_reverseitemiterator", "odict_iterator", "itertools.zip_longest", "itertools.pairwise"].contains n && vs[0]? == some (rawInt _)) = true then _ else _) Q E s
           rw [if_neg (by intro h; rw [hn, Bool.false_and] at h; cases h)]
           exact wpAny_pure hQ))

/-- the list at a, as it stands at each turn (a loop may append to it) -/
def Itl (K : PySem.W.Frag) (a : Addr) : It :=
  ⟨fun i H => ∃ xs x, SqL K H a xs ∧ xs[i]? = some x, fun i H x H' => H' = H ∧ ∀ xs, SqL K H a xs → xs[i]? = some x, fun i H => ∃ xs, SqL K H a xs ∧ xs.length ≤ i⟩
def Itt (K : PySem.W.Frag) (a : Addr) : It :=
  ⟨fun i H => ∃ xs x, SqT K H a xs ∧ xs[i]? = some x, fun i H x H' => H' = H ∧ ∀ xs, SqT K H a xs → xs[i]? = some x, fun i H => ∃ xs, SqT K H a xs ∧ xs.length ≤ i⟩
/-- lo, lo + 1, .. (n of them) -/
def Itr (lo : Int) (n : Nat) : It := ⟨fun i _ => i < n, fun i H x H' => H' = H ∧ x = .int (lo + i), fun i _ => n ≤ i⟩
theorem turn_range {P : Program} {w : World} {K : PySem.W.Frag} {tg : Expr} (it : Addr) (lo : Int) (n : Nat) : Turn P w K tg (Itr lo n) [it] it (fun i h => IsRangeIter h it (lo + (i : Nat) * 1) ((n : Int) - (i : Nat)) 1) where
  mem := by simp
  obj := fun i h st b hb => by
    have e : b = it := by simpa using hb
    subst e
    exact ⟨_, st, fun v z => by
      have z' : Data.fields _ = Data.cell v := z
      cases z'⟩
  keep := fun i h h' st k => k it (by simp) _ st
  item := by
    intro X hP hw hK hc i pins s σ H E I hf st hg
    subst hP hw hK
    obtain ⟨f0, f1, f2, f3, f4, f5⟩ := hf it (by simp)
    have W := Walks.range (prog := X.prog) (w := X.w) (I.ok.hd hc) it lo 1 n
    refine W.item i s _ _ hg st fun v h' tk hv st' kk => ?_
    obtain ⟨t, rfl⟩ := hv
    have I1 : Inv X pins σ H { s with heap := h', toks := tk } := I.turned (fun b o hb e => kk b o (by simpa using hb) e) f0 f1 f3 f4 f5
    refine ⟨_, rfl, go_of (s := { s with heap := h', toks := tk }) (n := "range_iterator") st' rfl rfl (by decide) ⟨.int (lo + i), H, I1, ⟨t, ?_⟩, ⟨rfl, rfl⟩, st', fun b hb => (hf b hb).1⟩⟩
    rw [Int.mul_one]
  done := by
    intro X hP hw hK hc i pins s σ H E I hf st hg
    subst hP hw hK
    obtain ⟨f0, f1, f2, f3, f4, f5⟩ := hf it (by simp)
    exact wpAny_pyNext_range_end (I.ok.hd hc) st (by have : n ≤ i := hg; omega) fun h' eb => ⟨rfl, I.turned (t' := s.toks) (fun b o hb e => eb b o hb e) f0 f1 f3 f4 f5⟩
  self := fun _ _ _ _ _ st h => wpAny_pyIter_rangeiter st h
end L2

namespace L2
open PySem PySem.Spec PyProof.Rows
section
variable {X : Cx} {tg : Expr}
def iList (K : PySem.W.Frag) (tl : TE) : TI := fun σ H R => tl σ H fun x H1 => ∃ a, x = .ref a ∧ (∃ xs, SqL K H1 a xs) ∧ R (Itl K a) H1
def iTup (K : PySem.W.Frag) (tl : TE) : TI := fun σ H R => tl σ H fun x H1 => ∃ a, x = .ref a ∧ (∃ xs, SqT K H1 a xs) ∧ R (Itt K a) H1
/-- a range object just made, walked -/
theorem range_it {pins : List (Addr × Obj)} {σ : St} {H : Hp} {s : Shared} {R : It → Hp → Prop} {E : Value → Shared → Prop} {lo hi : Int} {t u v : Tok} {tk : Nat} (I : Inv X pins σ H s) (h1 : -(2 ^ 62) ≤ lo) (h2 : lo < 2 ^ 62) (h3 : -(2 ^ 62) ≤ hi) (h4 : hi < 2 ^ 62)
    (q : R (Itr lo (hi - lo).toNat) H) : wpAny (model X.prog X.w) X.A (pyIter (.ref s.heap.objs.size)) (PIE X pins σ tg R) E { s with heap := s.heap.push { cls := .type "range", data := .fields #[.int lo t, .int hi u, .int 1 v] }, toks := tk } := by
  refine wpAny_pyIter_range (IsRange.new ..) (small_one h1 h2 h3 h4) ?_
  have I1 : Inv X pins σ H { s with heap := s.heap.push { cls := .type "range", data := .fields #[.int lo t, .int hi u, .int 1 v] }, toks := tk } := I.kept fun b o e => Heap.get?_push_of_some _ e
  refine ⟨(s.heap.push { cls := .type "range", data := .fields #[.int lo t, .int hi u, .int 1 v] }).objs.size, [(s.heap.push { cls := .type "range", data := .fields #[.int lo t, .int hi u, .int 1 v] }).objs.size], _, _, H, rfl,
    I1.kept (t' := tk) fun b o e => Heap.get?_push_of_some _ e, turn_range _ lo (hi - lo).toNat, ?_, fun b hb => ?_, q⟩
  · have e1 : lo + ((0 : Nat) : Int) * 1 = lo := by simp
    have e2 : (((hi - lo).toNat : Nat) : Int) - ((0 : Nat) : Int) = Builtin.Range.rangeSize lo hi 1 := by rw [rangeSize_one]; split <;> omega
    show IsRangeIter _ _ (lo + ((0 : Nat) : Int) * 1) ((((hi - lo).toNat : Nat) : Int) - ((0 : Nat) : Int)) 1
    rw [e1, e2]
    exact Heap.get?_push_size _ rfl
  · have e : b = (s.heap.push { cls := .type "range", data := .fields #[.int lo t, .int hi u, .int 1 v] }).objs.size := by simpa using hb
    subst e
    exact I1.fpOk (Nat.le_refl _) (I1.hok.fresh (Nat.le_refl _))
def iRng1 (ta : TA) : TI := fun σ H R => ta σ H fun vs H1 => ∃ j : Int, vs = [.int j] ∧ -(2 ^ 62) ≤ j ∧ j < 2 ^ 62 ∧ R (Itr 0 j.toNat) H1
def iRng2 (ta : TA) : TI := fun σ H R => ta σ H fun vs H1 => ∃ i j : Int, vs = [.int i, .int j] ∧ (-(2 ^ 62) ≤ i ∧ i < 2 ^ 62 ∧ -(2 ^ 62) ≤ j ∧ j < 2 ^ 62) ∧ R (Itr i (j - i).toNat) H1
theorem pi_range1 {a : Expr} {ta : TA} {p pos : Pos} (hg : Gl X "range") (hm : X.mg "range" = none) (ha : PA X [a] ta) (hs : starEach [a] X.env = [(false, eval a X.env)] := by rfl) : PI X tg (.Call (.Name "range" p) [a] [] pos) (iRng1 ta) := by
  intro pins s σ H R I h
  refine Call_ (ld_blt I hg hm boot_range (PyProof.Rows.callWith_type1 (thn (ha pos pins s σ H _ I h) fun us s1 ⟨vs, H1, I1, r1, q1⟩ => ?_) hs rfl))
  obtain ⟨j, e, q1, q2, q⟩ := q1
  subst e
  cases r1 with
  | cons r rr =>
    cases rr
    obtain ⟨t, rfl⟩ := r
    exact call_range_1 (range_it I1 (by omega) (by omega) q1 q2 (by simpa using q))
theorem pi_range2 {a b : Expr} {ta : TA} {p pos : Pos} (hg : Gl X "range") (hm : X.mg "range" = none) (ha : PA X [a, b] ta) (hs : starEach [a, b] X.env = [(false, eval a X.env), (false, eval b X.env)] := by rfl) (hs2 : starEach [b] X.env = [(false, eval b X.env)] := by rfl) :
    PI X tg (.Call (.Name "range" p) [a, b] [] pos) (iRng2 ta) := by
  intro pins s σ H R I h
  refine Call_ (ld_blt I hg hm boot_range (PyProof.Rows.callWith_type1 (thn (ha pos pins s σ H _ I h) fun us s1 ⟨vs, H1, I1, r1, q1⟩ => ?_) (by rw [hs, hs2]) (by rw [hs2]; rfl)))
  obtain ⟨i, j, e, ⟨q1, q2, q3, q4⟩, q⟩ := q1
  subst e
  cases r1 with
  | cons r rr =>
    cases rr with
    | cons r' rr =>
      cases rr
      obtain ⟨t, rfl⟩ := r
      obtain ⟨t', rfl⟩ := r'
      exact call_range_2 (range_it I1 q1 q2 q3 q4 q)

/-! ### for -/
/-- W: the invariant by the turn and a measure; N: what the body is to reach -/
def tFor (wi : TI) (g : TG) (tb : TS) : TS := fun D σ H => wi σ H fun J H1 => ∃ W : Nat → Nat → St → Hp → Prop, (∃ m, W 0 m σ H1) ∧ ∀ i m σ H, W i m σ H →
  (J.stop i H ∧ D.nx σ H) ∨ (J.go i H ∧ ∃ N : St → Hp → Prop, (∀ σ' H', N σ' H' → ∃ m', m' < m ∧ W (i + 1) m' σ' H') ∧ ∀ x H', J.yld i H x H' → g x σ H' fun σ2 H2 => tb { D with nx := N, ct := N, bk := D.nx } σ2 H2)
/-- the records at fp as they stand -/
def pinsAt (fp : List Addr) (h : Heap) : List (Addr × Obj) := fp.filterMap fun b => (h.get? b).map fun o => (b, o)
theorem mem_pinsAt {fp : List Addr} {h : Heap} {b : Addr} {o : Obj} (hb : b ∈ fp) (e : h.get? b = some o) : (b, o) ∈ pinsAt fp h := List.mem_filterMap.mpr ⟨b, hb, by rw [e]; rfl⟩
theorem of_pinsAt {fp : List Addr} {h : Heap} {p : Addr × Obj} (hp : p ∈ pinsAt fp h) : p.1 ∈ fp ∧ h.get? p.1 = some p.2 := by
  obtain ⟨b, hb, e⟩ := List.mem_filterMap.mp hp
  cases q : h.get? b with
  | none => rw [q] at e; cases e
  | some o =>
    rw [q] at e
    have e' : (b, o) = p := Option.some.inj e
    subst e'
    exact ⟨hb, q⟩
theorem Inv.pinned {pins : List (Addr × Obj)} {σ : St} {H : Hp} {s : Shared} {fp : List Addr} (I : Inv X pins σ H s) (hf : ∀ b ∈ fp, FpOk X pins H b) (ho : ∀ b ∈ fp, ∃ o, s.heap.get? b = some o ∧ ∀ v, o.data ≠ .cell v) : Inv X (pins ++ pinsAt fp s.heap) σ H s :=
  I.pins_of fun p hp => (List.mem_append.mp hp).elim (fun z => I.pin p (List.mem_append_right _ z)) fun z => by
    obtain ⟨hb, e⟩ := of_pinsAt z
    obtain ⟨f0, f1, f2, _⟩ := hf p.1 hb
    obtain ⟨o, e', d⟩ := ho p.1 hb
    rw [e] at e'; cases e'
    exact ⟨e, f0, f1, f2, d⟩
theorem Inv.unpinned {pins pl : List (Addr × Obj)} {σ : St} {H : Hp} {s : Shared} (I : Inv X (pins ++ pl) σ H s) : Inv X pins σ H s := I.pins_of fun p hp => I.pin p (List.mem_append_right _ (List.mem_append_left _ hp))
theorem ps_for {iter : Expr} {body : List Stmt} {wi : TI} {g : TG} {tb : TS} {pos : Pos} (hp : PassesOwn (model X.prog X.w) X.A X.env X.xe) (hc : X.calm = true) (hi : PI X tg iter wi) (hg : PG X tg g) (hb : PSs X body tb)
    (hs : ∀ x, foldedSetIterable iter X.env x = pure x := by intro _; rfl) : PS X (.For tg iter body [] pos) (tFor wi g tb) := by
  intro pins s σ H D I h
  refine wpAny_For (thn (hi pins s σ H _ I h) fun v s1 h1 => thn h1 fun itv s2 h2 => ?_) hs
  obtain ⟨it, fp, tn, J, H2, e, I2, T, st2, f2, W, ⟨m0, w0⟩, turn⟩ := h2
  subst e
  -- what stays true of the iterator's objects through the loop
  have stat : ∀ {H' : Hp}, (∀ b ∈ fp, H' b = none) → ∀ b ∈ fp, FpOk X pins H' b := fun hn b hb => ⟨hn b hb, (f2 b hb).2⟩
  refine codeAny_forLoop_any (fun n s' => ∃ i σ' H', Inv X pins σ' H' s' ∧ tn i s'.heap ∧ (∀ b ∈ fp, H' b = none) ∧ W i n σ' H') ?_ m0 ⟨0, σ, H2, I2, st2, fun b hb => (f2 b hb).1, w0⟩
  rintro n s3 ⟨i, σ3, H3, I3, st3, fr3, w3⟩
  rcases turn i n σ3 H3 w3 with ⟨stop, qn⟩ | ⟨go, N, hN, step⟩
  · refine wpAny_passesOwn hp (thn (T.done X rfl rfl rfl hc i pins s3 σ3 H3 X.xe I3 (stat fr3) st3 stop) fun r s4 ⟨hr, I4⟩ => ?_)
    subst hr
    exact wpAny_execs_nil ⟨σ3, H3, I4, qn⟩
  · refine wpAny_passesOwn hp (thn (T.item X rfl rfl rfl hc i pins s3 σ3 H3 X.xe I3 (stat fr3) st3 go) fun r s4 ⟨u, hr, h4⟩ => ?_)
    subst hr
    refine wpAny_passesOwn hp (thn h4 fun _ s5 ⟨x, H5, I5, r5, y5, st5, fr5⟩ => ?_)
    have I5' := I5.pinned (stat fr5) (T.obj _ _ st5)
    refine wpAny_passesOwn hp (thn (hg _ s5 σ3 H5 x u _ I5' r5 (step x H5 y5)) fun _ s6 ⟨σ6, H6, I6, q6⟩ => ?_)
    refine wpAny_passesOwn hp (thn (hb _ s6 σ6 H6 _ I6 q6) fun f s7 q7 => ?_)
    have again : ∀ {σ7 : St} {H7 : Hp}, Inv X (pins ++ pinsAt fp s5.heap) σ7 H7 s7 → N σ7 H7 → ∃ m, m < n ∧ ∃ i σ' H', Inv X pins σ' H' s7 ∧ tn i s7.heap ∧ (∀ b ∈ fp, H' b = none) ∧ W i m σ' H' := fun {σ7 H7} I7 n7 => by
      obtain ⟨m', hm, w7⟩ := hN σ7 H7 n7
      refine ⟨m', hm, i + 1, σ7, H7, I7.unpinned, T.keep _ _ _ st5 fun b hb o e => (I7.pin (b, o) (List.mem_append_right _ (List.mem_append_right _ (mem_pinsAt hb e)))).1, fun b hb => ?_, w7⟩
      obtain ⟨o, e, d⟩ := T.obj _ _ st5 b hb
      exact (I7.pin (b, o) (List.mem_append_right _ (List.mem_append_right _ (mem_pinsAt hb e)))).2.1
    cases f with
    | next => obtain ⟨σ7, H7, I7, n7⟩ := q7; exact again I7 n7
    | cont => obtain ⟨σ7, H7, I7, n7⟩ := q7; exact again I7 n7
    | brk => obtain ⟨σ7, H7, I7, q7⟩ := q7; exact ⟨σ7, H7, I7.unpinned, q7⟩
    | ret v => obtain ⟨x7, σ7, H7, I7, r7, q7⟩ := q7; exact ⟨x7, σ7, H7, I7.unpinned, r7, q7⟩
end

/-! ### the forms one uses -/
theorem for_range {lo : Int} {n : Nat} {g : TG} {tb : TS} {D : Ends} {σ : St} {H : Hp} (Pv : Nat → St → Hp → Prop) (h0 : Pv 0 σ H)
    (hs : ∀ i σ H, i < n → Pv i σ H → g (.int (lo + i)) σ H fun σ2 H2 => tb { D with nx := Pv (i + 1), ct := Pv (i + 1), bk := D.nx } σ2 H2) (hd : ∀ σ H, Pv n σ H → D.nx σ H) :
    ∃ W : Nat → Nat → St → Hp → Prop, (∃ m, W 0 m σ H) ∧ ∀ i m σ H, W i m σ H →
      ((Itr lo n).stop i H ∧ D.nx σ H) ∨ ((Itr lo n).go i H ∧ ∃ N : St → Hp → Prop, (∀ σ' H', N σ' H' → ∃ m', m' < m ∧ W (i + 1) m' σ' H') ∧ ∀ x H', (Itr lo n).yld i H x H' → g x σ H' fun σ2 H2 => tb { D with nx := N, ct := N, bk := D.nx } σ2 H2) := by
  refine ⟨fun i m σ H => m = n - i ∧ i ≤ n ∧ Pv i σ H, ⟨n, by simp, Nat.zero_le _, h0⟩, ?_⟩
  rintro i m σ H ⟨rfl, hi, p⟩
  by_cases hlt : i < n
  · refine .inr ⟨hlt, Pv (i + 1), fun σ' H' p' => ⟨n - (i + 1), by omega, rfl, hlt, p'⟩, fun x H' y => ?_⟩
    obtain ⟨e, y⟩ := y
    subst e y
    exact hs i σ _ hlt p
  · have e : i = n := by omega
    subst e
    exact .inl ⟨Nat.le_refl _, hd σ H p⟩
end L2

namespace L2
open PySem PySem.Spec PyProof.Rows

abbrev R2 := V → V → Hp → VK → Prop
/-- a two-place operation on values: f is binaryOp op, inplaceOp op or compareOp op -/
def OpR (X : Cx) (f : Value → Value → Sem Value) (r : R2) : Prop :=
  ∀ (pins : List (Addr × Obj)) (s : Shared) (σ : St) (H : Hp) (x y : V) (v u : Value) (Q : VK), Inv X pins σ H s → RelV x v → RelV y u → r x y H Q →
    wpAny (model X.prog X.w) X.A (f v u) (EP X pins σ Q) X.xe s
/-- a one-place operation -/
def UnR (X : Cx) (f : Value → Sem Value) (r : V → Hp → VK → Prop) : Prop :=
  ∀ (pins : List (Addr × Obj)) (s : Shared) (σ : St) (H : Hp) (x : V) (v : Value) (Q : VK), Inv X pins σ H s → RelV x v → r x H Q →
    wpAny (model X.prog X.w) X.A (f v) (EP X pins σ Q) X.xe s
/-- a call of a value that is known (a builtin, a type) with values -/
def CallR (X : Cx) (f : Value) (r : List V → Hp → VK → Prop) : Prop :=
  ∀ (pins : List (Addr × Obj)) (s : Shared) (σ : St) (H : Hp) (xs : List V) (us : List Value) (Q : VK), Inv X pins σ H s → Vals xs us → r xs H Q →
    wpAny (model X.prog X.w) X.A (call f us) (EP X pins σ Q) X.xe s
/-- a value's truth -/
def TruR (X : Cx) (r : V → Hp → (Bool → Hp → Prop) → Prop) : Prop :=
  ∀ (pins : List (Addr × Obj)) (s : Shared) (σ : St) (H : Hp) (x : V) (v : Value) (Q : Bool → Hp → Prop), Inv X pins σ H s → RelV x v → r x H Q →
    wpAny (model X.prog X.w) X.A (truthy v) (TP X pins σ Q) X.xe s

def tOp (r : R2) (ta tb : TE) : TE := fun σ H Q => ta σ H fun x H1 => tb σ H1 fun y H2 => r x y H2 Q
def tUn (r : V → Hp → VK → Prop) (ta : TE) : TE := fun σ H Q => ta σ H fun x H1 => r x H1 Q
/-- ints in, under C, and a value out -/
def rI (C : Int → Int → Prop) (g : Int → Int → V) : R2 := fun x y H Q => ∃ i j, x = .int i ∧ y = .int j ∧ C i j ∧ Q (g i j) H
def rI0 (g : Int → Int → V) : R2 := fun x y H Q => ∃ i j, x = .int i ∧ y = .int j ∧ Q (g i j) H
def rU (g : Int → V) : V → Hp → VK → Prop := fun x H Q => ∃ i, x = .int i ∧ Q (g i) H

section
variable {X : Cx} {a b c : Expr} {ta tb tc : TE} {pos : Pos}

theorem binT (ha : PE X a ta) (hb : PE X b tb) {pins : List (Addr × Obj)} {s : Shared} {σ : St} {H : Hp} {R : V → V → Hp → Prop} (I : Inv X pins σ H s)
    (h : ta σ H fun x H1 => tb σ H1 fun y H2 => R x y H2) {Q : Value → Shared → Prop} {f : Value → Value → Sem Value}
    (hf : ∀ v u s2 x y H2, Inv X pins σ H2 s2 → RelV x v → RelV y u → R x y H2 → wpAny (model X.prog X.w) X.A (f v u) Q X.xe s2) :
    wpAny (model X.prog X.w) X.A (eval a X.env) (fun v s₁ => wpAny (model X.prog X.w) X.A (eval b X.env) (fun u s₂ => wpAny (model X.prog X.w) X.A (f v u) Q X.xe s₂) X.xe s₁) X.xe s := by
  refine thn (ha pins s σ H _ I h) fun v s1 ⟨x, H1, I1, r1, q1⟩ => ?_
  refine thn (hb pins s1 σ H1 _ I1 q1) fun u s2 ⟨y, H2, I2, r2, q2⟩ => ?_
  exact hf v u s2 x y H2 I2 r1 r2 q2

theorem pe_op {op : Operator} {r : R2} (ho : OpR X (binaryOp op) r) (ha : PE X a ta) (hb : PE X b tb) : PE X (.BinOp a op b pos) (tOp r ta tb) := by
  intro pins s σ H Q I h
  exact wpAny_BinOp (binT ha hb I h fun v u s2 x y H2 I2 rx ry q => ho pins s2 σ H2 x y v u Q I2 rx ry q)
theorem pe_un {op : UnaryOp} {r : V → Hp → VK → Prop} (ho : UnR X (unaryOp op) r) (ha : PE X a ta) : PE X (.UnaryOp op a pos) (tUn r ta) := by
  intro pins s σ H Q I h
  exact UnaryOp_ (thn (ha pins s σ H _ I h) fun v s1 ⟨x, H1, I1, r1, q1⟩ => ho pins s1 σ H1 x v Q I1 r1 q1)
/-! ### ints -/
theorem opI {f : Value → Value → Sem Value} {C : Int → Int → Prop} {g : Int → Int → Int}
    (rule : ∀ (i j : Int) (t u : Tok) (s : Shared) (Q : Value → Shared → Prop) (E : Value → Shared → Prop), C i j → Q (.int (g i j) s.toks) { s with toks := s.toks + 1 } → wpAny (model X.prog X.w) X.A (f (.int i t) (.int j u)) Q E s) :
    OpR X f (rI C fun i j => .int (g i j)) := by
  intro pins s σ H x y v u Q I rx ry h
  obtain ⟨i, j, rfl, rfl, hc, q⟩ := h
  obtain ⟨t, rfl⟩ := rx
  obtain ⟨t', rfl⟩ := ry
  exact rule i j t t' s _ _ hc ⟨.int (g i j), H, I.tok _, ⟨_, rfl⟩, q⟩
theorem opI0 {f : Value → Value → Sem Value} {g : Int → Int → Int}
    (rule : ∀ (i j : Int) (t u : Tok) (s : Shared) (Q : Value → Shared → Prop) (E : Value → Shared → Prop), Q (.int (g i j) s.toks) { s with toks := s.toks + 1 } → wpAny (model X.prog X.w) X.A (f (.int i t) (.int j u)) Q E s) :
    OpR X f (rI0 fun i j => .int (g i j)) := by
  intro pins s σ H x y v u Q I rx ry h
  obtain ⟨i, j, rfl, rfl, q⟩ := h
  obtain ⟨t, rfl⟩ := rx
  obtain ⟨t', rfl⟩ := ry
  exact rule i j t t' s _ _ ⟨.int (g i j), H, I.tok _, ⟨_, rfl⟩, q⟩
theorem opB0 {f : Value → Value → Sem Value} {g : Int → Int → Bool}
    (rule : ∀ (i j : Int) (t u : Tok) (s : Shared) (Q : Value → Shared → Prop) (E : Value → Shared → Prop), Q (.bool (g i j)) s → wpAny (model X.prog X.w) X.A (f (.int i t) (.int j u)) Q E s) :
    OpR X f (rI0 fun i j => .bl (g i j)) := by
  intro pins s σ H x y v u Q I rx ry h
  obtain ⟨i, j, rfl, rfl, q⟩ := h
  obtain ⟨t, rfl⟩ := rx
  obtain ⟨t', rfl⟩ := ry
  exact rule i j t t' s _ _ ⟨.bl (g i j), H, I, rfl, q⟩

def CDiv (i j : Int) : Prop := 0 < j ∧ j < 1073741824
def CDivN (i j : Int) : Prop := j ≠ 0 ∧ j.natAbs < 1073741824
def CPow (i j : Int) : Prop := 0 ≤ j ∧ j ≤ 1000000 ∧ i.natAbs < 2 ^ 64
def CMul (i j : Int) : Prop := (-(2 ^ 64) < i ∧ i < 2 ^ 64) ∨ (-(2 ^ 64) < j ∧ j < 2 ^ 64)
theorem CMul.ok {i j : Int} (h : CMul i j) : IntMulOk i j := by
  rcases h with ⟨h1, h2⟩ | ⟨h1, h2⟩
  · exact .of_left (intBits_le_64 h1 h2)
  · exact .of_right (intBits_le_64 h1 h2)
theorem op_add : OpR X (binaryOp .Add) (rI0 fun i j => .int (i + j)) := opI0 fun _ _ _ _ _ _ _ q => add_int q
theorem op_sub : OpR X (binaryOp .Sub) (rI0 fun i j => .int (i - j)) := opI0 fun _ _ _ _ _ _ _ q => sub_int q
theorem op_mul : OpR X (binaryOp .Mult) (rI CMul fun i j => .int (i * j)) := opI fun _ _ _ _ _ _ _ hc q => mul_int q hc.ok
/-- // by a positive divisor -/
theorem op_fdiv : OpR X (binaryOp .FloorDiv) (rI CDiv fun i j => .int (i / j)) := opI fun i j _ _ _ _ _ hc q => by
  have h1 : (0 : Int) < j := hc.1
  have h2 : j < 1073741824 := hc.2
  exact floordiv_int (by omega) (by rw [Int.fdiv_eq_ediv_of_nonneg i (by omega)]; exact q) (.inl (PyProof.noPylong_small (by omega)))
/-- % by a positive divisor of any size -/
theorem op_mod : OpR X (binaryOp .Mod) (rI (fun _ j => 0 < j) fun i j => .int (i % j)) := opI fun i j _ _ _ _ _ hc q => by
  have h1 : (0 : Int) < j := hc
  exact mod_int' (by omega) (by rw [Int.fmod_eq_emod_of_nonneg i (by omega)]; exact q)
theorem op_pow : OpR X (binaryOp .Pow) (rI CPow fun i j => .int (i ^ j.toNat)) := opI fun _ _ _ _ _ _ _ hc q => pow_int_small hc.1 hc.2.1 hc.2.2 q
theorem unI {f : Value → Sem Value} {g : Int → Int}
    (rule : ∀ (i : Int) (t : Tok) (s : Shared) (Q : Value → Shared → Prop) (E : Value → Shared → Prop), Q (.int (g i) s.toks) { s with toks := s.toks + 1 } → wpAny (model X.prog X.w) X.A (f (.int i t)) Q E s) :
    UnR X f (rU fun i => .int (g i)) := by
  intro pins s σ H x v Q I rx h
  obtain ⟨i, rfl, q⟩ := h
  obtain ⟨t, rfl⟩ := rx
  exact rule i t s _ _ ⟨.int (g i), H, I.tok _, ⟨_, rfl⟩, q⟩
theorem un_neg : UnR X (unaryOp .USub) (rU fun i => .int (-i)) := unI fun _ _ _ _ _ q => neg_int q
/-! ### bools among ints: n += (a < b) -/
end

/-! ### comparisons -/
/-- the scalars that == tells apart as data does -/
def scal : V → V → Bool
  | .non, .non => true | .non, .int _ => true | .int _, .non => true | .non, .bl _ => true | .bl _, .non => true | .non, .str _ => true | .str _, .non => true
  | .int _, .int _ => true | .bl _, .bl _ => true | .str _, .str _ => true | .byt _, .byt _ => true
  | .int _, .str _ => true | .str _, .int _ => true | .bl _, .str _ => true | .str _, .bl _ => true
  | _, _ => false
def rEq : R2 := fun x y H Q => scal x y = true ∧ Q (.bl (decide (x = y))) H
def rNe : R2 := fun x y H Q => scal x y = true ∧ Q (.bl (!decide (x = y))) H

theorem dec_int {i j : Int} : decide (V.int i = V.int j) = (i == j) := by
  rw [Bool.eq_iff_iff]
  simp
theorem dec_bl {i j : Bool} : decide (V.bl i = V.bl j) = (i == j) := by
  rw [Bool.eq_iff_iff]
  simp
theorem dec_str {i j : Str} : decide (V.str i = V.str j) = (i == j) := by
  rw [Bool.eq_iff_iff]
  simp
theorem dec_byt {i j : Array UInt8} : decide (V.byt i = V.byt j) = (i.toList == j.toList) := by
  rw [Bool.eq_iff_iff]
  cases i
  cases j
  simp

section
variable {X : Cx} {a b c : Expr} {ta tb tc : TE} {pos : Pos}
theorem fin_bl {pins : List (Addr × Obj)} {σ : St} {H : Hp} {s : Shared} {Q : VK} {k k' : Bool} (I : Inv X pins σ H s) (q : Q (.bl k) H) (e : k = k') : EP X pins σ Q (.bool k') s := by
  subst e
  exact ⟨.bl k, H, I, rfl, q⟩
theorem op_eq : OpR X (compareOp .Eq) rEq := by
  intro pins s σ H x y v u Q I rx ry h
  obtain ⟨hs, q⟩ := h
  cases x with
  | non =>
    cases rx
    cases y with
    | non => cases ry; exact PySem.EqNone.eq_none_none (fin_bl I q (by simp))
    | bl j => cases ry; exact PySem.EqNone.eq_none_bool (fin_bl I q (by simp))
    | int j => obtain ⟨t', rfl⟩ := ry; exact PySem.EqNone.eq_none_int (fin_bl I q (by simp))
    | str j => obtain ⟨t', rfl⟩ := ry; exact PySem.EqNone.eq_none_str (fin_bl I q (by simp))
    | _ => exact absurd (show false = true from hs) Bool.false_ne_true
  | bl i =>
    cases rx
    cases y with
    | non => cases ry; exact PySem.EqNone.eq_bool_none (fin_bl I q (by simp))
    | bl j => cases ry; exact eq_bool (fin_bl I q dec_bl)
    | str j => obtain ⟨t', rfl⟩ := ry; exact PySem.EqMixed.eq_bool_str (fin_bl I q (by simp))
    | _ => exact absurd (show false = true from hs) Bool.false_ne_true
  | int i =>
    obtain ⟨t, rfl⟩ := rx
    cases y with
    | non => cases ry; exact PySem.EqNone.eq_int_none (fin_bl I q (by simp))
    | int j => obtain ⟨t', rfl⟩ := ry; exact eq_int (fin_bl I q dec_int)
    | str j => obtain ⟨t', rfl⟩ := ry; exact PySem.EqMixed.eq_int_str (fin_bl I q (by simp))
    | _ => exact absurd (show false = true from hs) Bool.false_ne_true
  | str i =>
    obtain ⟨t, rfl⟩ := rx
    cases y with
    | non => cases ry; exact PySem.EqNone.eq_str_none (fin_bl I q (by simp))
    | bl j => cases ry; exact PySem.EqMixed.eq_str_bool (fin_bl I q (by simp))
    | int j => obtain ⟨t', rfl⟩ := ry; exact PySem.EqMixed.eq_str_int (fin_bl I q (by simp))
    | str j => obtain ⟨t', rfl⟩ := ry; exact eq_str (fin_bl I q dec_str)
    | _ => exact absurd (show false = true from hs) Bool.false_ne_true
  | byt i =>
    obtain ⟨t, rfl⟩ := rx
    cases y with
    | byt j => obtain ⟨t', rfl⟩ := ry; exact PySem.W.eq_bytes (fin_bl I q dec_byt)
    | _ => exact absurd (show false = true from hs) Bool.false_ne_true
  | _ => cases y <;> exact absurd (show false = true from hs) Bool.false_ne_true
theorem op_ne : OpR X (compareOp .NotEq) rNe := by
  intro pins s σ H x y v u Q I rx ry h
  obtain ⟨hs, q⟩ := h
  cases x with
  | non =>
    cases rx
    cases y with
    | non => cases ry; exact PySem.EqNone.ne_none_none (fin_bl I q (by simp))
    | bl j => cases ry; exact PySem.EqNone.ne_none_bool (fin_bl I q (by simp))
    | int j => obtain ⟨t', rfl⟩ := ry; exact PySem.EqNone.ne_none_int (fin_bl I q (by simp))
    | str j => obtain ⟨t', rfl⟩ := ry; exact PySem.EqNone.ne_none_str (fin_bl I q (by simp))
    | _ => exact absurd (show false = true from hs) Bool.false_ne_true
  | bl i =>
    cases rx
    cases y with
    | non => cases ry; exact PySem.EqNone.ne_bool_none (fin_bl I q (by simp))
    | bl j => cases ry; exact ne_bool (fin_bl I q (congrArg not dec_bl))
    | str j => obtain ⟨t', rfl⟩ := ry; exact PySem.EqMixed.ne_bool_str (fin_bl I q (by simp))
    | _ => exact absurd (show false = true from hs) Bool.false_ne_true
  | int i =>
    obtain ⟨t, rfl⟩ := rx
    cases y with
    | non => cases ry; exact PySem.EqNone.ne_int_none (fin_bl I q (by simp))
    | int j => obtain ⟨t', rfl⟩ := ry; exact ne_int (fin_bl I q (congrArg not dec_int))
    | str j => obtain ⟨t', rfl⟩ := ry; exact PySem.EqMixed.ne_int_str (fin_bl I q (by simp))
    | _ => exact absurd (show false = true from hs) Bool.false_ne_true
  | str i =>
    obtain ⟨t, rfl⟩ := rx
    cases y with
    | non => cases ry; exact PySem.EqNone.ne_str_none (fin_bl I q (by simp))
    | bl j => cases ry; exact PySem.EqMixed.ne_str_bool (fin_bl I q (by simp))
    | int j => obtain ⟨t', rfl⟩ := ry; exact PySem.EqMixed.ne_str_int (fin_bl I q (by simp))
    | str j => obtain ⟨t', rfl⟩ := ry; exact ne_str (fin_bl I q (congrArg not dec_str))
    | _ => exact absurd (show false = true from hs) Bool.false_ne_true
  | byt i =>
    obtain ⟨t, rfl⟩ := rx
    cases y with
    | byt j => obtain ⟨t', rfl⟩ := ry; exact PySem.W.ne_bytes (fin_bl I q (congrArg not dec_byt))
    | _ => exact absurd (show false = true from hs) Bool.false_ne_true
  | _ => cases y <;> exact absurd (show false = true from hs) Bool.false_ne_true

theorem op_lt : OpR X (compareOp .Lt) (rI0 fun i j => .bl (decide (i < j))) := opB0 fun _ _ _ _ _ _ _ q => lt_int q
theorem op_le : OpR X (compareOp .LtE) (rI0 fun i j => .bl (decide (i ≤ j))) := opB0 fun _ _ _ _ _ _ _ q => le_int q
theorem op_gt : OpR X (compareOp .Gt) (rI0 fun i j => .bl (decide (j < i))) := opB0 fun _ _ _ _ _ _ _ q => gt_int q
theorem op_ge : OpR X (compareOp .GtE) (rI0 fun i j => .bl (decide (j ≤ i))) := opB0 fun _ _ _ _ _ _ _ q => ge_int q
/-- is None, is not None: the right side a value none -/
theorem op_isN : OpR X (compareOp .Is) (fun x y H Q => y = .non ∧ Q (.bl (decide (x = .non))) H) := by
  intro pins s σ H x y v u Q I rx ry h
  obtain ⟨rfl, q⟩ := h
  cases ry
  refine is_none_gen (fin_bl I q ?_)
  cases x <;> first
    | (cases rx; rfl)
    | (obtain ⟨t, rfl⟩ := rx; rfl)
theorem op_notN : OpR X (compareOp .IsNot) (fun x y H Q => y = .non ∧ Q (.bl (!decide (x = .non))) H) := by
  intro pins s σ H x y v u Q I rx ry h
  obtain ⟨rfl, q⟩ := h
  cases ry
  refine isnot_none_gen (fin_bl I q ?_)
  cases x <;> first
    | (cases rx; rfl)
    | (obtain ⟨t, rfl⟩ := rx; rfl)

/-- is, is not of two objects that are tracked lists or instances -/
def isObj : HO → Bool
  | .lst _ => true
  | .ins _ _ _ => true
  | _ => false
theorem nomark (b : Expr) {op : CmpOp} (h : op ≠ .In := by decide) (h2 : op ≠ .NotIn := by decide) : behindInMarks op b = false := by
  have e1 : (op == CmpOp.In) = false := by cases op <;> first | rfl | exact absurd rfl h
  have e2 : (op == CmpOp.NotIn) = false := by cases op <;> first | rfl | exact absurd rfl h2
  cases b <;> simp [behindInMarks, e1, e2]
/-- a comparison as a value; hm: nomark b, or (for in, not in) by with_unfolding_all rfl -/
theorem pe_cmpR {op : CmpOp} {r : R2} (ho : OpR X (compareOp op) r) (ha : PE X a ta) (hb : PE X b tb) (hm : behindInMarks op b = false) : PE X (.Compare a [op] [b] pos) (tOp r ta tb) := by
  intro pins s σ H Q I h
  exact wpAny_Compare1 (binT ha hb I h fun v u s2 x y H2 I2 rx ry q => ho pins s2 σ H2 x y v u Q I2 rx ry q) hm
/-- a reading of a value as a test -/
def tTest (t : TE) : TT := fun σ H Q => t σ H fun x H' => ∃ k, x = .bl k ∧ Q k H'
theorem pt_cmpR {op : CmpOp} {r : R2} (ho : OpR X (compareOp op) r) (ha : PE X a ta) (hb : PE X b tb) (hm : behindInMarks op b = false) : PT X (.Compare a [op] [b] pos) (tTest (tOp r ta tb)) := by
  intro pins s σ H Q I h
  refine wpAny_isTrue_Compare1 (thn (ha pins s σ H _ I h) fun v s1 ⟨x, H1, I1, r1, q1⟩ => thn (hb pins s1 σ H1 _ I1 q1) fun u s2 ⟨y, H2, I2, r2, q2⟩ =>
    thn (ho pins s2 σ H2 x y v u _ I2 r1 r2 q2) fun c s3 ⟨z, H3, I3, r3, k, e, q3⟩ => ?_) hm
  subst e
  cases r3
  exact wpAny_truthy_bool ⟨H3, I3, q3⟩
/-- a op1 b op2 c -/
def tChain (r r' : R2) (ta tb tc : TE) : TE := fun σ H Q => ta σ H fun x H1 => tb σ H1 fun y H2 => r x y H2 fun z H3 => ∃ k, z = .bl k ∧
  (if k = true then tc σ H3 fun w' H4 => r' y w' H4 Q else Q (.bl false) H3)
/-! ### truth -/
/-- a value's truth by the abstract heap -/
def TruV (K : PySem.W.Frag) (x : V) (H : Hp) (k : Bool) : Prop :=
  match x with
  | .non => k = false
  | .bl b => k = b
  | .int i => k = (i != 0)
  | .str y => y.length ≤ sizeLine ∧ k = ((y.length : Int) != 0)
  | .byt y => y.size ≤ sizeLine ∧ k = ((y.size : Int) != 0)
  | .ref p => (∃ xs, SqL K H p xs ∧ k = !xs.isEmpty) ∨ (∃ xs, SqT K H p xs ∧ k = !xs.isEmpty) ∨ ∃ kvs, H p = some (.dK kvs) ∧ k = !kvs.isEmpty
  | _ => False
theorem line63 : (sizeLine : Nat) < 2 ^ 63 := by rw [sizeLine_eq]; decide
/-! ### strs and bytes -/
def PlainIxT (b : Expr) : Prop := ∀ o i, subscripted b false o i = operate [o, i] (getItem o i)
/-! ### scalar builtins, by CallR -/
theorem vals1 {x : V} {us : List Value} (r : Vals [x] us) : ∃ u, us = [u] ∧ RelV x u := by
  cases r with
  | cons r1 r2 => cases r2; exact ⟨_, rfl, r1⟩
theorem vals2 {x y : V} {us : List Value} (r : Vals [x, y] us) : ∃ u w', us = [u, w'] ∧ RelV x u ∧ RelV y w' := by
  cases r with
  | cons r1 r2 =>
    cases r2 with
    | cons r3 r4 => cases r4; exact ⟨_, _, rfl, r1, r3⟩
theorem call_max2 (hc : X.calm = true) : CallR X (.builtin "max") (fun xs H Q => ∃ i j, xs = [.int i, .int j] ∧ Q (.int (if j > i then j else i)) H) := by
  intro pins s σ H xs us Q I r h
  obtain ⟨i, j, rfl, q⟩ := h
  obtain ⟨u, w', rfl, ⟨t, rfl⟩, ⟨t', rfl⟩⟩ := vals2 r
  refine max_two_ints (I.ok.hd hc) fun h' tk k => ⟨_, H, I.kept k, ?_, q⟩
  by_cases hj : j > i
  · rw [if_pos hj, if_pos hj]; exact ⟨_, rfl⟩
  · rw [if_neg hj, if_neg hj]; exact ⟨_, rfl⟩
theorem call_int1 : CallR X (.type "int") (fun xs H Q => (∃ i, xs = [.int i] ∧ Q (.int i) H) ∨ ∃ k, xs = [.bl k] ∧ Q (.int (if k then 1 else 0)) H) := by
  intro pins s σ H xs us Q I r h
  rcases h with ⟨i, rfl, q⟩ | ⟨k, rfl, q⟩
  · obtain ⟨u, rfl, t, rfl⟩ := vals1 r
    exact call_int_int ⟨.int i, H, I, ⟨_, rfl⟩, q⟩
  · obtain ⟨u, rfl, r1⟩ := vals1 r
    cases r1
    exact call_int_bool ⟨.int (if k then 1 else 0), H, I.tok _, ⟨_, rfl⟩, q⟩
/-- len of a str, a bytes, a list, a tuple -/
def LenV (K : PySem.W.Frag) (x : V) (H : Hp) (n : Nat) : Prop :=
  match x with
  | .str y => y.length ≤ sizeLine ∧ n = y.length
  | .byt y => y.size ≤ sizeLine ∧ n = y.size
  | .ref p => (∃ xs, SqL K H p xs ∧ n = xs.length) ∨ ∃ xs, SqT K H p xs ∧ n = xs.length
  | _ => False
end
end L2

namespace L2
open PySem PySem.Spec PyProof.Rows

/-! ### an instance, its attributes a map -/
structure ObjM (h : Heap) (x dx C : Addr) (mA : Str → Option Value) : Prop where
  obj : h.get? x = some (PySem.W.instObj C dx)
  ns : h.Ns1 dx mA
  ne : dx ≠ x

theorem lookIn_ns {h : Heap} {dx : Addr} {mA : Str → Option Value} (n : h.Ns1 dx mA) : ∃ od, h.get? dx = some od ∧ ∀ name, PySem.W.lookIn name od = some (mA name) := by
  obtain ⟨o, es, ep, ho, hd, hk, _, hm⟩ := n
  refine ⟨o, ho, fun name => ?_⟩
  have e := hm name
  unfold nsFind findBy at e
  rw [← Array.find?_toList] at e
  unfold PySem.W.lookIn
  rw [hd]
  dsimp only
  split
  · rename_i y q
    rw [q] at e
    exact congrArg some e
  · rename_i q
    rw [q] at e
    have a : es.toList.any (·.refKey) = false := by
      rw [List.any_eq_false]
      intro y hy
      obtain ⟨z, t, hkey⟩ := hk y (Array.mem_toList_iff.mp hy)
      simp [DictEntry.refKey, hkey]
    have a' : ¬ es.toList.any (·.refKey) = true := by rw [a]; exact Bool.false_ne_true
    rw [if_neg a']
    exact congrArg some e

theorem ObjM.look {h : Heap} {x dx C : Addr} {mA : Str → Option Value} (I : ObjM h x dx C mA) : ∃ od, PySem.W.InstAt h x (PySem.W.instObj C dx) C (some od) ∧ ∀ name, PySem.W.lookIn name od = some (mA name) :=
  let ⟨od, ho, hl⟩ := lookIn_ns I.ns
  ⟨od, ⟨I.obj, rfl, rfl, ho⟩, hl⟩

section
variable {prog : Program} {w : World} {A : Around} {E : Value → Shared → Prop} {s : Shared} {K : PySem.W.Frag} {x dx C f : Addr} {mA : Str → Option Value} {name : Str} {v : Value}

theorem get_map {expr : Bool} {Q : Value → Shared → Prop} (X : K.In s.heap) (I : ObjM s.heap x dx C mA) (hg : PySem.W.plainGet K C name = true) (hh : PySem.W.hasDictIn K C = true)
    (ha : PySem.W.findIn K (.ref C) name = some none) (hv : mA name = some v) (hv' : PySem.W.handedIn v = true) (h : Q v { s with toks := s.toks + 1 }) :
    wpAny (model prog w) A (getAttr (.ref x) name expr) Q E s := by
  obtain ⟨od, J, hl⟩ := I.look
  exact PySem.W.get_value X J (PySem.W.plainGet_of hg).1 (PySem.W.findObj_own hh ha rfl (by rw [hl, hv])) hv' h

theorem get_meth {pl : Sem Bool} {Q : Value × List Value → Shared → Prop} (X : K.In s.heap) (I : ObjM s.heap x dx C mA) (hg : PySem.W.plainGet K C name = true)
    (hf : PySem.W.findIn K (.ref C) name = some (some (.ref f))) (ht : PySem.W.isFn K (.ref f) = true) (hv : mA name = none) (h : Q (.ref f, [.ref x]) s) :
    wpAny (model prog w) A (getMethod (.ref x) name pl) Q E s := by
  obtain ⟨od, J, hl⟩ := I.look
  exact PySem.W.method_fn X J (PySem.W.plainGet_of hg).1 (PySem.W.plainGet_of hg).2 hf (beq_iff_eq.mp ht) (by show (PySem.W.lookIn name od).map (·.isSome) = some false; rw [hl, hv]; rfl) h

theorem set_map {ns : List Str} {Q : Unit → Shared → Prop} (X : K.In s.heap) (I : ObjM s.heap x dx C mA)
    (hs : PySem.W.findIn K (.ref C) "__setattr__" = some (some (.builtin "object.__setattr__"))) (hp : PySem.W.plainOver K C = true) (ht : PySem.W.takerIn K C name = some none) (hh : PySem.W.hasDictIn K C = true)
    (hw : PySem.Within mA ns) (hsz : ns.length ≤ sizeLine)
    (h : ∀ h', ObjM h' x dx C (fun y => if y = name then some v else mA y) → Heap.SameBut dx s.heap h' → Q () { s with heap := h', toks := s.toks + 2 }) :
    wpAny (model prog w) A (setAttr (.ref x) name v) Q E s := by
  obtain ⟨od, J, hl⟩ := I.look
  refine PySem.W.set_plain X J hs (PySem.W.osa_open (s := { s with toks := s.toks + 1 }) (r := none) X J hp ht fun b => ?_)
  obtain ⟨cd, hc, hd'⟩ := PySem.W.any_some hh
  have hx : s.heap.get? x = some ⟨.ref C, some dx, .plain, #[]⟩ := I.obj
  refine wpAny_bind (wpAny_pure (wpAny_bind (wpAny_bind (wpAny_loadPart hx (wpAny_bind (PySem.W.Looks.here (s := { s with toks := s.toks + 1 }) (PySem.W.looks_clsIn X hc) ?_))))))
  rw [hd']
  refine wpAny_pure (a := some dx) (wpAny_bind (wpAny_pure (wpAny_bind ?_)))
  refine wpAny_nsSet1 (s := { s with toks := s.toks + 1 }) I.ns fun h' hn2 hs2 => ?_
  obtain ⟨oD, esD, epD, hoD, hdD, hcD⟩ := hn2.count (PySem.Within.cons name v hw)
  refine wpAny_bind (wpAny_lookBehind hoD (by rw [hdD]; exact pastItsLine_dict (Nat.le_trans hcD (by rw [List.length_cons]; omega))) ?_)
  exact wpAny_pure (h _ ⟨(hs2.2 _ (Ne.symm I.ne)).trans I.obj, hn2, I.ne⟩ hs2)

/-- C(..): the dict at the heap's end, the instance behind it; then its __init__ -/
theorem make_map {R : Result → Shared → Prop} {vs : List Value} {kw : List (Str × Value)} (X : K.In s.heap) (hm : PySem.W.makesIn K C = true)
    (hi : PySem.W.findIn K (.ref C) "__init__" = some (some (.ref f))) (hf : PySem.W.typeIn K (.ref f) = some (.type "function"))
    (h : codeAny (model prog w) (A.under (.builtin "type.__call__" ⟨.ref C :: vs, kw⟩)) (.call (.ref f) ⟨.ref (s.heap.objs.size + 1) :: vs, kw⟩) (PySem.W.InitBack (s.heap.objs.size + 1) R)
      { s with heap := (s.heap.push PySem.W.emptyDict).push (PySem.W.instObj C s.heap.objs.size) }) :
    codeAny (model prog w) A (.call (.ref C) ⟨vs, kw⟩) R s := by
  obtain ⟨hh, g, d, t, os⟩ := s
  exact PySem.W.make_core (PySem.W.makes_of X hm) (PySem.W.looks_findIn X hi) (fun self => PySem.W.bind_fn X self hf) (.inl rfl) h
end

/-! ### the attributes as a list of pairs -/
def putF (f : Str) (v : V) : List (Str × V) → List (Str × V)
  | [] => [(f, v)]
  | (g, x) :: r => if g = f then (g, v) :: r else (g, x) :: putF f v r
theorem lookup_putF (f g : Str) (v : V) : ∀ fs : List (Str × V), (putF f v fs).lookup g = if g = f then some v else fs.lookup g
  | [] => by
    show List.lookup g [(f, v)] = _
    by_cases h : g = f
    · have hb : (g == f) = true := beq_iff_eq.mpr h
      simp only [List.lookup, hb, if_pos h]
    · have hb : (g == f) = false := beq_eq_false_iff_ne.mpr h
      simp only [List.lookup, hb, if_neg h]
  | (k, x) :: r => by
    have ih := lookup_putF f g v r
    rw [show putF f v ((k, x) :: r) = (if k = f then (k, v) :: r else (k, x) :: putF f v r) from rfl]
    by_cases hk : k = f
    · rw [if_pos hk]
      by_cases h : g = k
      · have hb : (g == k) = true := beq_iff_eq.mpr h
        simp only [List.lookup, hb, if_pos (h.trans hk)]
      · have hb : (g == k) = false := beq_eq_false_iff_ne.mpr h
        simp only [List.lookup, hb, if_neg (fun e : g = f => h (e.trans hk.symm))]
    · rw [if_neg hk]
      by_cases h : g = k
      · have hb : (g == k) = true := beq_iff_eq.mpr h
        simp only [List.lookup, hb, if_neg (fun e : g = f => hk (h.symm.trans e))]
      · have hb : (g == k) = false := beq_eq_false_iff_ne.mpr h
        simp only [List.lookup, hb]
        exact ih
theorem keys_putF (f : Str) (v : V) : ∀ fs : List (Str × V), f ∈ (putF f v fs).map (·.1) ∧ ∀ g, g ∈ fs.map (·.1) → g ∈ (putF f v fs).map (·.1)
  | [] => ⟨by simp [putF], fun g h => by simp at h⟩
  | (k, x) :: r => by
    obtain ⟨i1, i2⟩ := keys_putF f v r
    rw [show putF f v ((k, x) :: r) = (if k = f then (k, v) :: r else (k, x) :: putF f v r) from rfl]
    by_cases hk : k = f
    · rw [if_pos hk]
      subst hk
      exact ⟨by simp, fun g h => by simpa using h⟩
    · rw [if_neg hk]
      refine ⟨?_, fun g h => ?_⟩
      · rw [List.map_cons]
        exact List.mem_cons_of_mem _ i1
      · rw [List.map_cons] at h ⊢
        rcases List.mem_cons.mp h with e | e
        · exact List.mem_cons.mpr (.inl e)
        · exact List.mem_cons_of_mem _ (i2 g e)
theorem length_putF (f : Str) (v : V) : ∀ fs : List (Str × V), (putF f v fs).length ≤ fs.length + 1
  | [] => by simp [putF]
  | (k, x) :: r => by
    have ih := length_putF f v r
    rw [show putF f v ((k, x) :: r) = (if k = f then (k, v) :: r else (k, x) :: putF f v r) from rfl]
    by_cases hk : k = f
    · rw [if_pos hk, List.length_cons, List.length_cons]; omega
    · rw [if_neg hk, List.length_cons, List.length_cons]; omega

theorem RelO.some_of {v : V} {o : Option Value} (r : RelO (some v) o) : ∃ u, o = some u ∧ RelV v u := by
  cases o with
  | none => exact (show False from r).elim
  | some u => exact ⟨u, rfl, r⟩
theorem RelO.none_of {o : Option Value} (r : RelO none o) : o = none := by
  cases o with
  | none => rfl
  | some u => exact (show False from r).elim
theorem handed_of {v : V} {u : Value} (r : RelV v u) : PySem.W.handedIn u = true := by
  cases v with
  | non => cases (show u = Value.none from r); rfl
  | bl b => cases (show u = Value.bool b from r); rfl
  | int i => obtain ⟨t, e⟩ := (show ∃ t, u = Value.int i t from r); cases e; rfl
  | str x => obtain ⟨t, e⟩ := (show ∃ t, u = Value.str x t from r); cases e; rfl
  | byt b => obtain ⟨t, e⟩ := (show ∃ t, u = Value.bytes b t from r); cases e; rfl
  | flt b => obtain ⟨t, e⟩ := (show ∃ t, u = Value.float b t from r); cases e; rfl
  | ref a => cases (show u = Value.ref a from r); rfl
  | ty n => cases (show u = Value.type n from r); rfl

section
variable {P : Program} {w : World} {H H' : Hp} {h h' : Heap} {a C dx : Addr} {fs fs' : List (Str × V)}
theorem ins_get (hok : HOk P w H h) (e : H a = some (.ins C dx fs)) : ∃ mA, ObjM h a dx C mA ∧ (∀ f, RelO (fs.lookup f) (mA f)) ∧ PySem.Within mA (fs.map (·.1)) ∧ fs.length ≤ 1000 ∧ H dx = some (.own a) := by
  obtain ⟨d, z, ne, ob, mA, n, r, q⟩ := (show ObjOk P w H h a (.ins C dx fs) from hok a _ e)
  exact ⟨mA, ⟨ob, n, ne⟩, r, q, z, d⟩
end

/-! ### what of the text a class must have -/
structure Cls (K : PySem.W.Frag) (C : Addr) : Prop where
  pg : PySem.W.plainGet K C Str.empty = true
  hd : PySem.W.hasDictIn K C = true
  po : PySem.W.plainOver K C = true
  sa : PySem.W.findIn K (.ref C) "__setattr__" = some (some (.builtin "object.__setattr__"))
theorem Cls.get {K : PySem.W.Frag} {C : Addr} (c : Cls K C) (f : Str) : PySem.W.plainGet K C f = true := c.pg
/-- no class of it has the name -/
def NoAttr (K : PySem.W.Frag) (C : Addr) (f : Str) : Prop := PySem.W.findIn K (.ref C) f = some none
theorem NoAttr.taker {K : PySem.W.Frag} {C : Addr} {f : Str} (n : NoAttr K C f) : PySem.W.takerIn K C f = some none := by
  unfold PySem.W.takerIn
  rw [show PySem.W.findIn K (.ref C) f = some none from n]
  rfl
/-- a constant of the class -/
structure Con (K : PySem.W.Frag) (C : Addr) (f : Str) (v : V) (u : Value) : Prop where
  at_ : PySem.W.findIn K (.ref C) f = some (some u)
  rel : RelV v u
  get : PySem.W.specialIn K u "__get__" = some none
  cp : PySem.W.copiedNames.contains f = false
/-- a method: a plain def of the class or of one above it -/
structure Meth (K : PySem.W.Frag) (C : Addr) (m : Str) (f : Addr) : Prop where
  at_ : PySem.W.findIn K (.ref C) m = some (some (.ref f))
  fn : PySem.W.isFn K (.ref f) = true
  kp : PySem.W.keepIn K (.ref f) = true

section
variable {X : Cx} {pins : List (Addr × Obj)} {σ : St} {H : Hp} {s : Shared} {a C dx : Addr} {fs : List (Str × V)} {f : Str} {v : V} {A : Around} {E : Value → Shared → Prop}

theorem getattr_ok {b : Bool} {Q : Value → Shared → Prop} (I : Inv X pins σ H s) (e : H a = some (.ins C dx fs)) (c : Cls X.K C) (n : NoAttr X.K C f) (l : fs.lookup f = some v)
    (h : ∀ u s', Inv X pins σ H s' → RelV v u → Q u s') : wpAny (model X.prog X.w) A (getAttr (.ref a) f b) Q E s := by
  obtain ⟨mA, O, r, _, _, _⟩ := ins_get I.hok e
  obtain ⟨u, hu, ru⟩ := RelO.some_of (v := v) (o := mA f) (by rw [← l]; exact r f)
  exact get_map I.kIn O (c.get f) c.hd n hu (handed_of ru) (h u _ (I.tok _) ru)

theorem getmeth_ok {m : Str} {g : Addr} {pl : Sem Bool} {Q : Value × List Value → Shared → Prop} (I : Inv X pins σ H s) (e : H a = some (.ins C dx fs)) (c : Cls X.K C) (k : Meth X.K C m g) (l : fs.lookup m = none)
    (h : Q (.ref g, [.ref a]) s) : wpAny (model X.prog X.w) A (getMethod (.ref a) m pl) Q E s := by
  obtain ⟨mA, O, r, _, _, _⟩ := ins_get I.hok e
  have hn : mA m = none := RelO.none_of (by rw [← l]; exact r m)
  exact get_meth I.kIn O (c.get m) k.at_ k.fn hn h

theorem setattr_ok {y : V} {u : Value} {Q : Unit → Shared → Prop} (I : Inv X pins σ H s) (e : H a = some (.ins C dx fs)) (c : Cls X.K C) (n : NoAttr X.K C f) (hl : fs.length < 1000) (ry : RelV y u)
    (h : ∀ s', Inv X pins σ (upd H a (.ins C dx (putF f y fs))) s' → Q () s') : wpAny (model X.prog X.w) A (setAttr (.ref a) f u) Q E s := by
  obtain ⟨mA, O, r, wi, _, ho⟩ := ins_get I.hok e
  have hz : (fs.map (·.1)).length ≤ sizeLine := by rw [List.length_map, sizeLine_eq]; omega
  refine set_map I.kIn O c.sa c.po n.taker c.hd wi hz fun h' O' sb => h _ ?_
  have hd : ∃ o, h'.get? dx = some o := let ⟨o, _, _, e', _⟩ := O'.ns; ⟨o, e'⟩
  refine I.write (x := a) (e := dx) (by rw [e]; exact True.intro) (.inr ho) (fun b q hb z => (sb.2 b hb).trans z) hd ?_
  refine ⟨by rw [upd_ne O.ne]; exact ho, ?_, O.ne, O'.obj, _, O'.ns, fun g => ?_, fun g hg => ?_⟩
  · have := length_putF f y fs; omega
  · show RelO ((putF f y fs).lookup g) (if g = f then some u else mA g)
    rw [lookup_putF]
    by_cases q : g = f
    · rw [if_pos q, if_pos q]; exact ry
    · rw [if_neg q, if_neg q]; exact r g
  · by_cases q : g = f
    · rw [q]; exact (keys_putF f y fs).1
    · refine (keys_putF f y fs).2 g (wi g fun z => hg ?_)
      show (if g = f then some u else mA g) = none
      rw [if_neg q]; exact z

/-- a new instance, tracked, without attributes -/
theorem Inv.made (I : Inv X pins σ H s) : Inv X pins σ (upd (upd H s.heap.objs.size (.own (s.heap.objs.size + 1))) (s.heap.objs.size + 1) (.ins C s.heap.objs.size []))
    { s with heap := (s.heap.push PySem.W.emptyDict).push (PySem.W.instObj C s.heap.objs.size) } := by
  have e1 : (s.heap.push PySem.W.emptyDict).get? s.heap.objs.size = some PySem.W.emptyDict := Heap.get?_push_size s.heap rfl
  have e2 : ((s.heap.push PySem.W.emptyDict).push (PySem.W.instObj C s.heap.objs.size)).get? (s.heap.objs.size + 1) = some (PySem.W.instObj C s.heap.objs.size) := by
    have := Heap.get?_push_size (s.heap.push PySem.W.emptyDict) (o := PySem.W.instObj C s.heap.objs.size) rfl
    rwa [Heap.size_push] at this
  have e3 : (s.heap.push PySem.W.emptyDict).Ns s.heap.objs.size (fun _ => none) := ⟨PySem.W.emptyDict, #[], _, e1, rfl, (fun e he => absurd he (by simp)), fun _ => rfl⟩
  have I1 := I.laid (a := s.heap.objs.size) (o := .own (s.heap.objs.size + 1)) (h' := s.heap.push PySem.W.emptyDict) (t' := s.toks) (fun b u q => Heap.get?_push_of_some _ q) (Nat.le_refl _) ⟨_, e1⟩
  refine I1.laid (a := s.heap.objs.size + 1) (o := .ins C s.heap.objs.size []) (t' := s.toks) (fun b u q => Heap.get?_push_of_some _ q) (Nat.le_of_eq (Heap.size_push _ _)) ?_
  have ne : s.heap.objs.size ≠ s.heap.objs.size + 1 := Nat.ne_of_lt (Nat.lt_succ_self _)
  refine ⟨by rw [upd_ne ne, upd_same], Nat.zero_le _, ne, e2, fun _ => none, (Heap.Ns1.of_empty e3).at fun o q => Heap.get?_push_of_some _ q, fun _ => True.intro, fun y hy => absurd rfl hy⟩

/-- e.f where nothing but the object is asked: through attributeBase (super) and the last hold -/
theorem attr_of {prog : Program} {w : World} {env : Env} {e : Expr} {f : Str} {pos : Pos} {s : Shared} {Q : Value → Shared → Prop} (hb : attributeBase e f env (eval e env) = eval e env)
    (h : wpAny (model prog w) A (eval e env) (fun o s₁ => wpAny (model prog w) A (getAttr o f true) Q E s₁) E s) : wpAny (model prog w) A (eval (.Attribute e f pos) env) Q E s :=
  Attribute_any_ h (by rw [arm_eval_Attribute, hb])
end

/-! ### readings and rules -/
/-- e.f, an attribute of the instance -/
def tFld (K : PySem.W.Frag) (ta : TE) (f : Str) : TE := fun σ H Q => ta σ H fun x H1 => ∃ a C dx fs v, x = .ref a ∧ H1 a = some (.ins C dx fs) ∧ Cls K C ∧ NoAttr K C f ∧ fs.lookup f = some v ∧ Q v H1
/-- e.f, a constant of the class -/
def tCon (K : PySem.W.Frag) (ta : TE) (f : Str) : TE := fun σ H Q => ta σ H fun x H1 => ∃ a C dx fs v u, x = .ref a ∧ H1 a = some (.ins C dx fs) ∧ Cls K C ∧ Con K C f v u ∧ fs.lookup f = none ∧ Q v H1
/-- e.f = value -/
def sFld (K : PySem.W.Frag) (ta tv : TE) (f : Str) : TS := fun D σ H => tv σ H fun y H1 => ta σ H1 fun x H2 => ∃ a C dx fs, x = .ref a ∧ H2 a = some (.ins C dx fs) ∧ Cls K C ∧ NoAttr K C f ∧ fs.length < 1000 ∧
  D.nx σ (upd H2 a (.ins C dx (putF f y fs)))
/-- an augmented operator on two values -/
def InOp (X : Cx) (op : Operator) (rd : V → V → Hp → VK → Prop) : Prop :=
  ∀ (pins : List (Addr × Obj)) (s : Shared) (σ : St) (H : Hp) (x y : V) (u v : Value) (Q : VK), Inv X pins σ H s → RelV x u → RelV y v → rd x y H Q → wpAny (model X.prog X.w) X.A (inplaceOp op u v) (EP X pins σ Q) X.xe s
/-- e.f op= value -/
def sFldAug (K : PySem.W.Frag) (ta tv : TE) (rd : V → V → Hp → VK → Prop) (f : Str) : TS := fun D σ H => ta σ H fun x H1 => ∃ a C dx fs v, x = .ref a ∧ H1 a = some (.ins C dx fs) ∧ Cls K C ∧ NoAttr K C f ∧ fs.lookup f = some v ∧
  tv σ H1 fun y H2 => rd v y H2 fun z H3 => ∃ dx' fs', H3 a = some (.ins C dx' fs') ∧ fs'.length < 1000 ∧ D.nx σ (upd H3 a (.ins C dx' (putF f z fs')))

section
variable {X : Cx} {o e value : Expr} {f : Str} {pos pos' tpos : Pos} {ta tv : TE}
theorem pe_fld (he : PE X e ta) (hb : attributeBase e f X.env (eval e X.env) = eval e X.env) : PE X (.Attribute e f pos) (tFld X.K ta f) := by
  intro pins s σ H Q I h
  refine attr_of hb (thn (he pins s σ H _ I h) fun u s1 ⟨x, H1, I1, rx, a, C, dx, fs, v, ex, ea, c, n, l, q⟩ => ?_)
  subst ex
  obtain rfl : u = Value.ref a := rx
  exact getattr_ok I1 ea c n l fun u' s2 I2 ru => ⟨v, H1, I2, ru, q⟩
theorem ps_fld (ha : PE X o ta) (hv : PE X value tv) (hs : swapsWith value (some (.Attribute o f pos')) pos.line X.env = pure false) : PS X (.Assign [.Attribute o f pos'] value pos) (sFld X.K ta tv f) := by
  intro pins s σ H D I h
  refine plainObj_wpAny_Assign_Attribute (thn (hv pins s σ H _ I h) fun u s1 ⟨y, H1, I1, ry, q⟩ => thn (ha pins s1 σ H1 _ I1 q) fun ov s2 ⟨x, H2, I2, rx, a, C, dx, fs, ex, ea, c, n, l, q2⟩ => ?_) hs
  subst ex
  obtain rfl : ov = Value.ref a := rx
  exact setattr_ok I2 ea c n l ry fun s3 I3 => ⟨σ, _, I3, q2⟩
def rAdd : V → V → Hp → VK → Prop := fun x y H Q => ∃ i j, x = .int i ∧ y = .int j ∧ Q (.int (i + j)) H
def rSub : V → V → Hp → VK → Prop := fun x y H Q => ∃ i j, x = .int i ∧ y = .int j ∧ Q (.int (i - j)) H
end

/-! ### isinstance -/
section
variable {X : Cx} {pins : List (Addr × Obj)} {σ : St} {H : Hp} {s : Shared} {A : Around} {E : Value → Shared → Prop} {Q : Value → Shared → Prop} {c : Value} {b : Bool}
/-- the type of a value, as the fragment's deciders take it; for an instance its class -/
inductive TyOf (K : PySem.W.Frag) (H : Hp) : V → Value → Prop where
  | non : TyOf K H .non (.type "NoneType")
  | bl (x : Bool) : TyOf K H (.bl x) (.type "bool")
  | int (i : Int) : TyOf K H (.int i) (.type "int")
  | str (x : Str) : TyOf K H (.str x) (.type "str")
  | flt (x : UInt64) : TyOf K H (.flt x) (.type "float")
  | lst {a : Addr} {xs : List V} (e : H a = some (.lst xs)) : TyOf K H (.ref a) (.type "list")
  | frz {a : Addr} {o : Obj} {xs : List V} (e : H a = some (.frz o (.lst xs))) : TyOf K H (.ref a) (.type "list")
  | tup {a : Addr} {xs : List V} (e : H a = some (.tup xs)) : TyOf K H (.ref a) (.type "tuple")
  | dK {a : Addr} {kvs : List (Key × V)} (e : H a = some (.dK kvs)) : TyOf K H (.ref a) (.type "dict")
  | dT {a : Addr} {kvs : List (List Key × V)} (e : H a = some (.dT kvs)) : TyOf K H (.ref a) (.type "dict")
  | ins {a C dx : Addr} {fs : List (Str × V)} (e : H a = some (.ins C dx fs)) (cl : Cls K C) (ha : PySem.W.findIn K (.ref C) "__class__" = some (some (.builtin "object.__class__")))
      (hn : PySem.W.specialIn K (.builtin "object.__class__") "__get__" = some (some (.builtin "getset_descriptor.__get__"))) (htk : PySem.W.takesIn K (.builtin "object.__class__") = some true)
      (hm : PySem.W.mroIn K C (.type "object") = some true) : TyOf K H (.ref a) (.ref C)
/-- isinstance(x, c) for one class c, a built-in or an own one: kitOne's answer -/
theorem isinst_ok {x : V} {u t : Value} (I : Inv X pins σ H s) (rx : RelV x u) (ty : TyOf X.K H x t) (e : PySem.W.kitOne X.K t c = some b) (h : ∀ tk, Q (.bool b) { s with toks := tk }) :
    wpAny (model X.prog X.w) A (call (.builtin "isinstance") [u, c]) Q E s := by
  cases ty with
  | non => cases (show u = Value.none from rx); exact PySem.W.kia_one PySem.W.kitx_none I.kIn True.intro e (fun z => nomatch z) h
  | bl y => cases (show u = Value.bool y from rx); exact PySem.W.kia_one PySem.W.kitx_bool I.kIn True.intro e (fun z => nomatch z) h
  | int i => obtain ⟨t, q⟩ := (show ∃ t, u = Value.int i t from rx); cases q; exact PySem.W.kia_one PySem.W.kitx_int I.kIn True.intro e (fun z => nomatch z) h
  | str y => obtain ⟨t, q⟩ := (show ∃ t, u = Value.str y t from rx); cases q; exact PySem.W.kia_one PySem.W.kitx_str I.kIn True.intro e (fun z => nomatch z) h
  | flt y => obtain ⟨t, q⟩ := (show ∃ t, u = Value.float y t from rx); cases q; exact PySem.W.kia_one PySem.W.kitx_float I.kIn True.intro e (fun z => nomatch z) h
  | @lst a xs ea =>
    cases (show u = Value.ref a from rx)
    obtain ⟨_, _, n, _, h1⟩ := (show ObjOk X.prog X.w H s.heap a (.lst xs) from I.hok a _ ea)
    exact PySem.W.kia_one PySem.W.kitx_list I.kIn ⟨_, h1, rfl⟩ e (fun z => nomatch z) h
  | @frz a ob xs ea =>
    cases (show u = Value.ref a from rx)
    obtain ⟨_, _, _, n, _, h1⟩ := (show ObjOk X.prog X.w H s.heap a (.frz ob (.lst xs)) from I.hok a _ ea)
    exact PySem.W.kia_one PySem.W.kitx_list I.kIn ⟨_, h1, rfl⟩ e (fun z => nomatch z) h
  | @tup a xs ea =>
    cases (show u = Value.ref a from rx)
    obtain ⟨_, _, _, p⟩ := (show ObjOk X.prog X.w H s.heap a (.tup xs) from I.hok a _ ea)
    obtain ⟨o, h1, h2, _⟩ := p
    exact PySem.W.kia_one PySem.W.kitx_tuple I.kIn ⟨o, h1, h2⟩ e (fun z => nomatch z) h
  | @dK a kvs ea =>
    cases (show u = Value.ref a from rx)
    obtain ⟨_, _, vs, _, p⟩ := (show ObjOk X.prog X.w H s.heap a (.dK kvs) from I.hok a _ ea)
    obtain ⟨o, es, ep, h1, h2, _⟩ := p
    exact PySem.W.kia_one PySem.W.kitx_dict I.kIn ⟨o, h1, h2.1⟩ e (fun z => nomatch z) h
  | @dT a kvs ea =>
    cases (show u = Value.ref a from rx)
    obtain ⟨_, _, xs, _, o, es, ep, h1, h2, _⟩ := (show ObjOk X.prog X.w H s.heap a (.dT kvs) from I.hok a _ ea)
    exact PySem.W.kia_one PySem.W.kitx_dict I.kIn ⟨o, h1, h2.1⟩ e (fun z => nomatch z) h
  | @ins a C dx fs ea cl ha hn htk hm =>
    cases (show u = Value.ref a from rx)
    obtain ⟨mA, O, _⟩ := ins_get I.hok ea
    obtain ⟨od, J, _⟩ := O.look
    exact PySem.W.kia_one (PySem.W.kitx_own (cl.get _) cl.hd ha hn htk hm) I.kIn J e (fun z => nomatch z) h
end
end L2

namespace L2
open PySem PySem.Spec PyProof.Rows

/-! ### room -/
structure Room (k : Nat) (A : Around) : Prop where
  hd : A.handled = none
  dp : A.depth + 3 * k + 5 < recursionLimit
  un : A.units + 16 * k + 200 < cLine
theorem Room.mono {j k : Nat} {A : Around} (r : Room k A) (h : j ≤ k) : Room j A := ⟨r.hd, by have := r.dp; omega, by have := r.un; omega⟩
theorem Room.deeper {k : Nat} {A : Around} (r : Room (k + 1) A) (env : Env) : Room k (A.deeper env) :=
  ⟨r.hd, by have := r.dp; show A.depth + 1 + 3 * k + 5 < _; omega, by have := r.un; show A.units + 3 + 16 * k + 200 < _; omega⟩
theorem make_depth {A : Around} {C : Addr} {us : List Value} {kw : List (Str × Value)} : (A.under (.builtin "type.__call__" ⟨.ref C :: us, kw⟩)).depth = A.depth + 1 := by
  first | rfl | simp [Around.under, Code.weight, Code.isCreation, Code.isGuard, Code.isCaller, Code.frames, Code.isFrame, guardIds]
theorem make_units {A : Around} {C : Addr} {us : List Value} {kw : List (Str × Value)} : (A.under (.builtin "type.__call__" ⟨.ref C :: us, kw⟩)).units = A.units + 1 := by
  first | rfl | simp [Around.under, Code.cUnits, Code.frames, Code.isFrame]
theorem Room.make {k : Nat} {A : Around} (r : Room (k + 1) A) (C : Addr) (us : List Value) (kw : List (Str × Value)) : Room k (A.under (.builtin "type.__call__" ⟨.ref C :: us, kw⟩)) :=
  ⟨r.hd, by have := r.dp; rw [make_depth]; omega, by have := r.un; rw [make_units]; omega⟩
theorem Room.depth {k : Nat} {A : Around} (r : Room k A) : A.depth < recursionLimit := by have := r.dp; omega
theorem Room.units {k : Nat} {A : Around} (r : Room k A) : A.units + 64 < cLine := by have := r.un; omega
/-! ### argument lists and displays -/
def tNil : TA := fun _ H Q => Q [] H
def tCons (ta : TE) (tr : TA) : TA := fun σ H Q => ta σ H fun x H1 => tr σ H1 fun xs H2 => Q (x :: xs) H2
section
variable {X : Cx} {e : Expr} {es : List Expr} {te : TE} {t : TA} {pos : Pos}
theorem pa_nil : PA X [] tNil := fun _ _ _ _ H Q I h => Calls.spliced_nil ⟨[], H, I, .nil, h⟩
theorem pa_cons (ha : PE X e te) (hr : PA X es t) (hs : starEach (e :: es) X.env = (false, eval e X.env) :: starEach es X.env := by rfl) : PA X (e :: es) (tCons te t) := by
  intro pos pins s σ H Q I h
  rw [hs]
  show wpAny _ _ (spliced ((false, eval e X.env) :: backTo pos (starEach es X.env))) _ _ s
  refine Calls.spliced_cons (thn (ha pins s σ H _ I h) fun u s1 ⟨x, H1, I1, r1, q1⟩ => ?_)
  exact thn (hr pos pins s1 σ H1 _ I1 q1) fun us s2 ⟨xs, H2, I2, r2, q2⟩ => ⟨x :: xs, H2, I2, .cons r1 r2, q2⟩

/-- a tuple, a list of written items -/
def tTup (t : TA) : TE := fun σ H Q => t σ H fun xs H1 => xs.length ≤ sizeLine ∧ ∀ p, H1 p = none → Q (.ref p) (upd H1 p (.tup xs))
def tLst (t : TA) : TE := fun σ H Q => t σ H fun xs H1 => xs.length ≤ sizeLine ∧ ∀ p, H1 p = none → Q (.ref p) (upd H1 p (.lst xs))
theorem pe_tup {x1} (h : PA X es t) : PE X (.Tuple es x1 pos) (tTup t) := by
  intro pins s σ H Q I hq
  refine wpAny_Tuple_spliced (thn (h pos pins s σ H _ I hq) fun us s1 ⟨xs, H1, I1, r, z, q⟩ => ⟨by rw [← r.length]; exact z, ?_⟩)
  have hf : H1 s1.heap.objs.size = none := I1.hok.fresh (Nat.le_refl _)
  refine ⟨.ref s1.heap.objs.size, upd H1 s1.heap.objs.size (.tup xs), I1.laid (t' := s1.toks) (fun b u e => Heap.get?_push_of_some _ e) (Nat.le_refl _) ?_, rfl, q _ hf⟩
  exact ⟨z, us, r, ⟨_, Heap.get?_push_size _ rfl, rfl, _, rfl⟩⟩
theorem pe_lst (h : PA X es t) : PE X (.List es pos) (tLst t) := by
  intro pins s σ H Q I hq
  refine wpAny_List_spliced (thn (h pos pins s σ H _ I hq) fun us s1 ⟨xs, H1, I1, r, z, q⟩ => ⟨by rw [← r.length]; exact z, ?_⟩)
  have hf : H1 s1.heap.objs.size = none := I1.hok.fresh (Nat.le_refl _)
  refine ⟨.ref s1.heap.objs.size, upd H1 s1.heap.objs.size (.lst xs), I1.laid (t' := s1.toks) (fun b u e => Heap.get?_push_of_some _ e) (Nat.le_refl _) ?_, rfl, q _ hf⟩
  exact ⟨z, us, 0, r, Heap.get?_push_size _ rfl⟩
end

/-! ### what a def promises -/
/-- a def's promise: the bound arguments in the parameters' order, the heap, the wanted end, the wanted exception -/
abbrev Sp := List V → Hp → VK → XK → Prop
/-- how an exception lies behind a call (file 08 gives it): the callers' frames, abstract heap and state ahead of the call, the wish, the exception, the state -/
abbrev CXT := List Env → Hp → Shared → XK → Value → Shared → Prop

/-- the state at a call -/
structure Env0 (P : Program) (w : World) (K : PySem.W.Frag) (mg : Str → Option Value) (base : Heap) (A : Around) (outer : List Env) (s : Shared) (H : Hp) : Prop where
  frames : A.frames = some outer
  mod : Mod K mg base
  bs : ∀ b o, base.get? b = some o → s.heap.get? b = some o ∧ H b = none
  bsz : base.objs.size ≤ s.heap.objs.size
  funs : s.heap.FunFrames base outer
  frf : ∀ b ∈ frs outer, H b = none
  hok : HOk P w H s.heap
  bare : AllBare s.gens
/-- a call's end -/
def CE (outer : List Env) (P : Program) (w : World) (H : Hp) (s : Shared) (Q : VK) (u : Value) (s' : Shared) : Prop :=
  ∃ v H', s'.os = s.os ∧ AllBare s'.gens ∧ Un (frs outer) [] H H' s.heap s'.heap ∧ HOk P w H' s'.heap ∧ RelV v u ∧ Q v H'
def CR (CX : CXT) (outer : List Env) (P : Program) (w : World) (H : Hp) (s : Shared) (Q : VK) (E : XK) (r : Result) (s' : Shared) : Prop :=
  match r with
  | .ok (.ret u) => CE outer P w H s Q u s'
  | .ok _ => False
  | .error e => CX outer H s E e s'
structure FnOk (P : Program) (w : World) (K : PySem.W.Frag) (mg : Str → Option Value) (base : Heap) (CX : CXT) (k : Nat) (f : Addr) (fd : FuncData) (ps : List Str) (sp : Sp) : Prop where
  len : ∀ vs H Q E, sp vs H Q E → vs.length = ps.length
  run : ∀ (A : Around) (outer : List Env) (s : Shared) (H : Hp) (args : Args) (us : List Value) (vs : List V) (Q : VK) (E : XK), Room k A → Env0 P w K mg base A outer s H → BindsTo s fd args (ps.zip us) → Vals vs us → sp vs H Q E →
    codeAny (model P w) A (.call (.ref f) args) (CR CX outer P w H s Q E) s
theorem Env0.make {P : Program} {w : World} {K : PySem.W.Frag} {mg : Str → Option Value} {base : Heap} {A : Around} {outer : List Env} {s : Shared} {H : Hp} (e : Env0 P w K mg base A outer s H) (C : Addr) (us : List Value) (kw : List (Str × Value)) :
    Env0 P w K mg base (A.under (.builtin "type.__call__" ⟨.ref C :: us, kw⟩)) outer s H := ⟨by first | exact e.frames | (simpa [Around.under, Code.envs, Code.isFrame, pushEnvs] using e.frames), e.mod, e.bs, e.bsz, e.funs, e.frf, e.hok, e.bare⟩
section
variable {X : Cx} {pins : List (Addr × Obj)} {σ : St} {H : Hp} {s s' : Shared}
/-- from a body: what a callee wants -/
theorem Inv.env0 (I : Inv X pins σ H s) : Env0 X.prog X.w X.K X.mg X.base X.A X.stack s H :=
  ⟨I.ok.frames, I.ok.mod, I.bs, Nat.le_trans I.ok.bsz I.sz, I.stack, I.stkFree, I.hok, I.bare⟩
/-- behind a call -/
theorem Inv.after {Q : VK} {u : Value} (I : Inv X pins σ H s) (h : CE X.stack X.prog X.w H s Q u s') : EP X pins σ Q u s' := by
  obtain ⟨v, H', os, bare, un, hok, r, q⟩ := h
  obtain ⟨hh, g, d, t, os'⟩ := s'
  obtain rfl : os' = s.os := os
  exact ⟨v, H', I.call (h' := hh) (g' := g) (d' := d) (t' := t) (ch := []) un hok bare (fun b z => absurd z (by simp)), r, q⟩
end

/-! ### calls -/
/-- f(..): the written arguments, then the defaults dvs; E: what is wanted of an exception -/
def tCall (sp : Sp) (dvs : List V) (E : XK) (t : TA) : TE := fun σ H Q => t σ H fun vs H1 => sp (vs ++ dvs) H1 Q E
/-- o.m(..) of an instance of the class at C -/
def tMeth (C : Addr) (m : Str) (sp : Sp) (dvs : List V) (E : XK) (ta : TE) (t : TA) : TE := fun σ H Q => ta σ H fun x H1 => ∃ a dx fs, x = .ref a ∧ H1 a = some (.ins C dx fs) ∧ fs.lookup m = none ∧
  t σ H1 fun vs H2 => sp (x :: (vs ++ dvs)) H2 Q E
/-- C(..): a new instance and its dict, then __init__ -/
def tMake (C : Addr) (sp : Sp) (dvs : List V) (E : XK) (t : TA) : TE := fun σ H Q => t σ H fun vs H1 => ∀ x dx, H1 x = none → H1 dx = none → dx ≠ x →
  sp (.ref x :: (vs ++ dvs)) (upd (upd H1 dx (.own x)) x (.ins C dx [])) (fun v H2 => v = .non ∧ Q (.ref x) H2) E

/-- how the parameters are bound: us the positional arguments, kw the keywords' values by name, ds the defaults that fill up -/
def Binds (K : PySem.W.Frag) (fd : FuncData) (ps : List Str) (ds : List Value) : Prop :=
  ∀ (s : Shared) (us : List Value), K.In s.heap → (us ++ ds).length = ps.length → BindsTo s fd ⟨us, []⟩ (ps.zip (us ++ ds))
/-- every parameter is given -/
theorem Binds.all {K : PySem.W.Frag} {fd : FuncData} {ps : List Str} (h : ∀ us : List Value, us.length = ps.length → bindArgs fd ⟨us, []⟩ = pure (ps.zip us)) : Binds K fd ps [] := fun s us _ hl => by
  rw [List.append_nil] at hl ⊢
  exact .of_eq (h us hl)

/-- an exception of a callee reaches what this body wants of exceptions -/
def Passes (CX : CXT) (X : Cx) (E : XK) : Prop := ∀ (pins : List (Addr × Obj)) (σ : St) (H : Hp) (s : Shared) (e : Value) (s' : Shared), Inv X pins σ H s → CX X.stack H s E e s' → X.xe e s'

section
variable {X : Cx} {CX : CXT} {k : Nat} {f C : Addr} {fd : FuncData} {ps : List Str} {sp : Sp} {dvs : List V} {ds : List Value} {E : XK} {x m : Str} {p pos apos : Pos} {e o : Expr} {es : List Expr} {ta : TE} {t : TA}

/-- the callee runs -/
theorem run_fn {pins : List (Addr × Obj)} {σ : St} {H : Hp} {s : Shared} {Q : VK} {us : List Value} {vs : List V} (F : FnOk X.prog X.w X.K X.mg X.base CX k f fd ps sp) (hr : Room k X.A) (hb : Binds X.K fd ps ds) (hd : Vals dvs ds) (hx : Passes CX X E)
    (I : Inv X pins σ H s) (r : Vals vs us) (h : sp (vs ++ dvs) H Q E) : wpAny (model X.prog X.w) X.A (call (.ref f) us) (EP X pins σ Q) X.xe s := by
  have r2 : Vals (vs ++ dvs) (us ++ ds) := r.append hd
  have hl : (us ++ ds).length = ps.length := by rw [← r2.length]; exact F.len _ _ _ _ h
  refine wpAny_call (codeAny_mono (F.run X.A X.stack s H ⟨us, []⟩ (us ++ ds) (vs ++ dvs) Q E hr I.env0 (hb s us I.kIn hl) r2 h) fun r s' hq => ?_)
  cases r with
  | error e => exact hx pins σ H s e s' I hq
  | ok fl =>
    cases fl with
    | ret u => exact I.after hq
    | next => exact False.elim hq
    | brk => exact False.elim hq
    | cont => exact False.elim hq

theorem pe_call (F : FnOk X.prog X.w X.K X.mg X.base CX k f fd ps sp) (hr : Room k X.A) (hg : Gl X x) (hm : X.mg x = some (.ref f)) (hk : PySem.W.keepIn X.K (.ref f) = true) (hb : Binds X.K fd ps ds) (hd : Vals dvs ds) (hx : Passes CX X E)
    (ha : PA X (e :: es) t) (hdb : (x == ("__debug__" : Str)) = false := by decide) (he : starEach (e :: es) X.env = (false, eval e X.env) :: starEach es X.env := by rfl) (hpl : (backTo pos (starEach es X.env)).any (·.1) = false := by rfl) :
    PE X (.Call (.Name x p) (e :: es) [] pos) (tCall sp dvs E t) := by
  intro pins s σ H Q I h
  refine wpAny_Call_Name_kw (ld_glob I hg hm ?_ hdb)
  refine PySem.W.callWith_K (h₀ := X.base) I.ok.mod.kin hk (thn (ha pos pins s σ H _ I h) fun us s1 ⟨vs, H1, I1, r, q⟩ => ⟨I1.kIn, ?_⟩) he hpl
  exact run_fn F hr hb hd hx I1 r q
/-- o.m(e, ..) -/
theorem pe_meth {pl : Sem Bool} (he : PE X o ta) (c : Cls X.K C) (hm : Meth X.K C m f) (F : FnOk X.prog X.w X.K X.mg X.base CX k f fd ps sp) (hr : Room k X.A) (hb : Binds X.K fd ps ds) (hd : Vals dvs ds) (hx : Passes CX X E) (ha : PA X (e :: es) t)
    (hst : starEach (e :: es) X.env = (false, eval e X.env) :: starEach es X.env := by rfl) (hpl : (backTo pos (starEach es X.env)).any (·.1) = false := by rfl)
    (ht : eval (.Call (.Attribute o m apos) (e :: es) [] pos) X.env = (do
      let ov ← eval o X.env
      standAt apos.atName
      let (f, first) ← holding [ov] (getMethod ov m pl)
      callWith pos f first (backTo pos (starEach (e :: es) X.env)) (backToKw pos (keywordEach [] X.env))) := by rfl) :
    PE X (.Call (.Attribute o m apos) (e :: es) [] pos) (tMeth C m sp dvs E ta t) := by
  intro pins s σ H Q I h
  refine PySem.W.methodCall_KW (pl := pl) (thn (he pins s σ H _ I h) fun u s1 ⟨x, H1, I1, rx, a, dx, fs, ex, ea, l, q⟩ => ?_) ht
  subst ex
  obtain rfl : u = Value.ref a := rx
  refine getmeth_ok I1 ea c hm l ?_
  refine PySem.W.callWith_K (first := [.ref a]) (h₀ := X.base) I.ok.mod.kin hm.kp (thn (ha pos pins s1 σ H1 _ I1 q) fun us s2 ⟨vs, H2, I2, r, q2⟩ => ⟨I2.kIn, ?_⟩) hst hpl
  exact run_fn (us := .ref a :: us) (vs := .ref a :: vs) F hr hb hd hx I2 (.cons rfl r) q2
/-- o.m() -/
theorem pe_meth0 {pl : Sem Bool} (he : PE X o ta) (c : Cls X.K C) (hm : Meth X.K C m f) (F : FnOk X.prog X.w X.K X.mg X.base CX k f fd ps sp) (hr : Room k X.A) (hb : Binds X.K fd ps ds) (hd : Vals dvs ds) (hx : Passes CX X E)
    (ht : eval (.Call (.Attribute o m apos) [] [] pos) X.env = (do
      let ov ← eval o X.env
      standAt apos.atName
      let (f, first) ← holding [ov] (getMethod ov m pl)
      callWith pos f first (backTo pos (starEach [] X.env)) (backToKw pos (keywordEach [] X.env))) := by rfl) :
    PE X (.Call (.Attribute o m apos) [] [] pos) (tMeth C m sp dvs E ta tNil) := by
  intro pins s σ H Q I h
  refine PySem.W.methodCall_KW (pl := pl) (thn (he pins s σ H _ I h) fun u s1 ⟨x, H1, I1, rx, a, dx, fs, ex, ea, l, q⟩ => ?_) ht
  subst ex
  obtain rfl : u = Value.ref a := rx
  refine getmeth_ok I1 ea c hm l ?_
  exact PySem.W.callWith_K0 (first := [.ref a]) I1.kIn hm.kp (run_fn (us := [.ref a]) (vs := [.ref a]) F hr hb hd hx I1 (.cons rfl .nil) q)

/-- what a class must have to be made -/
structure Mk (K : PySem.W.Frag) (C f : Addr) : Prop where
  makes : PySem.W.makesIn K C = true
  init : PySem.W.findIn K (.ref C) "__init__" = some (some (.ref f))
  fn : PySem.W.isFn K (.ref f) = true
  kp : PySem.W.keepIn K (.ref C) = true

theorem run_make {pins : List (Addr × Obj)} {σ : St} {H : Hp} {s : Shared} {Q : VK} {us : List Value} {vs : List V} (M : Mk X.K C f) (F : FnOk X.prog X.w X.K X.mg X.base CX k f fd ps sp) (hr : Room (k + 1) X.A) (hb : Binds X.K fd ps ds) (hd : Vals dvs ds)
    (hx : Passes CX X E) (I : Inv X pins σ H s) (r : Vals vs us)
    (h : ∀ x dx, H x = none → H dx = none → dx ≠ x → sp (.ref x :: (vs ++ dvs)) (upd (upd H dx (.own x)) x (.ins C dx [])) (fun v H2 => v = .non ∧ Q (.ref x) H2) E) :
    wpAny (model X.prog X.w) X.A (call (.ref C) us) (EP X pins σ Q) X.xe s := by
  have hq := h (s.heap.objs.size + 1) s.heap.objs.size (I.hok.fresh (Nat.le_succ _)) (I.hok.fresh (Nat.le_refl _)) (Nat.ne_of_lt (Nat.lt_succ_self _))
  have I2 := Inv.made (C := C) I
  have r2 : Vals (V.ref (s.heap.objs.size + 1) :: (vs ++ dvs)) (Value.ref (s.heap.objs.size + 1) :: (us ++ ds)) := .cons rfl (r.append hd)
  have hl : (Value.ref (s.heap.objs.size + 1) :: us ++ ds).length = ps.length := by
    have e := r2.length
    rw [F.len _ _ _ _ hq] at e
    exact e.symm
  refine wpAny_call (make_map (f := f) I.kIn M.makes M.init (beq_iff_eq.mp M.fn) (codeAny_mono (F.run _ X.stack _ _ ⟨Value.ref (s.heap.objs.size + 1) :: us, []⟩ (Value.ref (s.heap.objs.size + 1) :: (us ++ ds)) _ _ E (hr.make C us [])
    (I2.env0.make C us []) (hb _ (Value.ref (s.heap.objs.size + 1) :: us) I2.kIn hl) r2 hq) fun r s' hq' => ?_))
  cases r with
  | error e => exact hx pins σ _ _ e s' I2 hq'
  | ok fl =>
    cases fl with
    | ret u =>
      obtain ⟨v, H', I3, rv, ev, q3⟩ := I2.after hq'
      subst ev
      exact ⟨rv, ⟨V.ref (s.heap.objs.size + 1), H', I3, rfl, q3⟩⟩
    | next => exact False.elim hq'
    | brk => exact False.elim hq'
    | cont => exact False.elim hq'
theorem pe_make (M : Mk X.K C f) (F : FnOk X.prog X.w X.K X.mg X.base CX k f fd ps sp) (hr : Room (k + 1) X.A) (hg : Gl X x) (hm : X.mg x = some (.ref C)) (hb : Binds X.K fd ps ds) (hd : Vals dvs ds) (hx : Passes CX X E)
    (ha : PA X (e :: es) t) (hdb : (x == ("__debug__" : Str)) = false := by decide) (he : starEach (e :: es) X.env = (false, eval e X.env) :: starEach es X.env := by rfl) (hpl : (backTo pos (starEach es X.env)).any (·.1) = false := by rfl) :
    PE X (.Call (.Name x p) (e :: es) [] pos) (tMake C sp dvs E t) := by
  intro pins s σ H Q I h
  refine wpAny_Call_Name_kw (ld_glob I hg hm ?_ hdb)
  refine PySem.W.callWith_K (h₀ := X.base) I.ok.mod.kin M.kp (thn (ha pos pins s σ H _ I h) fun us s1 ⟨vs, H1, I1, r, q⟩ => ⟨I1.kIn, ?_⟩) he hpl
  exact run_make M F hr hb hd hx I1 r q
end

/-! ### keywords -/
/-- the values of the keywords, from the left -/
def PK (X : Cx) (kws : List Keyword) (t : TA) : Prop :=
  ∀ (pos : Pos) (pins : List (Addr × Obj)) (s : Shared) (σ : St) (H : Hp) (Q : List V → Hp → Prop), Inv X pins σ H s → t σ H Q → wpAny (model X.prog X.w) X.A (evalAll ((backToKw pos (keywordEach kws X.env)).map (·.2))) (AP X pins σ Q) X.xe s
section
variable {X : Cx} {CX : CXT} {k : Nat} {f C : Addr} {fd : FuncData} {ps ks : List Str} {sp : Sp} {E : XK} {x m : Str} {p pos apos kpos : Pos} {e o : Expr} {es : List Expr} {kws : List Keyword} {te ta : TE} {t tk : TA} {nm : Option Str}
/-- how a call with keywords binds: g puts the positional values us and the keywords' values ws (names ks) in the parameters' order, defaults among them -/
structure KBinds (K : PySem.W.Frag) (fd : FuncData) (ps ks : List Str) (g : List Value → List Value → List Value) (gV : List V → List V → List V) : Prop where
  to : ∀ (s : Shared) (us ws : List Value), K.In s.heap → (g us ws).length = ps.length → BindsTo s fd ⟨us, ks.zip ws⟩ (ps.zip (g us ws))
  rel : ∀ {vs : List V} {us : List Value} {zs : List V} {ws : List Value}, Vals vs us → Vals zs ws → Vals (gV vs zs) (g us ws)
def tCallK (sp : Sp) (gV : List V → List V → List V) (E : XK) (t tk : TA) : TE := fun σ H Q => t σ H fun vs H1 => tk σ H1 fun zs H2 => sp (gV vs zs) H2 Q E
variable {g : List Value → List Value → List Value} {gV : List V → List V → List V}
end

/-! ### a def's body keeps its promise -/
/-- names: the parameters first -/
structure FnScope (N P : List Str) (sc : Scope) : Prop where
  kind : sc.kind = .function
  co : sc.isCoroutine = false
  gen : sc.isGenerator = false
  nd : N.Nodup
  pre : N.take P.length = P
  par : ∀ x ∈ P, sc.names.lookup x = some .local ∨ sc.names.lookup x = some .cell
  nofree : ∀ y ∈ sc.names, y.2 ≠ .free

theorem bindL_out {kindOf : Str → Option NameKind} {x : Str} : ∀ {binds : List (Str × Value)} {m : Str → Option Value}, (∀ v, (x, v) ∉ binds) → bindL kindOf binds m x = m x
  | [], _, _ => rfl
  | (n, v) :: r, m, h => by
    unfold bindL
    rw [bindL_out fun w hw => h w (List.mem_cons_of_mem _ hw)]
    split
    · have : x ≠ n := by rintro rfl; exact h v List.mem_cons_self
      simp [this]
    · rfl
theorem bindC_out {kindOf : Str → Option NameKind} {x : Str} : ∀ {binds : List (Str × Value)} {m : Str → Option Value}, (∀ v, (x, v) ∉ binds) → bindC kindOf binds m x = m x
  | [], _, _ => rfl
  | (n, v) :: r, m, h => by
    unfold bindC
    rw [bindC_out fun w hw => h w (List.mem_cons_of_mem _ hw)]
    split
    · rfl
    · have : x ≠ n := by rintro rfl; exact h v List.mem_cons_self
      simp [this]
theorem bindL_get {kindOf : Str → Option NameKind} {x : Str} {v : Value} : ∀ {P : List Str} {vs : List Value} {i : Nat} {m : Str → Option Value}, P.Nodup → P[i]? = some x → vs[i]? = some v → kindOf x = some .local →
    bindL kindOf (P.zip vs) m x = some v
  | [], _, _, _, _, h, _, _ => by simp at h
  | _ :: _, [], _, _, _, _, h, _ => by simp at h
  | p :: P, w :: vs, 0, m, nd, h1, h2, hk => by
    simp at h1 h2; subst h1; subst h2
    show bindL kindOf ((p, w) :: P.zip vs) m p = _
    unfold bindL
    rw [bindL_out fun v hv => (List.nodup_cons.mp nd).1 (List.of_mem_zip hv).1, if_pos hk]
    simp
  | p :: P, w :: vs, i + 1, m, nd, h1, h2, hk => by
    show bindL kindOf ((p, w) :: P.zip vs) m x = _
    unfold bindL
    exact bindL_get (i := i) (List.nodup_cons.mp nd).2 (by simpa using h1) (by simpa using h2) hk
theorem bindC_get {kindOf : Str → Option NameKind} {x : Str} {v : Value} : ∀ {P : List Str} {vs : List Value} {i : Nat} {m : Str → Option Value}, P.Nodup → P[i]? = some x → vs[i]? = some v → kindOf x ≠ some .local →
    bindC kindOf (P.zip vs) m x = some v
  | [], _, _, _, _, h, _, _ => by simp at h
  | _ :: _, [], _, _, _, _, h, _ => by simp at h
  | p :: P, w :: vs, 0, m, nd, h1, h2, hk => by
    simp at h1 h2; subst h1; subst h2
    show bindC kindOf ((p, w) :: P.zip vs) m p = _
    unfold bindC
    rw [bindC_out fun v hv => (List.nodup_cons.mp nd).1 (List.of_mem_zip hv).1, if_neg hk]
    simp
  | p :: P, w :: vs, i + 1, m, nd, h1, h2, hk => by
    show bindC kindOf ((p, w) :: P.zip vs) m x = _
    unfold bindC
    exact bindC_get (i := i) (List.nodup_cons.mp nd).2 (by simpa using h1) (by simpa using h2) hk

/-- the names' values at the entry -/
def start (N : List Str) (vs : List V) : St := vs.map some ++ List.replicate (N.length - vs.length) none

/-- the context of a def's body, at its entry; an exception leaves the frame, then lies as CX says -/
def cxOf (CX : CXT) (P : Program) (w : World) (K : PySem.W.Frag) (mg : Str → Option Value) (base : Heap) (N : List Str) (qual : Str) (scope : Scope) (f : Addr) (cd : Value) (A : Around) (outer : List Env) (s : Shared) (H : Hp) (E : XK) : Cx where
  prog := P
  w := w
  K := K
  mg := mg
  base := base
  A := A.deeper (envOfC qual scope s.heap.objs.size f cd)
  N := N
  s₀ := s
  H₀ := H
  env := envOfC qual scope s.heap.objs.size f cd
  outer := outer
  stack := envOfC qual scope s.heap.objs.size f cd :: outer
  ex := []
  calm := true
  fn := fun _ => true
  pn := []
  xe := fun e s' => wpAny (model P w) (A.deeper (envOfC qual scope s.heap.objs.size f cd)) (leaving (envOfC qual scope s.heap.objs.size f cd) e) (fun _ s'' => CX outer H s E e s'') (fun e' s'' => CX outer H s E e' s'') s'

theorem cell_has {sc : Scope} {n : Nat} {x : Str} (h : sc.names.lookup x = some .cell) : ∃ c, (cellsFrom n sc.names []).lookup x = some c := by
  have q := PySem.W.cellsFrom_some sc.names n [] (.inl h)
  exact Option.isSome_iff_exists.mp q

theorem inv_start {CX : CXT} {P : Program} {w : World} {K : PySem.W.Frag} {mg : Str → Option Value} {base : Heap} {N ps : List Str} {qual : Str} {scope : Scope} {f : Addr} {cd : Value} {A : Around} {outer : List Env} {s s1 : Shared} {H : Hp} {E : XK} {us : List Value} {vs : List V}
    (S : FnScope N ps scope) (hd : A.handled = none) (e0 : Env0 P w K mg base A outer s H) (hl : vs.length = ps.length) (r : Vals vs us)
    (x : InCallC s s.heap.objs.size (bindL (envOfC qual scope s.heap.objs.size f cd).kindOf (ps.zip us) fun _ => none) (cellsFrom (s.heap.objs.size + 1) scope.names []) (bindC (envOfC qual scope s.heap.objs.size f cd).kindOf (ps.zip us) fun _ => none) s1) :
    Inv (cxOf CX P w K mg base N qual scope f cd A outer s H E) [] (start N vs) H s1 := by
  have hpl : ps.length ≤ N.length := by have := congrArg List.length S.pre; rw [List.length_take] at this; omega
  obtain ⟨h1, tk, rfl, hk⟩ := x.done
  have noA : ∀ b : Addr, b ∉ (cxOf CX P w K mg base N qual scope f cd A outer s H E).ex := fun b z => absurd (show b ∈ ([] : List Addr) from z) (by simp)
  refine ⟨⟨e0.mod, S.kind, rfl, rfl, Nat.le_refl _, fun y z c h1 h2 => ?_, fun y hy => ?_, fun y c _ h => ?_, fun _ => hd, Around.frames_deeper e0.frames, .inr ⟨rfl, rfl⟩, fun b z => absurd z (noA b), e0.bs, e0.bsz, fun b _ _ => noA b, fun b z => absurd z (noA b), e0.funs, e0.frf⟩,
    rfl, e0.bare, Un.kept hk, ⟨_, x.toInCall.ns, fun i y v h1 h2 h3 => ?_⟩, fun y c h => ⟨_, x.cell y c h⟩, e0.hok.fresh (Nat.le_refl _), fun y c h => ?_, fun p hp => absurd (show p ∈ ([] : List (Addr × Obj)) from hp) (by simp), e0.hok.kept hk, ?_⟩
  · exact name_of_addr x.apart (PySem.mem_of_lookup h1) (PySem.mem_of_lookup h2)
  · have hy : scope.names.lookup y = some .cell ∨ scope.names.lookup y = some .free := hy
    rcases hy with hy | hy
    · exact cell_has hy
    · exact absurd rfl (S.nofree _ (PySem.mem_of_lookup hy))
  · exact Nat.le_of_lt (x.above y c (PySem.mem_of_lookup h))
  · have hi : i < vs.length := by
      unfold start at h2
      by_cases hi : i < vs.length
      · exact hi
      · rw [List.getElem?_append_right (by simpa using hi)] at h2
        rw [List.getElem?_replicate] at h2
        split at h2 <;> cases h2
    have ha : vs[i]? = some v := by
      unfold start at h2
      rw [List.getElem?_append_left (by simpa using hi), List.getElem?_map] at h2
      cases e : vs[i]? with
      | none => rw [e] at h2; cases h2
      | some a => rw [e] at h2; cases h2; rfl
    obtain ⟨u, hu, rv⟩ := r.get ha
    have hp : ps[i]? = some y := by
      rw [← S.pre, List.getElem?_take_of_lt (by omega)]; exact h1
    have ndP : ps.Nodup := by rw [← S.pre]; exact S.nd.sublist (List.take_sublist _ _)
    refine ⟨u, rv, ?_⟩
    rcases S.par y (List.mem_of_getElem? hp) with k | k
    · exact .inl ⟨k, bindL_get ndP hp hu k⟩
    · obtain ⟨c, e⟩ := cell_has (n := s.heap.objs.size + 1) k
      refine .inr ⟨.inl k, c, e, ?_⟩
      have q := x.cell y c e
      rw [bindC_get ndP hp hu (by show scope.names.lookup y ≠ _; rw [k]; decide)] at q
      exact q
  · exact e0.hok.fresh (Nat.le_of_lt (x.above y c (PySem.mem_of_lookup h)))
  · unfold start
    show _ = N.length
    rw [List.length_append, List.length_map, List.length_replicate]
    omega

/-- THE RULE: a def (or a method) of the text, by its body. The body's reading t is chosen for each entry; it is run at the parameters' values -/
theorem fn_of {CX : CXT} {P : Program} {w : World} {K : PySem.W.Frag} {mg : Str → Option Value} {base : Heap} {k : Nat} {f : Addr} {name qual : Str} {params : Arguments} {body : List Stmt} {scope : Scope} {dV kV doc pm cdv ct oc : Value} {an od : Option Addr}
    {osl : Array (Option Value)} {N ps : List Str} {sp : Sp} (lk : K.lookup f = some ⟨oc, od, .func (PySem.W.fnOf name qual params body scope dV kV doc pm an cdv ct), osl⟩) (hcd : PySem.W.codeIn K cdv qual = true) (S : FnScope N ps scope)
    (len : ∀ vs H Q E, sp vs H Q E → vs.length = ps.length)
    (hbody : ∀ (A : Around) (outer : List Env) (s : Shared) (H : Hp) (vs : List V) (Q : VK) (E : XK), Room k (A.deeper (envOfC qual scope s.heap.objs.size f cdv)) → sp vs H Q E →
      ∃ t, PSs (cxOf CX P w K mg base N qual scope f cdv A outer s H E) body t ∧ t { nx := fun _ H' => Q .non H', rt := Q } (start N vs) H) :
    FnOk P w K mg base CX (k + 1) f (PySem.W.fnOf name qual params body scope dV kV doc pm an cdv ct) ps sp := by
  refine ⟨len, fun A outer s H args us vs Q E hr e0 hb r hsp => ?_⟩
  have hl := len _ _ _ _ hsp
  have KX : K.In s.heap := e0.mod.kin.keeps fun b o e => (e0.bs b o e).1
  have lim : s.heap.NoLimit := e0.mod.nolimit.keeps fun b o e => (e0.bs b o e).1
  have hkind : ∀ y ∈ ps.zip us, scope.names.lookup y.1 = some .local ∨ (scope.names.lookup y.1 = some .cell ∧ ((cellsFrom (s.heap.objs.size + 1) scope.names []).lookup y.1).isSome = true) := fun ⟨n, v⟩ hy => by
    rcases S.par n (List.of_mem_zip hy).1 with q | q
    · exact .inl q
    · exact .inr ⟨q, PySem.W.cellsFrom_some _ _ _ (.inl q)⟩
  refine codeAny_call_function hr.depth (KX _ _ lk) rfl S.co S.gen rfl (PySem.W.codeRec_of KX hcd) (hb _ _ _ _ ?_)
  refine wpAny_newFunctionEnv_cells S.kind hkind fun env he s1 x => ?_
  subst he
  refine ⟨lim.keeps x.toInCall.keep, codeAny_func ?_⟩
  obtain ⟨t, ht, hq⟩ := hbody A outer s H vs Q E (hr.deeper _) hsp
  have I : Inv (cxOf CX P w K mg base N qual scope f cdv A outer s H E) [] (start N vs) H s1 := inv_start S hr.hd e0 hl r x
  refine wpAny_mono (ht [] s1 (start N vs) H _ I hq) (fun fl s' hs => ?_) fun e s' hs => hs
  have fin : ∀ {σ' : St} {H' : Hp} {v : V} {u : Value}, Inv (cxOf CX P w K mg base N qual scope f cdv A outer s H E) [] σ' H' s' → RelV v u → Q v H' → CE outer P w H s Q u s' :=
    fun {σ' H' v u} J rv q => ⟨v, H', J.os, J.bare, J.base, J.hok, rv, q⟩
  cases fl with
  | ret u =>
    obtain ⟨v, σ', H', J, rv, q⟩ := hs
    exact fin J rv q
  | next =>
    obtain ⟨σ', H', J, q⟩ := hs
    exact fin (v := V.non) (u := Value.none) J rfl q
  | brk =>
    obtain ⟨_, _, _, q⟩ := hs
    exact False.elim q
  | cont =>
    obtain ⟨_, _, _, q⟩ := hs
    exact False.elim q
end L2

namespace L2
open PySem PySem.Spec PyProof.Rows
section
variable {X : Cx} {x : Str} {p pos : Pos} {e : Expr} {es : List Expr} {t : TA} {id T : String} {r : List V → Hp → VK → Prop}

def tCB (r : List V → Hp → VK → Prop) (t : TA) : TE := fun σ H Q => t σ H fun vs H1 => r vs H1 Q
/-- f(e, ..), f a built-in function -/
theorem pe_callB (hc : CallR X (.builtin id) r) (hg : Gl X x) (hm : X.mg x = none) (hv : bootBuiltins x = some (.builtin id)) (ha : PA X (e :: es) t) (hn : x ≠ "__name__" := by decide) (hdb : (x == ("__debug__" : Str)) = false := by decide)
    (he : starEach (e :: es) X.env = (false, eval e X.env) :: starEach es X.env := by rfl) (hpl : (backTo pos (starEach es X.env)).any (·.1) = false := by rfl) : PE X (.Call (.Name x p) (e :: es) [] pos) (tCB r t) := by
  intro pins s σ H Q I h
  refine wpAny_Call_Name_kw (ld_blt I hg hm hv ?_ hn hdb)
  exact PyProof.Rows.callWith_builtin1 (thn (ha pos pins s σ H _ I h) fun us s1 ⟨vs, H1, I1, r1, q1⟩ => hc pins s1 σ H1 vs us Q I1 r1 q1) he hpl
/-- T(e, ..), T a built-in type -/
theorem pe_callTy (hc : CallR X (.type T) r) (hg : Gl X x) (hm : X.mg x = none) (hv : bootBuiltins x = some (.type T)) (ha : PA X (e :: es) t) (hn : x ≠ "__name__" := by decide) (hdb : (x == ("__debug__" : Str)) = false := by decide)
    (he : starEach (e :: es) X.env = (false, eval e X.env) :: starEach es X.env := by rfl) (hpl : (backTo pos (starEach es X.env)).any (·.1) = false := by rfl) : PE X (.Call (.Name x p) (e :: es) [] pos) (tCB r t) := by
  intro pins s σ H Q I h
  refine wpAny_Call_Name_kw (ld_blt I hg hm hv ?_ hn hdb)
  exact PyProof.Rows.callWith_type1 (thn (ha pos pins s σ H _ I h) fun us s1 ⟨vs, H1, I1, r1, q1⟩ => hc pins s1 σ H1 vs us Q I1 r1 q1) he hpl
end
end L2

namespace HT
open PySem PyProof.Rows

/-- t < u of tuples of ints -/
def lexLt : List Int → List Int → Bool
  | [], [] => false
  | [], _ :: _ => true
  | _ :: _, [] => false
  | x :: xs, y :: ys => if x = y then lexLt xs ys else decide (x < y)
section
open PySem.SeqAt
open PySem.AutoSeq1 (wpAny_loadPart')
open PySem.MeetsSeq PySem.MeetsSeq2 PySem.MeetsSeq3

end

section
variable {prog : Program} {w : World} {A : Around} {E : Value → Shared → Prop} {s : Shared}

/-! ### t[a:b], not the whole -/
/-- a slice's bound as a place among n (d where it is left out) -/
def sIx (n d : Nat) : Option Int → Nat
  | none => d
  | some v => if v < 0 then (v + (n : Int)).toNat else min v.toNat n
end
end HT

namespace L2
open PySem PySem.Spec PyProof.Rows

/-! ### the parts of a slice -/
abbrev TO := St → Hp → (Option Int → Hp → Prop) → Prop
/-- a slice's part (left out, or an int) -/
def PO (X : Cx) (e : Option Expr) (t : TO) : Prop :=
  ∀ (pins : List (Addr × Obj)) (s : Shared) (σ : St) (H : Hp) (Q : Option Int → Hp → Prop), Inv X pins σ H s → t σ H Q →
    wpAny (model X.prog X.w) X.A (evalPart e X.env) (fun u s' => ∃ o H', Inv X pins σ H' s' ∧ IsPart u o ∧ Q o H') X.xe s
def tNoPart : TO := fun _ H Q => Q none H
def tPart (t : TE) : TO := fun σ H Q => t σ H fun x H1 => ∃ i, x = .int i ∧ Q (some i) H1

section
variable {X : Cx} {e : Expr} {te : TE} {lo hi : Option Expr} {tl th : TO} {pos p2 : Pos}

/-- what a slice of a value is, by values: the slice object stands at sl -/
def SlR (X : Cx) (r : V → Option Int → Option Int → Hp → VK → Prop) : Prop :=
  ∀ (pins : List (Addr × Obj)) (s : Shared) (σ : St) (H : Hp) (x : V) (v vl vu : Value) (lo hi : Option Int) (sl : Addr) (Q : VK), Inv X pins σ H s → RelV x v → s.heap.IsSliceOf sl vl vu .none → IsPart vl lo → IsPart vu hi → r x lo hi H Q →
    ∃ T id, typeLookup (.type T) "__getitem__" = pure (some (.builtin id)) ∧ s.TypeIs v T ∧ wpAny (model X.prog X.w) X.A (getItem v (.ref sl)) (EP X pins σ Q) X.xe s
def tSl (r : V → Option Int → Option Int → Hp → VK → Prop) (te : TE) (tl th : TO) : TE := fun σ H Q => te σ H fun x H1 => tl σ H1 fun l H2 => th σ H2 fun u H3 => r x l u H3 Q
/-- the items of xs[lo:hi] -/
def cutV (xs : List V) (lo hi : Option Int) : List V := (xs.drop (HT.sIx xs.length 0 lo)).take (HT.sIx xs.length xs.length hi - HT.sIx xs.length 0 lo)
/-- t[lo:hi], not the whole of it (the whole would be t itself) -/
def rSlT (K : PySem.W.Frag) : V → Option Int → Option Int → Hp → VK → Prop := fun x lo hi H Q => ∃ a xs, x = .ref a ∧ SqT K H a xs ∧
  ¬ (HT.sIx xs.length 0 lo = 0 ∧ HT.sIx xs.length xs.length hi = xs.length) ∧ ∀ p, H p = none → Q (.ref p) (upd H p (.tup (cutV xs lo hi)))
/-! ### t < u, t + u -/
def rLtT (K : PySem.W.Frag) : R2 := fun x y H Q => ∃ a b ns ms, x = .ref a ∧ y = .ref b ∧ SqT K H a (ns.map V.int) ∧ SqT K H b (ms.map V.int) ∧ Q (.bl (HT.lexLt ns ms)) H
/-- t + u, t not empty: u empty gives t itself -/
def rCatT (K : PySem.W.Frag) : R2 := fun x y H Q => ∃ a b xs ys, x = .ref a ∧ y = .ref b ∧ SqT K H a xs ∧ SqT K H b ys ∧ xs ≠ [] ∧ xs.length + ys.length ≤ sizeLine ∧
  (ys = [] → Q (.ref a) H) ∧ (ys ≠ [] → ∀ p, H p = none → Q (.ref p) (upd H p (.tup (xs ++ ys))))
end
end L2

namespace L2
open PySem PySem.Spec PyProof.Rows

/-! ### places -/
/-- the place that an index of any sign means -/
def ixN (n : Nat) (i : Int) : Option Nat := if 0 ≤ i then (if i < n then some i.toNat else none) else if -(n : Int) ≤ i then some (i + n).toNat else none
def atI {α : Type} (xs : List α) (i : Int) : Option α := (ixN xs.length i).bind fun j => xs[j]?
theorem ixN_seq {n : Nat} {i : Int} {j : Nat} (h : ixN n i = some j) : seqIndex? i n = some j ∧ j < n ∧ -(n : Int) ≤ i ∧ i < n := by
  unfold ixN at h
  by_cases h0 : 0 ≤ i
  · rw [if_pos h0] at h
    by_cases h1 : i < n
    · rw [if_pos h1] at h
      have e : i.toNat = j := Option.some.inj h
      exact ⟨by rw [seqIndex_of h0 h1, e], by omega, by omega, h1⟩
    · rw [if_neg h1] at h; cases h
  · rw [if_neg h0] at h
    by_cases h1 : -(n : Int) ≤ i
    · rw [if_pos h1] at h
      have e : (i + n).toNat = j := Option.some.inj h
      exact ⟨by rw [seqIndex_neg (by omega) h1, e], by omega, h1, by omega⟩
    · rw [if_neg h1] at h; cases h
theorem atI_get {α : Type} {xs : List α} {i : Int} {v : α} (h : atI xs i = some v) : ∃ j, seqIndex? i xs.length = some j ∧ xs[j]? = some v ∧ j < xs.length ∧ -(xs.length : Int) ≤ i ∧ i < xs.length := by
  unfold atI at h
  cases e : ixN xs.length i with
  | none => rw [e] at h; cases h
  | some j =>
    rw [e] at h
    obtain ⟨h1, h2, h3, h4⟩ := ixN_seq e
    exact ⟨j, h1, h, h2, h3, h4⟩
theorem atI_nat {α : Type} {xs : List α} {j : Nat} {v : α} (h : xs[j]? = some v) : atI xs (j : Int) = some v := by
  have hj : j < xs.length := (List.getElem?_eq_some_iff.mp h).1
  have e : ixN xs.length (j : Int) = some j := by
    unfold ixN
    rw [if_pos (by omega), if_pos (by omega)]; simp
  unfold atI; rw [e]; exact h
/-! ### what may be subscripted -/
/-- what stands as an index of a plain subscript -/
def PlainIx (b : Expr) : Prop := ∀ o i, subscripted b false o i = operate [o, i] (getItem o i)
/-- a subscript by values -/
def IxR (X : Cx) (r : R2) : Prop :=
  ∀ (value slice : Expr) (pins : List (Addr × Obj)) (s : Shared) (σ : St) (H : Hp) (x y : V) (v u : Value) (Q : VK), Inv X pins σ H s → RelV x v → RelV y u → r x y H Q →
    subscripted slice false v u = operate [v, u] (getItem v u) → wpAny (model X.prog X.w) X.A (subscriptTail value slice v u) (EP X pins σ Q) X.xe s
/-- a call of a builtin's method by values: the receiver, the arguments -/
def MtR (X : Cx) (id : String) (r : V → List V → Hp → VK → Prop) : Prop :=
  ∀ (pins : List (Addr × Obj)) (s : Shared) (σ : St) (H : Hp) (x : V) (xs : List V) (v : Value) (us : List Value) (Q : VK), Inv X pins σ H s → RelV x v → Vals xs us → r x xs H Q →
    wpAny (model X.prog X.w) X.A (call (.builtin id) (v :: us)) (EP X pins σ Q) X.xe s
section
variable {X : Cx} {a b : Expr} {ta tb : TE} {pos : Pos}
/-- a[b] -/
theorem pe_ix {r : R2} (hr : IxR X r) (ha : PE X a ta) (hb : PE X b tb) (hs : PlainIx b) : PE X (.Subscript a b pos) (tOp r ta tb) := by
  intro pins s σ H Q I h
  exact Subscript_ (binT ha hb I h fun v u s2 x y H2 I2 rx ry q => hr a b pins s2 σ H2 x y v u Q I2 rx ry q (hs _ _))

def rIxL (K : PySem.W.Frag) : R2 := fun x y H Q => ∃ p xs i v, x = .ref p ∧ y = .int i ∧ SqL K H p xs ∧ atI xs i = some v ∧ Q v H
def rIxT (K : PySem.W.Frag) : R2 := fun x y H Q => ∃ p xs i v, x = .ref p ∧ y = .int i ∧ SqT K H p xs ∧ atI xs i = some v ∧ Q v H
def rIxS : R2 := fun x y H Q => ∃ z i c, x = .str z ∧ y = .int i ∧ z.length ≤ sizeLine ∧ atI z.cps.toList i = some c ∧ Q (.str ⟨#[c]⟩) H
theorem ix_list : IxR X (rIxL X.K) := by
  intro value slice pins s σ H x y v u Q I rx ry h hs
  obtain ⟨p, xs, i, z, rfl, rfl, hq, he, q⟩ := h
  cases rx
  obtain ⟨t, rfl⟩ := ry
  obtain ⟨its, r, pl, hz⟩ := I.list hq
  obtain ⟨j, h1, h2, h3, h4, h5⟩ := atI_get he
  obtain ⟨w, ew, rw'⟩ := r.get h2
  have hl := r.length
  have hn := line63
  have fin : EP X pins σ Q w s := ⟨z, H, I, rw', q⟩
  by_cases h0 : 0 ≤ i
  · have hj : i.toNat = j := by
      rw [seqIndex_of h0 h5] at h1
      exact Option.some.inj h1
    exact item_listR pl.isList h0 (by omega) (by rw [hj]; simpa using ew) fin hs
  · have hj : (i + (its.toArray.size : Int)).toNat = j := by
      rw [seqIndex_neg (by omega) h4] at h1
      rw [List.size_toArray, ← hl]
      exact Option.some.inj h1
    exact subscriptTail_builtinR (x := w) pl.isList.typeIs slot_list_getitem.lookup
      (wpAny_getItem_list_neg (Q := fun r s' => r = w ∧ EP X pins σ Q r s') pl.isList (by omega) (by rw [List.size_toArray] <;> omega) (by omega) (by rw [hj]; simpa using ew) ⟨rfl, fin⟩) hs
theorem ix_tup : IxR X (rIxT X.K) := by
  intro value slice pins s σ H x y v u Q I rx ry h hs
  obtain ⟨p, xs, i, z, rfl, rfl, hq, he, q⟩ := h
  cases rx
  obtain ⟨t, rfl⟩ := ry
  obtain ⟨its, r, pl, hz⟩ := I.tuple hq
  obtain ⟨j, h1, h2, h3, h4, h5⟩ := atI_get he
  obtain ⟨w, ew, rw'⟩ := r.get h2
  have hl := r.length
  have hn := line63
  have fin : EP X pins σ Q w s := ⟨z, H, I, rw', q⟩
  exact subscriptTail_builtinR (x := w) pl.typeIs slot_tuple_getitem.lookup
    (getItem_tuple (j := j) (Q := fun r s' => r = w ∧ EP X pins σ Q r s') pl (by omega) (by omega) (by rw [List.size_toArray, ← hl]; exact h1) (by simpa using ew) ⟨rfl, fin⟩) hs
/-- list, tuple or str -/
def rIx (K : PySem.W.Frag) : R2 := fun x y H Q => rIxL K x y H Q ∨ rIxT K x y H Q ∨ rIxS x y H Q
/-! ### xs[i] = v, any sign -/
def rSetL : V → V → V → Hp → (Hp → Prop) → Prop := fun o i v H Q => ∃ p xs k j, o = .ref p ∧ i = .int k ∧ H p = some (.lst xs) ∧ ixN xs.length k = some j ∧ Q (upd H p (.lst (xs.set j v)))
/-! ### slices -/
/-- xs[lo:hi] of a list: a new list -/
def rSlL (K : PySem.W.Frag) : V → Option Int → Option Int → Hp → VK → Prop := fun x lo hi H Q => ∃ a xs, x = .ref a ∧ SqL K H a xs ∧ ∀ p, H p = none → Q (.ref p) (upd H p (.lst (cutV xs lo hi)))
/-! ### in, not in: flat items -/
def flatV : V → Bool
  | .non => true
  | .bl _ => true
  | .int _ => true
  | .str _ => true
  | _ => false
/-- == of flat values -/
def eqV : V → V → Bool
  | .non, .non => true
  | .bl a, .bl b => a == b
  | .bl a, .int b => (if a then 1 else 0) == b
  | .int a, .bl b => a == (if b then 1 else 0)
  | .int a, .int b => a == b
  | .str a, .str b => a == b
  | _, _ => false
/-- the items' answers, read off the values (a value's own answer does not lean on its token) -/
def eqU (x : V) (u : Value) : Bool := match u with
  | .none => eqV .non x
  | .bool b => eqV (.bl b) x
  | .int i _ => eqV (.int i) x
  | .str z _ => eqV (.str z) x
  | _ => false
def inV (x : V) (xs : List V) : Bool := xs.any fun y => eqV y x
/-- x in a list or tuple of flat items -/
def rIn (K : PySem.W.Frag) (neg : Bool) : R2 := fun x y H Q => ∃ p xs, y = .ref p ∧ (SqL K H p xs ∨ SqT K H p xs) ∧ flatV x = true ∧ xs.all flatV = true ∧ Q (.bl (if neg then !inV x xs else inV x xs)) H
/-! ### len, list(x), tuple(x) of any list or tuple that is read -/
theorem call_len_seq : CallR X (.builtin "len") (fun xs H Q => ∃ p ys, xs = [.ref p] ∧ (SqL X.K H p ys ∨ SqT X.K H p ys) ∧ Q (.int ys.length) H) := by
  intro pins s σ H xs us Q I r h
  obtain ⟨p, ys, rfl, hq, q⟩ := h
  obtain ⟨u, rfl, rx⟩ := vals1 r
  cases rx
  have hn := line63
  rcases hq with hq | hq
  · obtain ⟨its, r', pl, hz⟩ := I.list hq
    have hlen := r'.length
    exact Calls.call_len_list pl.isList (by simp only [List.size_toArray] <;> omega) ⟨.int ys.length, H, I.tok _, ⟨s.toks + 1, by rw [List.size_toArray, hlen]⟩, q⟩
  · obtain ⟨its, r', pl, hz⟩ := I.tuple hq
    have hlen := r'.length
    exact len_tuple pl (by simp only [List.size_toArray] <;> omega) ⟨.int ys.length, H, I.tok _, ⟨s.toks + 1, by rw [List.size_toArray, hlen]⟩, q⟩
theorem call_list_of : CallR X (.type "list") (fun xs H Q => ∃ p ys, xs = [.ref p] ∧ (SqL X.K H p ys ∨ SqT X.K H p ys) ∧ ∀ l, H l = none → Q (.ref l) (upd H l (.lst ys))) := by
  intro pins s σ H xs us Q I r h
  obtain ⟨p, ys, rfl, hq, q⟩ := h
  obtain ⟨u, rfl, rx⟩ := vals1 r
  cases rx
  have fin : ∀ (its : List Value), Vals ys its → ys.length ≤ sizeLine → ∀ (h' : Heap) (c' : Nat), (∀ b o', s.heap.get? b = some o' → h'.get? b = some o') →
      h'.get? s.heap.objs.size = some { cls := .type "list", dict := none, data := .seq its.toArray c', slots := #[] } → EP X pins σ Q (.ref s.heap.objs.size) { s with heap := h' } := fun its r' hz h' c' kp e =>
    ⟨.ref s.heap.objs.size, _, I.laid (t' := s.toks) kp (Nat.le_refl _) (show ObjOk X.prog X.w _ h' _ (.lst ys) from ⟨hz, its, c', r', e⟩), rfl, q _ (I.hok.fresh (Nat.le_refl _))⟩
  rcases hq with hq | hq
  · obtain ⟨its, r', pl, hz⟩ := I.list hq
    have hlen := r'.length
    obtain ⟨o, ho, hc, n, hd⟩ := pl.isList
    exact call_list_seq p (.inl rfl) ho hc hd (fun h' c' kp e => fin its r' hz h' c' kp e) (by simp only [List.size_toArray] <;> omega)
  · obtain ⟨its, r', pl, hz⟩ := I.tuple hq
    have hlen := r'.length
    obtain ⟨o, ho, hc, n, hd⟩ := pl
    exact call_list_seq p (.inr rfl) ho hc hd (fun h' c' kp e => fin its r' hz h' c' kp e) (by simp only [List.size_toArray] <;> omega)
/-! ### the call of a builtin's method: o.m(..) -/
/-- the value is of that builtin type -/
def tyV (K : PySem.W.Frag) (T : String) (x : V) (H : Hp) : Prop := match x with
  | .str _ => T = "str"
  | .int _ => T = "int"
  | .ref p => (T = "list" ∧ ∃ xs, SqL K H p xs) ∨ (T = "tuple" ∧ ∃ o, K.lookup p = some o ∧ o.cls = .type "tuple" ∧ o.dict = none) ∨
      (T = "dict" ∧ ((∃ kvs, H p = some (.dK kvs)) ∨ ∃ kvs, H p = some (.dT kvs))) ∨ (T = "set" ∧ ∃ S n, H p = some (.set S n))
  | _ => False
theorem tyV_is {pins : List (Addr × Obj)} {σ : St} {H : Hp} {s : Shared} {T : String} {x : V} {v : Value} (I : Inv X pins σ H s) (r : RelV x v) (ty : tyV X.K T x H) :
    s.TypeIs v T ∧ ∀ a, v = .ref a → ∃ ob, s.heap.get? a = some ob ∧ ob.dict = none := by
  cases x with
  | str z =>
    obtain ⟨t, rfl⟩ := r
    cases (show T = "str" from ty)
    exact ⟨typeIs_str s z t, fun _ e => nomatch e⟩
  | int i =>
    obtain ⟨t, rfl⟩ := r
    cases (show T = "int" from ty)
    exact ⟨typeIs_int s i t, fun _ e => nomatch e⟩
  | ref p =>
    cases r
    rcases ty with ⟨rfl, xs, hq⟩ | ⟨rfl, o, hk, hc, hd⟩ | ⟨rfl, hk⟩ | ⟨rfl, S, n, hk⟩
    · obtain ⟨its, _, pl, _⟩ := I.list hq
      refine ⟨pl.isList.typeIs, fun a e => ?_⟩
      cases e
      obtain ⟨o, n, e, c, hd, _⟩ := pl
      exact ⟨o, e, hd⟩
    · refine ⟨⟨o, I.kIn p o hk, hc⟩, fun a e => ?_⟩
      cases e
      exact ⟨o, I.kIn _ o hk, hd⟩
    · have z : ∃ o, s.heap.get? p = some o ∧ o.ExactDict := by
        rcases hk with ⟨kvs, hk⟩ | ⟨kvs, hk⟩
        · obtain ⟨_, _, _, _, o, _, _, e, ex, _⟩ := I.hok p _ hk
          exact ⟨o, e, ex⟩
        · obtain ⟨_, _, _, _, o, _, _, e, ex, _⟩ := I.hok p _ hk
          exact ⟨o, e, ex⟩
      obtain ⟨o, e, ex⟩ := z
      refine ⟨⟨o, e, ex.1⟩, fun a e2 => ?_⟩
      cases e2
      exact ⟨o, e, ex.2.1⟩
    · obtain ⟨o, _, _, _, e, ex, _⟩ := I.hok p _ hk
      refine ⟨⟨o, e, ex.1⟩, fun a e2 => ?_⟩
      cases e2
      exact ⟨o, e, ex.2.1⟩
  | _ => exact False.elim ty
def tBM0 (K : PySem.W.Frag) (T : String) (r : V → List V → Hp → VK → Prop) (to : TE) : TE := fun σ H Q => to σ H fun x H1 => tyV K T x H1 ∧ r x [] H1 Q
def tBM (K : PySem.W.Frag) (T : String) (r : V → List V → Hp → VK → Prop) (to : TE) (t : TA) : TE := fun σ H Q => to σ H fun x H1 => tyV K T x H1 ∧ t σ H1 fun xs H2 => r x xs H2 Q
variable {o e : Expr} {es : List Expr} {to : TE} {t : TA} {name : Str} {apos cpos : Pos} {T id : String} {r : V → List V → Hp → VK → Prop}
theorem pe_bm (pa : PlainAttrs T) (slot : Slot T name id) (hty : typeOf (.builtin id) = pure (.type "method_descriptor")) (hm : MtR X id r) (ho : PE X o to) (ha : PA X (e :: es) t)
    (hbase : attributeBase o name X.env (eval o X.env) = eval o X.env := by rfl)
    (hfew : ((backTo cpos (starEach (e :: es) X.env)).all (fun x => !x.1) && (backToKw cpos (keywordEach [] X.env)).all (fun x => x.1.isSome)
      && decide ((e :: es).length + ([] : List Keyword).length + (if ([] : List Keyword).isEmpty then 0 else 1) < 30)) = true := by rfl)
    (hline : (apos.endLine == cpos.line) = true := by rfl) (hs : starEach (e :: es) X.env = (false, eval e X.env) :: starEach es X.env := by rfl) (hplain : (backTo cpos (starEach es X.env)).any (·.1) = false := by rfl) :
    PE X (.Call (.Attribute o name apos) (e :: es) [] cpos) (tBM X.K T r to t) := by
  intro pins s σ H Q I h
  refine wpAny_Call_method_late hbase hfew hline rfl (thn (ho pins s σ H _ I h) fun v s1 ⟨x, H1, I1, r1, ty, q1⟩ => ?_)
  obtain ⟨h1, h2⟩ := tyV_is I1 r1 ty
  refine ⟨T, id, pa, slot, hty, h1, h2, ?_⟩
  have hA := ha cpos pins s1 σ H1 _ I1 q1
  rw [hs] at hA ⊢
  refine Calls.callWith_builtin (by show (false || (backTo cpos (starEach es X.env)).any (·.1)) = false; rw [hplain] <;> rfl) (Calls.evalArgs_plain ?_)
  exact thn hA fun us s2 ⟨vs, H2, I2, r2, q2⟩ => hm pins s2 σ H2 x vs v us Q I2 r1 r2 q2
/- xs.append(e), list.index on a module's tuple .. are MtR facts of 06m -/
end
end L2

namespace L2
open PySem PySem.Spec PyProof.Rows

def MtM (X : Cx) (id : String) (r : V → List V → Hp → VK → Prop) : Prop :=
  ∀ (pins : List (Addr × Obj)) (s : Shared) (σ : St) (H : Hp) (x : V) (xs : List V) (v : Value) (us : List Value) (Q : VK), Inv X pins σ H s → RelV x v → Vals xs us → r x xs H Q →
    wpAny (model X.prog X.w) X.A (call (.builtin id) (v :: us)) (EP X pins σ Q) X.xe s

/-! ### lists of values -/
theorem Vals.one : ∀ {x : V} {us : List Value}, Vals [x] us → ∃ u, us = [u] ∧ RelV x u
  | _, _, .cons r .nil => ⟨_, rfl, r⟩
theorem Vals.two : ∀ {x y : V} {us : List Value}, Vals [x, y] us → ∃ u v, us = [u, v] ∧ RelV x u ∧ RelV y v
  | _, _, _, .cons r (.cons q .nil) => ⟨_, _, rfl, r, q⟩
section
variable {X : Cx} {pins : List (Addr × Obj)} {σ : St} {H : Hp} {s : Shared} {l b : Addr} {xs ys zs : List V}

/-! ### the two steps: a tracked list is rewritten, a new list is laid -/
theorem Inv.lset {its its' : List Value} {n : Nat} {f : Array Value → Array Value} {t' : Nat} (I : Inv X pins σ H s) (hH : H l = some (.lst xs))
    (e : s.heap.get? l = some { cls := .type "list", data := .seq its.toArray n }) (hf : f its.toArray = its'.toArray) (hv : Vals ys its') (hz : ys.length ≤ sizeLine) :
    Inv X pins σ (upd H l (.lst ys)) { s with heap := s.heap.update l (Obj.mapSeq f), toks := t' } := by
  have q := PySem.IsL.update e f
  rw [hf] at q
  refine I.write (x := l) (e := l) (by rw [hH]; exact trivial) (.inl rfl) (fun b' u hb hu => (Heap.get?_update_other s.heap (Obj.mapSeq f) (Ne.symm hb)).trans hu) ⟨_, q⟩ ?_
  exact ⟨hz, its', _, hv, q⟩
theorem Inv.lnew {its : List Value} {t' : Nat} (I : Inv X pins σ H s) (hv : Vals ys its) (hz : ys.length ≤ sizeLine) :
    Inv X pins σ (upd H s.heap.objs.size (.lst ys)) { s with heap := s.heap.push { cls := .type "list", data := .seq its.toArray }, toks := t' } :=
  I.laid (fun _ _ q => Heap.get?_push_of_some _ q) (Nat.le_refl _) ⟨hz, its, 0, hv, Heap.get?_push_size _ rfl⟩
theorem Inv.fresh (I : Inv X pins σ H s) : H s.heap.objs.size = none := I.hok.fresh (Nat.le_refl _)
theorem Inv.lstM (I : Inv X pins σ H s) (hH : H l = some (.lst xs)) : xs.length ≤ sizeLine ∧ ∃ (its : List Value) (n : Nat), Vals xs its ∧ xs.length = its.length ∧ s.heap.get? l = some { cls := .type "list", data := .seq its.toArray n } := by
  obtain ⟨z, its, n, r, e⟩ := I.hok l _ hH
  exact ⟨z, its, n, r, r.length, e⟩

end

section
variable {X : Cx}

/-! ### methods -/
def rAppend : V → List V → Hp → VK → Prop := fun x vs H Q => ∃ l xs y, x = .ref l ∧ vs = [y] ∧ H l = some (.lst xs) ∧ xs.length < sizeLine ∧ Q .non (upd H l (.lst (xs ++ [y])))
theorem mt_append : MtM X "list.append" rAppend := by
  intro pins s σ H x vs v us Q I rx rv h
  obtain ⟨l, xs, y, rfl, rfl, hH, hz, q⟩ := h
  cases rx
  obtain ⟨u, rfl, ru⟩ := rv.one
  obtain ⟨z, its, n, r, hl, e⟩ := I.lstM hH
  refine call_meets F.slot_list_append ⟨_, e, rfl⟩ F.entry_list_append (F.args_list_append_2 _ _) (PySem.list_append l its.toArray n u (by rw [List.size_toArray]; omega)) ⟨e, ?_⟩
  refine ⟨.non, _, I.lset (its' := its ++ [u]) hH e (by simp) (r.append (.cons ru .nil)) ?_, rfl, q⟩
  rw [List.length_append, List.length_singleton]
  omega

def rExtend : V → List V → Hp → VK → Prop := fun x vs H Q => ∃ l b xs zs, x = .ref l ∧ vs = [.ref b] ∧ H l = some (.lst xs) ∧ H b = some (.lst zs) ∧ xs.length + zs.length ≤ sizeLine ∧ Q .non (upd H l (.lst (xs ++ zs)))
def rPop : V → List V → Hp → VK → Prop := fun x vs H Q => ∃ l xs y, x = .ref l ∧ vs = [] ∧ H l = some (.lst xs) ∧ xs[xs.length - 1]? = some y ∧ Q y (upd H l (.lst xs.dropLast))
def rPopAt : V → List V → Hp → VK → Prop := fun x vs H Q => ∃ l xs i k y, x = .ref l ∧ vs = [.int i] ∧ H l = some (.lst xs) ∧ -(2 ^ 63) ≤ i ∧ i < 2 ^ 63 ∧ seqIndex? i xs.length = some k ∧ xs[k]? = some y ∧ Q y (upd H l (.lst (xs.eraseIdx k)))
def rReverse : V → List V → Hp → VK → Prop := fun x vs H Q => ∃ l xs, x = .ref l ∧ vs = [] ∧ H l = some (.lst xs) ∧ Q .non (upd H l (.lst xs.reverse))
def rClear : V → List V → Hp → VK → Prop := fun x vs H Q => ∃ l xs, x = .ref l ∧ vs = [] ∧ H l = some (.lst xs) ∧ Q .non (upd H l (.lst []))
/-! ### list + list, list += list, list * int -/
def rCat : R2 := fun x y H Q => ∃ l b xs zs, x = .ref l ∧ y = .ref b ∧ H l = some (.lst xs) ∧ H b = some (.lst zs) ∧ xs.length + zs.length ≤ sizeLine ∧ ∀ p, H p = none → Q (.ref p) (upd H p (.lst (xs ++ zs)))
theorem op_cat : OpR X (binaryOp .Add) rCat := by
  intro pins s σ H x y v u Q I rx ry h
  obtain ⟨l, b, xs, zs, rfl, rfl, hH, hB, hz, q⟩ := h
  cases rx
  cases ry
  obtain ⟨z, its, n, r, hl, e⟩ := I.lstM hH
  obtain ⟨z2, its2, n2, r2, hl2, e2⟩ := I.lstM hB
  refine PySem.P.add_list e e2 ?_ (by rw [List.size_toArray, List.size_toArray]; omega)
  have ea : its.toArray ++ its2.toArray = (its ++ its2).toArray := by simp
  rw [ea]
  exact ⟨.ref _, _, I.lnew (t' := s.toks) (r.append r2) (by rw [List.length_append]; omega), rfl, q _ I.fresh⟩
/-- a list times an int (a negative one is nothing) -/
def rRep : R2 := fun x y H Q => ∃ l k xs, x = .ref l ∧ y = .int k ∧ H l = some (.lst xs) ∧ -(2 ^ 63) ≤ k ∧ k < 2 ^ 63 ∧ xs.length * k.toNat ≤ sizeLine ∧
  ∀ p, H p = none → Q (.ref p) (upd H p (.lst (List.replicate k.toNat xs).flatten))
/-! ### del xs[i] -/
end

/-! ### xs[a:b] = ys -/
section
variable {prog : Program} {w : World} {A : Around} {E : Value → Shared → Prop} {s : Shared}
end

section
variable {X : Cx}
end
end L2

namespace Att
open PySem PySem.W PySem.Calls PyProof.Rows

/-! ### the script -/
theorem ints_of_wellAll {P : Params} {h : Heap} : ∀ (ns : List Int) (vs : List Value), WellAll P h vs (ns.map WData.int) → IntsAre vs ns := by
  intro ns
  induction ns with
  | nil =>
    intro vs w
    rw [List.map_nil] at w
    cases w
    exact .nil
  | cons n ns ih =>
    intro vs w
    rw [List.map_cons] at w
    cases w with
    | cons a b =>
      cases a
      exact .cons _ _ (ih _ b)

theorem script_of {l : OpenLaw} {n : Nat} (hn : l.most = some n) {P : Params} {h : Heap} {args : List WData} {vals : List Value}
    (hpre : l.row.toRowW.claim.pre args = true) (hwl : WellAll P h vals args) :
    ∃ a vs ns, vals = [Value.ref a] ∧ args = [WData.list (ns.map WData.int)] ∧ h.get? a = some { cls := .type "list", data := .seq vs.toArray } ∧ IntsAre vs ns ∧ ns.length ≤ n := by
  have hsh : WShape.hasAll [] args [.list .int] = true := (pre_splitW hpre).1
  have hc : l.pre.holds [] { args := args } = true := (pre_splitW hpre).2
  obtain ⟨d, r, rfl, h1, h2⟩ := hasAllW_cons hsh
  obtain rfl := hasAllW_nil h2
  obtain ⟨xs, rfl, h3⟩ := hasW_list h1
  obtain ⟨ns, rfl⟩ := items_int h3
  have hlen : ns.length ≤ n := by
    unfold OpenLaw.pre at hc
    have h4 : (WTm.not (.lt (.lit (.int (n : Int))) (.len (.arg 0)))).holds [] { args := [.list (ns.map .int)] } = true := by
      have h4 := (holds_andW hc).1
      rw [hn] at h4
      exact h4
    have h5 := condW_of h4 (w_not (w_lt w_lit (w_len_list (w_arg rfl))))
    rw [List.length_map] at h5
    refine Nat.le_of_not_lt fun q => ?_
    have q' : (n : Int) < ((ns.length : Nat) : Int) := by omega
    first
      | (rw [decide_eq_true q'] at h5; exact absurd h5 (by decide))
      | (simp at h5; omega)
  cases hwl with
  | cons w1 w2 =>
    cases w2
    cases w1 with
    | list ho hall => exact ⟨_, _, ns, rfl, rfl, ho, ints_of_wellAll ns _ hall, hlen⟩

theorem post_true (l : OpenLaw) (args : List WData) : l.row.toRowW.claim.post args (.bool true) args = true :=
  postW_of (r := l.row.toRowW) (X := (true == true))
    (show WShape.has [] (.bool true) .bool = true by first | rfl | decide | simp [WShape.has, WShape.arms, WShape.armsAll])
    (show (WTm.eq .res (.lit (.bool true))).value [] { args := args, res := some (.bool true), after := args } = some (.bool (true == true)) from w_eq_bool (w_res rfl) w_lit) rfl

/-! ### the attachment: holds_open's last premise (the goal 'hc' behind k_head) from a wpAny of the law's body -/
/-- the same from a codeAny of the CALL (for a layer whose function contracts speak of calls) -/
theorem attach_call {l : OpenLaw} {n : Nat} {q : Program} {loose : List Str} {XP : (Str → Option Value) → Heap → Prop} {YP : World → Heap → Prop} {d : DefRec}
    (hn : l.most = some n) (hdf : d.params.defaults = [])
    (call : ∀ (w : World) (s₀ s₁ : Shared) (mg mb : Str → Option Value) (fa : Addr) (o : Obj) (pm cd doc : Value) (a : Addr) (vs : List Value) (ns : List Int),
      Ground q loose [] XP w s₀ mg mb s₁.heap → YP w s₁.heap →
      s₁.heap.get? fa = some o → o.data = .func (docDef d.name d.params d.body d.scope pm cd doc) → s₁.heap.CodeRec cd d.name → mg d.name = some (.ref fa) →
      s₁.heap.get? a = some { cls := .type "list", data := .seq vs.toArray } → IntsAre vs ns → ns.length ≤ n → s₁.gens = #[] →
      codeAny (model l.prog w) callerA (.call (.ref fa) ⟨[.ref a], []⟩) (fun r s' => r = .ok (.ret (.bool true)) ∧ OldK s₁.heap s'.heap ∧ s'.os = s₁.os ∧ AllBare s'.gens) s₁) :
    WalkO q loose XP YP l.row.toRowW d [] (fun f vs => PySem.call f vs) := by
  intro w s₀ s₁ mg mb G Y fa o pm cd doc dV kV ho hd hcd hD hmg hg args vals as hpre hlay hrd hwl hlo
  obtain rfl : dV = .none := Dflts.none hD hdf
  obtain rfl : kV = .none := Dflts.noKw hD
  obtain ⟨a, vs, ns, rfl, rfl, hobj, hints, hlen⟩ := script_of hn hpre hwl
  refine enter_call (codeAny_mono (call w s₀ s₁ mg mb fa o pm cd doc a vs ns G Y ho (fd_plain hd) hcd hmg hobj hints hlen hg) fun r s' hq => ?_)
  obtain ⟨rfl, h2, h3, h4⟩ := hq
  exact ⟨.inl ⟨.bool true, .bool true, [], rfl, fun _ => rfl, .bool true, post_true l _, fun _ => ⟨List.Pairwise.nil, fun _ hm => (nomatch hm)⟩⟩, h2, h3, h4⟩

/-! ### rules over ANY heap (no ledger) from facts about the written part K: the library's own take a ledger (News) for what they write -/
section
variable {prog : Program} {w : World} {A : Around} {E : Value → Shared → Prop} {s : Shared} {K : Frag}

/-! the whole heap as the ledger: makes every rule that writes through a ledger a rule over any heap -/
def noObjs (h : Heap) : Heap := { h with objs := #[] }
def ledger (h : Heap) (L d : Addr) : List (Addr × Obj) := (List.range h.objs.size).filterMap fun a => if a = L ∨ a = d then none else (h.get? a).map fun o => (a, o)
end
end Att

namespace L2
open PySem PySem.Spec PyProof.Rows

theorem vals_ints : ∀ {vs : List Value} {ns : List Int}, IntsAre vs ns → Vals (ns.map V.int) vs
  | _, _, .nil => .nil
  | _, _, .cons n t h => .cons ⟨t, rfl⟩ (vals_ints h)

/-- nothing is tracked but the script, known to the object (or it is an object of the module) -/
def Only (H : Hp) : Prop := ∀ b, H b = none ∨ ∃ o xs, H b = some (.frz o (.lst xs))

/-- THE HEAD: the law's promise, at the heap behind the top. F, the promise of the law's def, may use that base is part of the heap (so K.In base, base.Ns mainGlobals mg stand in Mod) -/
theorem law_call {P : Program} {w : World} {K : PySem.W.Frag} {mg mb : Str → Option Value} {CX : CXT} {k : Nat} {fa a : Addr} {fd : FuncData} {x : Str} {sp : Sp} {s₁ : Shared} {vs : List Value} {ns : List Int}
    (KX : K.In s₁.heap) (hns : s₁.heap.Ns mainGlobals mg) (hb : s₁.heap.Ns builtinsNs mb) (hbb : ∀ x : Str, x ≠ "__name__" → mb x = bootBuiltins x) (hlim : s₁.heap.NoLimit) (hg : s₁.gens = #[])
    (ha : s₁.heap.get? a = some { cls := .type "list", data := .seq vs.toArray }) (hi : IntsAre vs ns) (hl : ns.length ≤ sizeLine) (hr : Room k callerA)
    (F : ∀ base : Heap, K.In base → base.Ns mainGlobals mg → FnOk P w K mg base CX k fa fd [x] sp) (hbind : ∀ (s : Shared) (u : Value), BindsTo s fd ⟨[u], []⟩ [(x, u)])
    (hsp : ∀ H : Hp, Only H → SqL K H a (ns.map V.int) → sp [.ref a] H (fun v _ => v = .bl true) fun _ _ _ => False)
    (hCX : ∀ H e s', CX [] H s₁ (fun _ _ _ => False) e s' → False) :
    codeAny (model P w) callerA (.call (.ref fa) ⟨[.ref a], []⟩) (fun r s' => r = .ok (.ret (.bool true)) ∧ OldK s₁.heap s'.heap ∧ s'.os = s₁.os ∧ AllBare s'.gens) s₁ := by
  have rv := vals_ints hi
  have lenV := hi.length
  -- from an abstract heap in which nothing but the script may be tracked
  have core : ∀ H : Hp, Only H → SqL K H a (ns.map V.int) → HOk P w H s₁.heap → (∀ b, H b ≠ none → b = a) → (H a ≠ none → K.lookup a = none) →
      codeAny (model P w) callerA (.call (.ref fa) ⟨[.ref a], []⟩) (fun r s' => r = .ok (.ret (.bool true)) ∧ OldK s₁.heap s'.heap ∧ s'.os = s₁.os ∧ AllBare s'.gens) s₁ := by
    intro H hO hS hok hA hK
    have base_of : ∀ {b : Addr} {o : Obj}, s₁.heap.get? b = some o → H b = none → (hidT s₁.heap H).get? b = some o := fun e n => hidT_get e n
    have noA : ∀ {b : Addr} {o : Obj} {es : Array DictEntry} {ep : Nat}, s₁.heap.get? b = some o → o.data = .dict es ep → H b = none := fun {b o es ep} e d => by
      cases q : H b with
      | none => rfl
      | some u =>
        have e' : b = a := hA b (by rw [q]; simp)
        subst e'
        rw [ha] at e; cases e
        have d' : Data.seq vs.toArray _ = Data.dict es ep := d
        cases d'
    have nsK : ∀ {b : Addr} {m : Str → Option Value}, s₁.heap.Ns b m → (hidT s₁.heap H).Ns b m := fun {b m} ⟨o, es, ep, e, d, r⟩ => ⟨o, es, ep, base_of e (noA e d), d, r⟩
    have hKb : K.In (hidT s₁.heap H) := fun b o e => base_of (KX b o e) (by
      cases q : H b with
      | none => rfl
      | some u =>
        have e' : b = a := hA b (by rw [q]; simp)
        subst e'
        rw [hK (by rw [q]; simp)] at e; cases e)
    have hM : Mod K mg (hidT s₁.heap H) := ⟨hKb, nsK hns, ⟨mb, nsK hb, hbb⟩, let ⟨mc, h1, h2⟩ := hlim; ⟨mc, nsK h1, h2⟩⟩
    have e0 : Env0 P w K mg (hidT s₁.heap H) callerA [] s₁ H := ⟨rfl, hM, fun b o e => of_hidT e, Nat.le_of_eq (hidT_size _ _), trivial, fun b hb => absurd (show b ∈ ([] : List Addr) from hb) (by simp), hok, .of_eq hg⟩
    refine codeAny_mono ((F _ hKb (nsK hns)).run callerA [] s₁ H ⟨[.ref a], []⟩ [.ref a] [.ref a] _ _ hr e0 (hbind s₁ (.ref a)) (.cons rfl .nil) (hsp H hO hS)) fun r s' h => ?_
    cases r with
    | error e => exact (hCX H e s' h).elim
    | ok fl =>
      cases fl with
      | next => exact False.elim h
      | brk => exact False.elim h
      | cont => exact False.elim h
      | ret u =>
        obtain ⟨v, H', os, bare, un, hok', r', q⟩ := h
        have q' : v = .bl true := q
        subst q'
        obtain rfl : u = Value.bool true := r'
        refine ⟨rfl, OldK.of_keep fun b o e => ?_, os, bare⟩
        cases q : H b with
        | none => exact un.keep b o e q (by intro z; exact absurd (show b ∈ ([] : List Addr) from z) (by simp)) (by simp)
        | some u =>
          rcases hO b with z | ⟨ob, xs, z⟩
          · rw [q] at z; cases z
          · have z2 := un.frzs b ob _ z
            obtain ⟨e1, _⟩ := hok b _ z
            obtain ⟨e2, _⟩ := hok' b _ z2
            rw [e] at e1; cases e1
            exact e2
  cases hk : K.lookup a with
  | some o =>
    -- the script is one of the module's own objects
    have e := KX a o hk
    rw [ha] at e
    cases e
    refine core (fun _ => none) (fun _ => .inl rfl) (.inr ⟨_, vs.toArray, _, hk, rfl, rfl, rfl, by rw [List.size_toArray, lenV]; exact hl, by simpa using rv⟩) (fun b u z => by have z' : (none : Option HO) = some u := z; cases z') (fun b z => absurd rfl z) fun z => absurd rfl z
  | none =>
    refine core (fun b => if b = a then some (.frz { cls := .type "list", data := .seq vs.toArray } (.lst (ns.map V.int))) else none) (fun b => ?_) (.inl (.inr ⟨{ cls := .type "list", data := .seq vs.toArray }, if_pos rfl⟩)) (fun b u z => ?_) (fun b z => ?_) fun _ => hk
    · by_cases hb : b = a
      · exact .inr ⟨_, _, if_pos hb⟩
      · exact .inl (if_neg hb)
    · by_cases hb : b = a
      · have z' := (if_pos hb).symm.trans z
        cases z'
        subst hb
        exact ⟨ha, by rw [List.length_map]; exact hl, vs, _, rv, ha⟩
      · have z' := (if_neg hb).symm.trans z
        cases z'
    · by_cases hb : b = a
      · exact hb
      · exact absurd (if_neg hb) z
end L2

namespace L2
open PySem PySem.Spec PyProof.Rows

abbrev KOf {K : PySem.W.Frag} {h : Heap} (_ : K.In h) : PySem.W.Frag := K

/-- the goal that k_head leaves (case hc), from the law's promise. F gives the function object fd (K's own) once, then the promise over every base -/
theorem walk_of {l : PySem.W.OpenLaw} {n k : Nat} {q : Program} {loose : List Str} {XP : (Str → Option Value) → Heap → Prop} {YP : World → Heap → Prop} {d : DefRec} {K : Params → PySem.W.Frag} {CX : World → CXT} {sp : World → Sp} {x : Str}
    (hn : l.most = some n) (hn2 : n ≤ sizeLine) (hdf : d.params.defaults = []) (hr : Room k callerA)
    (hY : ∀ (w : World) (h : Heap), YP w h → (K w.params).In h)
    (F : ∀ (w : World) (mg : Str → Option Value) (fa : Addr) (h : Heap), (K w.params).In h → h.Ns mainGlobals mg → mg d.name = some (.ref fa) →
      ∃ fd : FuncData, (∀ (s : Shared) (u : Value), BindsTo s fd ⟨[u], []⟩ [(x, u)]) ∧
        ∀ base : Heap, (K w.params).In base → base.Ns mainGlobals mg → FnOk l.prog w (K w.params) mg base (CX w) k fa fd [x] (sp w))
    (hsp : ∀ (w : World) (H : Hp) (a : Addr) (ns : List Int), ns.length ≤ n → Only H → SqL (K w.params) H a (ns.map V.int) → sp w [.ref a] H (fun v _ => v = .bl true) fun _ _ _ => False)
    (hCX : ∀ (w : World) (H : Hp) (s : Shared) (e : Value) (s' : Shared), CX w [] H s (fun _ _ _ => False) e s' → False) :
    PySem.W.WalkO q loose XP YP l.row.toRowW d [] (fun f vs => PySem.call f vs) := by
  refine Att.attach_call hn hdf fun w s₀ s₁ mg mb fa o pm cd doc a vs ns G Y ho hd hcd hmg hobj hints hlen hg => ?_
  have KX := hY w _ Y
  obtain ⟨fd, hb, hF⟩ := F w mg fa _ KX G.T.g hmg
  exact law_call KX G.T.g G.T.b G.T.builtins G.T.nolimit hg hobj hints (Nat.le_trans hlen hn2) hr hF hb (fun H hO hS => hsp w H a ns hlen hO hS) fun H e s' => hCX w H s₁ e s'
end L2



/-! SHORT WORDS over the layer: a def of the text, its body, what a loop and a test want. -/
namespace L2
open PySem PySem.Spec PyProof.Rows

/-! ### the text by places -/
/-- the j-th statement of a class's body -/
def inClass (s : Stmt) (j : Nat) : Stmt := match s with
  | .ClassDef _ _ _ body _ _ _ _ _ _ _ => body.getD j (.Pass ⟨0, 0, 0, 0⟩)
  | _ => .Pass ⟨0, 0, 0, 0⟩
def defArgs (s : Stmt) : Arguments := match s with
  | .FunctionDef _ a _ _ _ _ _ _ _ _ => a
  | _ => { posonlyargs := [], args := [], vararg := none, kwonlyargs := [], kw_defaults := [], kwarg := none, defaults := [] }
def defBody (s : Stmt) : List Stmt := match s with
  | .FunctionDef _ _ b _ _ _ _ _ _ _ => b
  | _ => []
def defScope (s : Stmt) : Scope := match s with
  | .FunctionDef _ _ _ _ _ _ sc _ _ _ => sc
  | _ => { kind := .function, names := [], isGenerator := false, isCoroutine := false }

/-! ### no exception leaves a def -/
abbrev CX0 : CXT := fun _ _ _ _ _ _ => False
abbrev E0 : XK := fun _ _ _ => False
theorem pass0 {X : Cx} : Passes CX0 X E0 := fun _ _ _ _ _ _ _ h => h.elim

/-! ### a def (or method) of the text as it stands behind the top -/
structure Fun (K : PySem.W.Frag) (x qual : Str) (st : Stmt) (f : Addr) (fd : FuncData) : Prop where
  ex : ∃ (oc : Value) (od : Option Addr) (kV doc pm : Value) (an : Option Addr) (cdv ct : Value) (osl : Array (Option Value)),
    fd = PySem.W.fnOf x qual (defArgs st) (defBody st) (defScope st) .none kV doc pm an cdv ct ∧ K.lookup f = some ⟨oc, od, .func fd, osl⟩ ∧ PySem.W.codeIn K cdv qual = true
  kp : PySem.W.keepIn K (.ref f) = true
section
variable {P : Program} {w : World} {K : PySem.W.Frag} {mg : Str → Option Value} {base : Heap}
/-- THE RULE for a def: its body as a term of rules, and the reading of that term -/
theorem Fun.ok {x qual : Str} {st : Stmt} {f : Addr} {fd : FuncData} {N ps : List Str} {k : Nat} {sp : Sp} (F : Fun K x qual st f fd) (S : FnScope N ps (defScope st)) (len : ∀ vs H Q E, sp vs H Q E → vs.length = ps.length)
    (hbody : ∀ (cdv : Value) (A : Around) (outer : List Env) (s : Shared) (H : Hp) (vs : List V) (Q : VK) (E : XK), Room k (A.deeper (envOfC qual (defScope st) s.heap.objs.size f cdv)) → sp vs H Q E →
      ∃ t, PSs (cxOf CX0 P w K mg base N qual (defScope st) f cdv A outer s H E).nox (defBody st) t ∧ t { nx := fun _ H' => Q .non H', rt := Q } (start N vs) H) : FnOk P w K mg base CX0 (k + 1) f fd ps sp := by
  obtain ⟨oc, od, kV, doc, pm, an, cdv, ct, osl, rfl, lk, hcd⟩ := F.ex
  refine fn_of lk hcd S len fun A outer s H vs Q E hr hsp => ?_
  obtain ⟨t, h, q⟩ := hbody cdv A outer s H vs Q E hr hsp
  exact ⟨t, h.nox, q⟩
/-- how its arguments bind (no defaults): h is «fun _ _ _ _ _ _ us hl => match us, hl with | [_, _], _ => rfl», one _ a parameter -/
theorem Fun.binds {x qual : Str} {st : Stmt} {f : Addr} {fd : FuncData} {ps : List Str} (F : Fun K x qual st f fd)
    (h : ∀ (kV doc pm : Value) (an : Option Addr) (cdv ct : Value) (us : List Value), us.length = ps.length → bindArgs (PySem.W.fnOf x qual (defArgs st) (defBody st) (defScope st) .none kV doc pm an cdv ct) ⟨us, []⟩ = pure (ps.zip us)) : Binds K fd ps [] := by
  obtain ⟨oc, od, kV, doc, pm, an, cdv, ct, osl, rfl, lk, hcd⟩ := F.ex
  exact .all (h kV doc pm an cdv ct)
theorem fun_mk {x qual : Str} {st : Stmt} {f : Addr} {oc : Value} {od an : Option Addr} {osl : Array (Option Value)} {kV doc pm cdv ct : Value} (l : K.lookup f = some ⟨oc, od, .func (PySem.W.fnOf x qual (defArgs st) (defBody st) (defScope st) .none kV doc pm an cdv ct), osl⟩)
    (c : PySem.W.codeIn K cdv qual = true) (k : PySem.W.keepIn K (.ref f) = true) : Fun K x qual st f (PySem.W.fnOf x qual (defArgs st) (defBody st) (defScope st) .none kV doc pm an cdv ct) := ⟨⟨oc, od, kV, doc, pm, an, cdv, ct, osl, rfl, l, c⟩, k⟩
end
/-! ### expressions in short: the name that stands in the i-th slot -/
section
variable {X : Cx}
theorem pv (i : Nat) {x : Str} {pos : Pos} (hN : X.N[i]? = some x := by rfl) (hv : Vis X.env.scope x := by first | exact Or.inl rfl | exact Or.inr (Or.inl rfl) | exact Or.inr (Or.inr rfl)) (hd : (x == ("__debug__" : Str)) = false := by decide)
    (hcd : (x == ("__classdict__" : Str)) = false := by decide) : PE X (.Name x pos) (tVar i) := pe_var hN hv hd hcd
end

/-! ### tests -/
theorem iteF {A B : Prop} (h : B) : if false = true then A else B := by
  rw [if_neg Bool.false_ne_true]
  exact h
theorem iteT {A B : Prop} (h : A) : if true = true then A else B := by
  rw [if_pos rfl]
  exact h
theorem ite2 {c A B : Prop} [Decidable c] (h1 : c → A) (h2 : ¬ c → B) : if c then A else B := by
  by_cases h : c
  · rw [if_pos h]
    exact h1 h
  · rw [if_neg h]
    exact h2 h
/-! ### heaps -/
/-- all that was tracked is as it was -/
def Same (H H' : Hp) : Prop := ∀ b o, H b = some o → H' b = some o
theorem Same.refl (H : Hp) : Same H H := fun _ _ h => h
theorem Same.trans {H H1 H2 : Hp} (a : Same H H1) (b : Same H1 H2) : Same H H2 := fun c o h => b c o (a c o h)
theorem Same.seq {K : PySem.W.Frag} {H H' : Hp} {a : Addr} {xs : List V} (e : Same H H') (h : SqL K H a xs) : SqL K H' a xs := by
  rcases h with (h | ⟨o, h⟩) | h
  · exact .inl (.inl (e _ _ h))
  · exact .inl (.inr ⟨o, e _ _ h⟩)
  · exact .inr h

end L2

section
set_option linter.all false
/-! A COMPREHENSION over the layer: [elt for x in iter], [elt for x in iter if test]; sum, min of a list of ints. -/
namespace L2
open PySem PySem.Spec PyProof.Rows

/-- the context of the block: its own names N, its cells cl (the captured names'), its records fp, entered at s with H -/
def cxComp (X : Cx) (scope : Scope) (cl : List (Str × Addr)) (N : List Str) (fp : List Addr) (s : Shared) (H : Hp) : Cx where
  prog := X.prog
  w := X.w
  K := X.K
  mg := X.mg
  base := X.base
  A := X.A
  N := N
  s₀ := s
  H₀ := H
  env := compEnvC scope cl s.heap.objs.size X.env
  outer := X.stack
  stack := X.stack
  ex := fp
  fn := fun _ => false
  calm := X.calm
  pn := []
  xe := fun _ _ => False

def SubC (cells : List (Str × Addr)) : List (Str × Addr) → Prop
  | [] => True
  | p :: r => cells.lookup p.1 = some p.2 ∧ SubC cells r
/-- the captured names ys: the j-th stands in the slot js[j] of the def's own names -/
def CapsOk (X : Cx) (scope : Scope) (cl : List (Str × Addr)) : List Str → List Nat → Prop
  | [], [] => True
  | y :: ys, j :: js => (X.N[j]? = some y ∧ (X.env.scope.names.lookup y = some .cell ∨ X.env.scope.names.lookup y = some .free) ∧
      ((relabel scope X.env).names.lookup y = some .cell ∨ (relabel scope X.env).names.lookup y = some .free) ∧ ∃ c, cl.lookup y = some c) ∧ CapsOk X scope cl ys js
  | _, _ => False
def capSt (σ : St) (js : List Nat) : St := js.map fun j => (σ[j]?).getD none
structure CompOk (X : Cx) (scope : Scope) (cl : List (Str × Addr)) (x : Str) (ys : List Str) (js : List Nat) : Prop where
  clos : closureFor scope X.env = pure cl
  nocell : ∀ y ∈ scope.names, y.2 ≠ .cell
  kind : scope.kind = .function
  names : ∀ y ∈ scope.names, y.2 = .local → scope.names.lookup y.1 = some .local
  hx : scope.names.lookup x = some .local
  sub : SubC X.env.cells cl
  has : ((relabel scope X.env).names.all fun p => !(p.2 == .cell || p.2 == .free) || (cl.lookup p.1).isSome) = true
  caps : CapsOk X scope cl ys js
  nd : (x :: ys).Nodup

section
variable {X : Cx} {pins : List (Addr × Obj)} {σ : St} {H : Hp} {s : Shared} {scope : Scope} {cl : List (Str × Addr)} {x : Str} {ys : List Str} {js : List Nat} {fp : List Addr}

end

/-- the tests of a clause -/
def PTs (X : Cx) (ifs : List Expr) (t : TT) : Prop :=
  ∀ (pins : List (Addr × Obj)) (s : Shared) (σ : St) (H : Hp) (Q : Bool → Hp → Prop), Inv X pins σ H s → t σ H Q →
    wpAny (model X.prog X.w) X.A (forIn ifs true fun c r => if r = true then do let ok ← isTrue c X.env (eval c X.env); pure (ForInStep.yield ok) else pure (ForInStep.yield r)) (TP X pins σ Q) X.xe s
def tYes : TT := fun _ H Q => Q true H
/-- how a comprehension is read: W by the turn, a measure, the items so far, the heap (with the new list at D) -/
def CompBody (J : It) (js : List Nat) (tt : TT) (te : TE) (σ : St) (Q : VK) (H1 : Hp) : Prop := ∀ D, H1 D = none → ∃ W : Nat → Nat → List V → Hp → Prop, (∃ m, W 0 m [] (upd H1 D (.lst []))) ∧
  ∀ i m ys H, W i m ys H → (J.stop i H ∧ Q (.ref D) H) ∨ (J.go i H ∧ ∀ x H', J.yld i H x H' → tt (some x :: capSt σ js) H' fun b H2 =>
    if b = true then te (some x :: capSt σ js) H2 fun y H3 => H3 D = some (.lst ys) ∧ ys.length < sizeLine ∧ ∃ m', m' < m ∧ W (i + 1) m' (ys ++ [y]) (upd H3 D (.lst (ys ++ [y])))
    else ∃ m', m' < m ∧ W (i + 1) m' ys H2)
def tComp (wi : TI) (js : List Nat) (tt : TT) (te : TE) : TE := fun σ H Q => wi σ H fun J H1 => CompBody J js tt te σ Q H1

section
variable {X : Cx} {scope : Scope} {cl : List (Str × Addr)} {x : Str} {ys : List Str} {js : List Nat} {elt iter : Expr} {ifs : List Expr} {px pos : Pos} {wi : TI} {tt : TT} {te : TE}

/-- y = [elt for x in iter if ..] -/
def tSetC (i : Nat) (te : TE) : TS := fun D σ H => te σ H fun v H1 => D.nx (σ.set i (some v)) H1
end

/-! ### lists of ints: sum, min -/
section
variable {X : Cx}
end
end L2

end

section
set_option linter.all false
/-! SHORT WORDS of my own: a def by its name; isinstance; a comprehension over a range -/
namespace L2
open PySem PySem.Spec PyProof.Rows
/-- a def of the text stands behind the top as the text says -/
def DefAt (K : PySem.W.Frag) (mg : Str → Option Value) (x : Str) (st : Stmt) (ps : List Str) : Prop := ∃ f fd, Fun K x x st f fd ∧ mg x = some (.ref f) ∧ Binds K fd ps []
/-- it keeps its promise, k calls deep -/
def Own (P : Program) (w : World) (K : PySem.W.Frag) (mg : Str → Option Value) (base : Heap) (x : Str) (k : Nat) (ps : List Str) (sp : Sp) : Prop :=
  ∃ f fd, FnOk P w K mg base CX0 k f fd ps sp ∧ mg x = some (.ref f) ∧ PySem.W.keepIn K (.ref f) = true ∧ Binds K fd ps []
section
variable {P : Program} {w : World} {K : PySem.W.Frag} {mg : Str → Option Value} {base : Heap} {x : Str} {k : Nat} {ps N : List Str} {sp : Sp} {st : Stmt}
theorem own_of (D : DefAt K mg x st ps) (S : FnScope N ps (defScope st)) (len : ∀ vs H Q E, sp vs H Q E → vs.length = ps.length)
    (hbody : ∀ (f : Addr) (cdv : Value) (A : Around) (outer : List Env) (s : Shared) (H : Hp) (vs : List V) (Q : VK) (E : XK), Room k (A.deeper (envOfC x (defScope st) s.heap.objs.size f cdv)) → sp vs H Q E →
      ∃ t, PSs (cxOf CX0 P w K mg base N x (defScope st) f cdv A outer s H E).nox (defBody st) t ∧ t { nx := fun _ H' => Q .non H', rt := Q } (start N vs) H) : Own P w K mg base x (k + 1) ps sp := by
  obtain ⟨f, fd, F, m, b⟩ := D
  exact ⟨f, fd, F.ok S len (hbody f), m, F.kp, b⟩
end
section
variable {X : Cx} {x : Str} {k : Nat} {ps : List Str} {sp : Sp} {e : Expr} {es : List Expr} {t : TA} {p pos : Pos}
theorem pe_own (F : Own X.prog X.w X.K X.mg X.base x k ps sp) (hr : Room k X.A) (hg : Gl X x) (ha : PA X (e :: es) t) (hdb : (x == ("__debug__" : Str)) = false := by decide)
    (he : starEach (e :: es) X.env = (false, eval e X.env) :: starEach es X.env := by rfl) (hpl : (backTo pos (starEach es X.env)).any (·.1) = false := by rfl) :
    PE X (.Call (.Name x p) (e :: es) [] pos) (tCall sp [] E0 t) := by
  obtain ⟨f, fd, F, hm, hk, hb⟩ := F
  exact pe_call F hr hg hm hk hb .nil pass0 ha hdb he hpl
end
theorem B_len : bootBuiltins "len" = some (.builtin "len") := by decide +kernel
theorem B_max : bootBuiltins "max" = some (.builtin "max") := by decide +kernel
theorem B_isinstance : bootBuiltins "isinstance" = some (.builtin "isinstance") := by decide +kernel
theorem B_int : bootBuiltins "int" = some (.type "int") := by decide +kernel
theorem B_bool : bootBuiltins "bool" = some (.type "bool") := by decide +kernel
theorem B_list : bootBuiltins "list" = some (.type "list") := by decide +kernel
theorem B_tuple : bootBuiltins "tuple" = some (.type "tuple") := by decide +kernel
theorem lt_size {n : Nat} (h : n ≤ 1000000) : n < sizeLine := Nat.lt_of_le_of_lt h (by decide)
/-! ### isinstance -/
section
variable {X : Cx}
/-- a class as it stands in an argument -/
def clV : V → Option Value
  | .ty n => some (.type n)
  | .ref a => some (.ref a)
  | _ => none
theorem clV_rel {x : V} {u c : Value} (h : clV x = some c) (r : RelV x u) : u = c := by
  cases x with
  | ty n => cases (show u = Value.type n from r); cases h; rfl
  | ref a => cases (show u = Value.ref a from r); cases h; rfl
  | _ => cases h
theorem call_isinst : CallR X (.builtin "isinstance") (fun xs H Q => ∃ x y t c b, xs = [x, y] ∧ clV y = some c ∧ TyOf X.K H x t ∧ PySem.W.kitOne X.K t c = some b ∧ Q (.bl b) H) := by
  intro pins s σ H xs us Q I r h
  obtain ⟨x, y, t, c, b, rfl, hc, ty, e, q⟩ := h
  obtain ⟨u, u', rfl, ru, ru'⟩ := r.two
  obtain rfl := clV_rel hc ru'
  exact isinst_ok I ru ty e fun tk => ⟨.bl b, H, I.tok tk, rfl, q⟩
end
/-! ### a comprehension over a range: the test p, the element g; what is made on the way is forgotten -/
theorem same_upd {H : Hp} {p : Addr} (h : H p = none) (o : HO) : Same H (upd H p o) := fun b u q => by rw [upd_ne (ne_of_none q h)]; exact q
/-! ### == and != of data: ints, bools, texts, None, lists and tuples of these, at any depth up to 64 -/
mutual
inductive DatIn (K : PySem.W.Frag) (H : Hp) : V → PyData → Prop where
  | non : DatIn K H .non .none
  | bl (b : Bool) : DatIn K H (.bl b) (.bool b)
  | int (i : Int) : DatIn K H (.int i) (.int i)
  | str (x : Str) : DatIn K H (.str x) (.str x)
  | lst {a : Addr} {xs : List V} {ds : List PyData} : SqL K H a xs → DatAll K H xs ds → DatIn K H (.ref a) (.list ds)
  | tup {a : Addr} {xs : List V} {ds : List PyData} : SqT K H a xs → DatAll K H xs ds → DatIn K H (.ref a) (.tuple ds)
inductive DatAll (K : PySem.W.Frag) (H : Hp) : List V → List PyData → Prop where
  | nil : DatAll K H [] []
  | cons {x : V} {d : PyData} {xs : List V} {ds : List PyData} : DatIn K H x d → DatAll K H xs ds → DatAll K H (x :: xs) (d :: ds)
end
section
variable {X : Cx} {pins : List (Addr × Obj)} {σ : St} {H : Hp} {s : Shared}
mutual
theorem DatIn.reads (I : Inv X pins σ H s) : ∀ {x : V} {d : PyData} {u : Value}, DatIn X.K H x d → RelV x u → ∃ as, Reads s.heap u d as
  | _, _, _, .non, r => by cases r; exact ⟨_, .none⟩
  | _, _, _, .bl b, r => by cases r; exact ⟨_, .bool b⟩
  | _, _, _, .int i, r => by obtain ⟨t, rfl⟩ := r; exact ⟨_, .int i t⟩
  | _, _, _, .str x, r => by obtain ⟨t, rfl⟩ := r; exact ⟨_, .str x t⟩
  | _, _, _, .lst h t, r => by
    cases r
    obtain ⟨its, rv, ⟨o, n, e, c, _, d⟩, _⟩ := I.list h
    obtain ⟨as, q⟩ := DatAll.reads I t rv
    exact ⟨_, .list e c d (by simpa using q)⟩
  | _, _, _, .tup h t, r => by
    cases r
    obtain ⟨its, rv, ⟨o, e, c, n, d⟩, _⟩ := I.tuple h
    obtain ⟨as, q⟩ := DatAll.reads I t rv
    exact ⟨_, .tuple e c d (by simpa using q)⟩
theorem DatAll.reads (I : Inv X pins σ H s) : ∀ {xs : List V} {ds : List PyData} {us : List Value}, DatAll X.K H xs ds → Vals xs us → ∃ as, ReadsAll s.heap us ds as
  | _, _, _, .nil, .nil => ⟨_, .nil⟩
  | _, _, _, .cons h t, .cons r rr => by
    obtain ⟨as, q⟩ := DatIn.reads I h r
    obtain ⟨bs, q'⟩ := DatAll.reads I t rr
    exact ⟨_, .cons q q'⟩
end
end
section
variable {X : Cx}
def rEqD (K : PySem.W.Frag) (neg : Bool) : R2 := fun x y H Q => ∃ d e, DatIn K H x d ∧ DatIn K H y e ∧ PySem.SeqAt.shaped d = true ∧ PySem.SeqAt.shaped e = true ∧ Q (.bl (if neg = true then !PyData.eqv d e else PyData.eqv d e)) H
theorem op_eqD (hu : X.A.units + 64 < cLine) : OpR X (compareOp .Eq) (rEqD X.K false) := by
  intro pins s σ H x y v u Q I rx ry h
  obtain ⟨d, e, hd, he, sd, se, q⟩ := h
  obtain ⟨as, r1⟩ := hd.reads I rx
  obtain ⟨bs, r2⟩ := he.reads I ry
  exact eq_dataH r1 r2 sd se hu ⟨.bl _, H, I, rfl, q⟩
theorem op_neD (hu : X.A.units + 64 < cLine) : OpR X (compareOp .NotEq) (rEqD X.K true) := by
  intro pins s σ H x y v u Q I rx ry h
  obtain ⟨d, e, hd, he, sd, se, q⟩ := h
  obtain ⟨as, r1⟩ := hd.reads I rx
  obtain ⟨bs, r2⟩ := he.reads I ry
  exact ne_dataH r1 r2 sd se hu ⟨.bl _, H, I, rfl, q⟩
end
/-! ### the same rules within a comprehension's block -/
section
variable {X : Cx} {scope : Scope} {cl : List (Str × Addr)} {N : List Str} {fp : List Addr} {s : Shared} {H : Hp}
end
end L2

end

section
set_option linter.all false
/-! list(range(a, b)); a list of lists -/
namespace L2
open PySem PySem.Spec PyProof.Rows
section
variable {X : Cx}
def tRng2 (ta : TA) : TE := fun σ H Q => ta σ H fun vs H1 => ∃ i j : Int, vs = [.int i, .int j] ∧ ∀ r, H1 r = none → Q (.ref r) (upd H1 r (.rng i j))
end
end L2

end

section
set_option linter.all false
/-! x in a list of data, where it is not; a comprehension over a list; what keeps tuples -/
namespace L2
open PySem PySem.Spec PyProof.Rows
section
variable {X : Cx} {pins : List (Addr × Obj)} {σ : St} {H : Hp} {s : Shared}
def rNotInD (K : PySem.W.Frag) : R2 := fun x y H Q => ∃ p xs dx ds, y = .ref p ∧ SqL K H p xs ∧ DatIn K H x dx ∧ DatAll K H xs ds ∧ PySem.SeqAt.shaped dx = true ∧ (∀ d ∈ ds, PySem.SeqAt.shaped d = true ∧ PyData.eqv d dx = false) ∧ Q (.bl false) H
end
/-! ### a comprehension over a list that stays -/
/-- every tuple is kept -/
def TupS (H H' : Hp) : Prop := ∀ b xs, H b = some (.tup xs) → H' b = some (.tup xs)
theorem Same.tups {H H' : Hp} (s : Same H H') : TupS H H' := fun b xs e => s b _ e
end L2

end

section
set_option linter.all false
namespace L2
open PySem PySem.Spec PyProof.Rows
section
variable {X : Cx}
def rIndex : V → List V → Hp → VK → Prop := fun x vs H Q => ∃ (l : Addr) (ns : List Int) (i : Int) (j : Nat), x = .ref l ∧ vs = [.int i] ∧ H l = some (.lst (ns.map V.int)) ∧ ns[j]? = some i ∧ (∀ m : Nat, m < j → ns[m]? ≠ some i) ∧ Q (.int j) H
end
end L2

end

section
set_option linter.all false
namespace L2
open PySem PySem.Spec PyProof.Rows PySem.W
section
variable {prog : Program} {w : World} {A : Around} {E : Value → Shared → Prop} {s : Shared} {K : Frag} {x D : Addr} {ox : Obj}
/-- what an own exception's class must have -/
structure XCls (K : Frag) (D : Addr) : Prop where
  ga : findIn K (.ref D) "__getattribute__" = some (some (.builtin "BaseException.__getattribute__"))
  gt : findIn K (.ref D) "__getattr__" = some none
  ca : findIn K (.ref D) "__class__" = some (some (.builtin "object.__class__"))
  cg : specialIn K (.builtin "object.__class__") "__get__" = some (some (.builtin "getset_descriptor.__get__"))
  ct : takesIn K (.builtin "object.__class__") = some true
  mo : mroIn K D (.type "object") = some true
  mb : mroIn K D (.type "BaseException") = some true
  cl : (clsIn K D).isSome = true
theorem xc_find (c : XCls K D) : findObj K D none "__class__" = some (.bind (.builtin "getset_descriptor.__get__") (.builtin "object.__class__")) := by
  obtain ⟨cd, hc⟩ := Option.isSome_iff_exists.mp c.cl
  unfold findObj
  rw [hc, Option.bind_some, c.ca, Option.bind_some]
  simp [c.cg, c.ct]
theorem xc_class {Q : Option Value → Shared → Prop} (c : XCls K D) (X : K.In s.heap) (I : InstAt s.heap x ox D none) (h : Q (some (.ref D)) { s with toks := s.toks + 1 }) :
    wpAny (model prog w) A (getAttr? (.ref x) "__class__") Q E s := by
  obtain ⟨hh, g, d, t, os⟩ := s
  have L0 := I.type (M := model prog w)
  have L1 := looks_findIn (M := model prog w) X c.ga
  have L2 := looks_findIn (M := model prog w) X c.gt
  have L3 := looks_find (M := model prog w) X I (xc_find c)
  have L4 := looks_mroIn (M := model prog w) X c.mb
  have f3 := F.attr_ValueError.ga.bind (.ref x)
  have hx2 : (Value.builtin "BaseException.__getattribute__" == Value.builtin "object.__getattribute__") = false := by decide +kernel
  have hx1 : (onTheHeap (Value.ref D) && Value.builtin "BaseException.__getattribute__" == Value.builtin "object.__getattribute__") = false := by rw [hx2]; rfl
  unfold getAttr? getAttrBy? getAttrBy
  refine wpAny_bind (wpAny_mkText (wpAny_bind (wpAny_attempt (wpAny_holding (wpAny_bind (L0.at (wpAny_bind (L1.at ?_))))))))
  dsimp only
  rw [hx1, if_neg Bool.false_ne_true]
  unfold getAttrByItsOwn hookBefore
  refine wpAny_bind (L2.at ?_)
  refine wpAny_bind (wpAny_attempt (wpAny_holding ?_))
  unfold callGetattribute boundAndCalled
  rw [if_neg (by decide)]
  rw [f3]
  repeat (any_goals (first | assumption | wp_step))
  refine codeAny_call_builtin F.attr_ValueError.ga.plain F.entry_bexc_ga ?_
  have hk : builtinKind "BaseException.__getattribute__" = some .slot := by decide +kernel
  have hsp : splitId "BaseException.__getattribute__" = some ("BaseException", "__getattribute__") := by decide +kernel
  have hao := F.args_bexc_ga (.ref x) (.str (Str.ofString "__class__") t)
  simp only [List.cons_append, List.nil_append]
  simp only [checkBuiltinCall, hk, hsp]
  refine wpAny_bind ?_
  unfold isInstance
  refine wpAny_bind (L0.at ?_)
  refine L4.at ?_
  repeat (any_goals (first | assumption | wp_step))
  refine wpAny_loadPart_at I.at_ (wpAny_pure ?_)
  dsimp only [headPart]
  rw [I.cls]
  refine wpAny_bind (L3.at ?_)
  dsimp only
  unfold Builtin.ObjectAttr.bindTo
  repeat (any_goals (first | assumption | wp_step))
  refine class_get (ox := ox) (od := none) X I c.mo ?_
  dsimp only
  repeat (any_goals (first | assumption | exact h | wp_step))
/-- an exception of an own class, for isinstance -/
theorem kitx_exc (c : XCls K D) : KitX K (.ref x) (.ref D) (fun h => ∃ ox, InstAt h x ox D none) where
  ty := fun _ _ _ ⟨_, I⟩ => I.type
  it := fun _ _ X _ => by
    obtain ⟨cd, hc⟩ := Option.isSome_iff_exists.mp c.cl
    unfold clsIn at hc
    split at hc
    · rename_i ho
      intro A' Q' E' s' k q
      unfold isType loadHead
      exact wpAny_bind (wpAny_loadPart (k _ _ (X _ _ ho)) (wpAny_pure q))
    · cases hc
  ne := fun h tp dd its n sl X htp => by
    obtain ⟨cd, hc⟩ := Option.isSome_iff_exists.mp c.cl
    cases q : (Value.ref D == Value.ref tp) with
    | false => rfl
    | true =>
      have e : D = tp := Value.ref.inj (beq_iff_eq.mp q)
      subst e
      unfold clsIn at hc
      split at hc
      · rename_i ho
        have z := (X _ _ ho).symm.trans htp
        cases z
      · cases hc
  ca := fun X ⟨_, I⟩ k => xc_class c X I k
end
end L2

end

section
set_option linter.all false
namespace L2
open PySem PySem.Spec PyProof.Rows
/-- an exception on its way: B is all that there was when it was made, but the frames -/
structure Fly (B : Heap) (l : List Env) (e : Addr) (cls fl : Value) (h : Heap) : Prop where
  stays : B.StaysIn h
  new : B.get? e = none
  frames : h.FunFrames B l
  exc : ∃ (vs : Array Value) (T : Addr) (ts : Array Value), h.get? e = some { cls := cls, data := .fields vs } ∧ vs[1]? = some (.ref T) ∧ B.get? T = none ∧ T ≠ e ∧
    h.get? T = some { cls := .type "traceback", data := .fields ts } ∧ ts[3]? = some fl
theorem upd_at {h : Heap} {a : Addr} {cls : Value} {vs : Array Value} (f : Array Value → Array Value) (e : h.get? a = some { cls := cls, data := .fields vs }) :
    (h.update a (Obj.mapFields f)).get? a = some { cls := cls, data := .fields (f vs) } :=
  Heap.get?_update_self (Obj.mapFields f) e rfl
theorem upd_off {h : Heap} {a b : Addr} (f : Obj → Obj) (n : b ≠ a) : (h.update a f).get? b = h.get? b := Heap.get?_update_other h f (Ne.symm n)
theorem ne_rec {h : Heap} {b e : Addr} {o : Obj} {c : Value} {vs : Array Value} (e1 : h.get? b = some o) (nf : ∀ ws, o.data ≠ .fields ws) (e2 : h.get? e = some { cls := c, data := .fields vs }) : b ≠ e := by
  rintro rfl
  rw [e1] at e2
  cases e2
  exact nf vs rfl
theorem fr_notrec {B h : Heap} {l : List Env} {e : Addr} {c : Value} {vs : Array Value} (hl : h.FunFrames B l) (e2 : h.get? e = some { cls := c, data := .fields vs }) : e ∉ l.filterMap (·.frame) := fun hm => by
  obtain ⟨_, o, ho, nf⟩ := hl.mem hm
  exact ne_rec ho nf e2 rfl
theorem stays_off {B h : Heap} {a : Addr} {f : Obj → Obj} (s : B.StaysIn h) (n : B.get? a = none) : B.StaysIn (h.update a f) := fun b o e => by
  rw [upd_off f (fun z => by rw [z, n] at e; cases e)]
  exact s b o e
section
variable {M : Model} {A : Around} {E : Value → Shared → Prop} {s : Shared} {B : Heap} {env : Env} {outer l : List Env} {L e : Addr} {cls fl head : Value} {vs : Array Value} {Q : Unit → Shared → Prop}
/-- the frame is entered in the exception's record -/
theorem fly_entry {had : Bool} (hfr : A.frames = some (env :: outer)) (hl : s.heap.FunFrames B (env :: outer)) (hf : env.frame = some L) (hB : B.StaysIn s.heap)
    (he : s.heap.get? e = some { cls := cls, data := .fields vs }) (hne : B.get? e = none) (hsz : 1 < vs.size)
    (q : ∀ h', Fly B (env :: outer) e cls (rawInt L) h' → s.heap.UpToSlots h' → Q () { s with heap := h' }) :
    wpAny M A (do let a ← frameOf env; let pl ← entryPlaceOf L had; let b ← EntryCells.newEntry head a .none (rawInt L) .none pl; setField (.ref e) 1 b) Q E s := by
  have nfr := fr_notrec hl he
  refine wpAny_bind (wpAny_frameOf_fun hfr hl hf fun h1 so => wpAny_bind (wpAny_entryPlaceOf fun pl hpl => ?_))
  unfold EntryCells.newEntry newFields
  refine wpAny_bind (wpAny_newObj_type ?_ (hpl.sizeOk5 _ _ _ _ _))
  have z1 : h1.objs.size = s.heap.objs.size := so.1
  have e1 : h1.get? e = some { cls := cls, data := .fields vs } := (so.2.1 e nfr).trans he
  have b1 : B.StaysIn h1 := fun b o ho => (so.2.1 b fun hm => by rw [(hl.mem hm).1] at ho; cases ho).trans (hB b o ho)
  generalize hob : (([head, Value.ref L, .none, rawInt L, .none] ++ (if pl.isEmpty then List.replicate 6 Value.none else pl)).toArray : Array Value) = ts
  have t3 : ts[3]? = some (rawInt L) := by
    rw [← hob]
    rfl
  have e2 := Heap.get?_push_of_some (h := h1) { cls := .type "traceback", dict := none, data := .fields ts } e1
  refine wpAny_setField e2 rfl hsz (q _ ?_ ?_)
  · have te : h1.objs.size ≠ e := Nat.ne_of_gt (Heap.lt_size e1)
    refine ⟨fun b o ho => ?_, hne, ?_, _, h1.objs.size, ts, upd_at _ e2, by simp [hsz], b1.fresh, te, ?_, t3⟩
    · rw [upd_off _ (fun z => by rw [z, hne] at ho; cases ho)]
      exact Heap.get?_push_of_some _ (b1 b o ho)
    · refine hl.of_keeps fun b o ho nf => ?_
      obtain ⟨sl, hs⟩ := so.2.2 b o ho
      refine ⟨{ o with slots := sl }, ?_, rfl⟩
      rw [upd_off _ (ne_rec ho nf he)]
      exact Heap.get?_push_of_some _ hs
    · rw [upd_off _ te]
      exact Heap.get?_push_size h1 rfl
  · intro b o ho nf
    obtain ⟨sl, hs⟩ := so.2.2 b o ho
    refine ⟨sl, ?_⟩
    rw [upd_off _ (ne_rec ho nf he)]
    exact Heap.get?_push_of_some _ hs
/-- it is set down -/
theorem fly_land (F : Fly B l e cls fl s.heap) (q : ∀ h', Fly B l e cls .none h' → s.heap.UpToSlots h' → Q () { s with heap := h' }) : wpAny M A (setFlight (.ref e) none) Q E s := by
  obtain ⟨st, nw, fr, vs, T, ts, he, h1, hT, te, eT, h3⟩ := F
  have z3 : 3 < ts.size := (Array.getElem?_eq_some_iff.mp h3).1
  unfold setFlight
  refine wpAny_bind (wpAny_field he rfl h1 ?_)
  rw [if_pos (show (Value.ref T != Value.none) = true from by simp)]
  have keep : ∀ b o, s.heap.get? b = some o → (∀ ws, o.data ≠ .fields ws) → (s.heap.update T (Obj.mapFields (·.setIfInBounds 3 ((none : Option Addr).elim Value.none fun f => rawInt f)))).get? b = some o := fun b o ho nf => by
    rw [upd_off _ (ne_rec ho nf eT)]
    exact ho
  refine wpAny_setField eT rfl z3 (q _ ⟨stays_off st hT, nw, fr.of_keeps fun b o ho nf => ⟨o, keep b o ho nf, rfl⟩, vs, T, _, ?_, h1, hT, te, upd_at _ eT, by simp [z3]⟩ fun b o ho nf => ⟨o.slots, keep b o ho nf⟩)
  rw [upd_off _ (Ne.symm te)]
  exact he
/-- a frame that it comes to -/
theorem fly_note (hfr : A.frames = some (env :: outer)) (hf : env.frame = some L) (F : Fly B (env :: outer) e cls .none s.heap)
    (q : ∀ h', Fly B (env :: outer) e cls (rawInt L) h' → s.heap.UpToSlots h' → Q () { s with heap := h' }) : wpAny M A (noteFrame (.ref e) env) Q E s := by
  obtain ⟨st, nw, fr, vs, T, ts, he, h1, hT, te, eT, h3⟩ := F
  have z3 : 3 < ts.size := (Array.getElem?_eq_some_iff.mp h3).1
  unfold noteFrame
  simp only [hf]
  refine wpAny_bind (wpAny_field he rfl h1 ?_)
  rw [if_pos (show (Value.ref T != Value.none) = true from by simp)]
  refine wpAny_bind (wpAny_field eT rfl h3 ?_)
  rw [if_neg (show ¬ ((Value.none == rawInt L) = true) from by simp [rawInt])]
  have keep : ∀ b o, s.heap.get? b = some o → (∀ ws, o.data ≠ .fields ws) → (s.heap.update T (Obj.mapFields (·.setIfInBounds 3 Value.none))).get? b = some o := fun b o ho nf => by
    rw [upd_off _ (ne_rec ho nf eT)]
    exact ho
  refine wpAny_bind (wpAny_setField eT rfl z3 ?_)
  refine fly_entry (vs := vs) hfr (fr.of_keeps fun b o ho nf => ⟨o, keep b o ho nf, rfl⟩) hf (stays_off st hT) ?_ nw (Array.getElem?_eq_some_iff.mp h1).1 fun h' F' u => q h' F' fun b o ho nf => u b o (keep b o ho nf) nf
  · rw [upd_off _ (Ne.symm te)]
    exact he
/-- it leaves a frame -/
theorem fly_leave (hfr : A.frames = some (env :: outer)) (hf : env.frame = some L) (F : Fly B (env :: outer) e cls .none s.heap)
    (q : ∀ h', Fly B outer e cls .none h' → s.heap.UpToSlots h' → Q () { s with heap := h' }) : wpAny M A (leaving env (.ref e)) Q E s := by
  unfold leaving
  refine wpAny_bind (fly_note hfr hf F fun h1 F1 u1 => fly_land (s := { s with heap := h1 }) F1 fun h2 F2 u2 => q h2 ⟨F2.stays, F2.new, F2.frames.2.2, F2.exc⟩ (u1.trans u2))
/-- a new one leaves its first frame -/
theorem fly_first (hfr : A.frames = some (env :: outer)) (hl : s.heap.FunFrames B (env :: outer)) (hf : env.frame = some L) (hB : B.StaysIn s.heap)
    (he : s.heap.get? e = some { cls := cls, data := .fields vs }) (hne : B.get? e = none) (h1 : vs[1]? = some .none)
    (q : ∀ h', Fly B outer e cls .none h' → s.heap.UpToSlots h' → Q () { s with heap := h' }) : wpAny M A (leaving env (.ref e)) Q E s := by
  unfold leaving noteFrame
  simp only [hf]
  refine wpAny_bind (wpAny_bind (wpAny_field he rfl h1 ?_))
  rw [if_neg (by decide)]
  exact fly_entry hfr hl hf hB he hne (Array.getElem?_eq_some_iff.mp h1).1 fun h2 F1 u1 => fly_land (s := { s with heap := h2 }) F1 fun h3 F2 u2 => q h3 ⟨F2.stays, F2.new, F2.frames.2.2, F2.exc⟩ (u1.trans u2)
end
end L2

end

section
set_option linter.all false
namespace L2
open PySem PySem.Spec PyProof.Rows
/-- how an exception lies behind a call -/
def CXE (P : Program) (w : World) : CXT := fun outer H s E e s' => ∃ (a : Addr) (cls : Value) (H' : Hp) (B : Heap), e = .ref a ∧ s'.os = s.os ∧ AllBare s'.gens ∧ Un (frs outer) [] H H' s.heap s'.heap ∧ HOk P w H' B ∧
  (∀ b o, s.heap.get? b = some o → b ∉ frs outer → ∃ o', B.get? b = some o' ∧ (H b = none → o' = o)) ∧ Fly B outer a cls .none s'.heap ∧ E cls none H'
theorem cxe_no {P : Program} {w : World} {outer : List Env} {H : Hp} {s : Shared} {e : Value} {s' : Shared} : ¬ CXE P w outer H s (fun _ _ _ => False) e s' := fun ⟨_, _, _, _, _, _, _, _, _, _, _, z⟩ => z
theorem ObjOk.ob {P : Program} {w : World} {H : Hp} {h : Heap} {a : Addr} {o : HO} (x : ObjOk P w H h a o) : ∃ u, h.get? a = some u := by
  cases o with
  | lst xs => obtain ⟨_, _, _, _, e⟩ := x; exact ⟨_, e⟩
  | tup xs => obtain ⟨_, _, _, ob, e, _⟩ := x; exact ⟨_, e⟩
  | dK kvs => obtain ⟨_, _, _, _, ob, _, _, e, _⟩ := x; exact ⟨_, e⟩
  | dT kvs => obtain ⟨_, _, _, _, ob, _, _, e, _⟩ := x; exact ⟨_, e⟩
  | set S n => obtain ⟨ob, _, _, _, e, _⟩ := x; exact ⟨_, e⟩
  | ins C dx fs => obtain ⟨_, _, _, e, _⟩ := x; exact ⟨_, e⟩
  | own y => exact x
  | xd fs => obtain ⟨_, ⟨ob, _, _, e, _⟩, _⟩ := x; exact ⟨_, e⟩
  | rng lo hi => obtain ⟨_, _, _, e⟩ := x; exact ⟨_, e⟩
  | frz ob u => obtain ⟨e, _⟩ := x; exact ⟨_, e⟩
  | tbl ps => exact ⟨_, x⟩
  | met f y => exact ⟨_, x⟩
  | ext φ => obtain ⟨_, e, _⟩ := x; exact e
theorem HOk.at_none {P : Program} {w : World} {H : Hp} {h : Heap} {a : Addr} (x : HOk P w H h) (e : h.get? a = none) : H a = none := by
  cases q : H a with
  | none => rfl
  | some o =>
    obtain ⟨u, z⟩ := (x a o q).ob
    rw [e] at z
    cases z
section
variable {X : Cx} {pins : List (Addr × Obj)} {σ : St} {H H' : Hp} {s s' : Shared} {B h'' : Heap} {a : Addr} {cls : Value} {E : XK}
theorem Inv.notLoc (I : Inv X pins σ H s) {b : Addr} {o : Obj} (e : X.s₀.heap.get? b = some o) : b ≠ X.env.locals := Nat.ne_of_lt (Nat.lt_of_lt_of_le (Heap.lt_size e) I.ok.above)
theorem Inv.notStk (I : Inv X pins σ H s) {b : Addr} {o : Obj} (e : X.s₀.heap.get? b = some o) (n : b ∉ X.fs) : b ∉ frs X.stack := fun hb => by
  rcases List.mem_cons.mp (I.stkSub b hb) with z | z
  · exact I.notLoc e z
  · exact n z
/-- seen from the body's entry -/
theorem cxe_entry (I : Inv X pins σ H s) (hex : X.ex = []) (os : s'.os = s.os) (bare : AllBare s'.gens) (un : Un (frs X.stack) [] H H' s.heap s'.heap) (hok : HOk X.prog X.w H' B)
    (kB : ∀ b o, s.heap.get? b = some o → b ∉ frs X.stack → ∃ o', B.get? b = some o' ∧ (H b = none → o' = o)) (F : Fly B X.outer a cls .none h'') (u : s'.heap.UpToSlots h'') (q : E cls none H') :
    CXE X.prog X.w X.outer X.H₀ X.s₀ E (.ref a) { s' with heap := h'' } := by
  have nx : ∀ b : Addr, b ∉ X.ex := fun b z => by rw [hex] at z; cases z
  refine ⟨a, cls, H', B, rfl, os.trans I.os, bare, ⟨fun b o e n hb _ => ?_, fun b o e n hb _ => ?_, fun b o e n _ => ?_, fun b o e _ => ?_, fun b xs e => un.tups b xs (I.base.tups b xs e), fun b o v e => un.frzs b o v (I.base.frzs b o v e), fun b ps e => ?_⟩, hok, fun b o e hb => ?_, F, q⟩
  · obtain ⟨o', e1, e2⟩ := kB b o (I.base.keep b o e n hb (nx b)) (I.notStk e hb)
    rw [e2 (I.base.free b o e n (nx b))] at e1
    exact F.stays b o e1
  · obtain ⟨_, o0, e0, nf⟩ := I.ok.funs.mem hb
    rw [e] at e0
    cases e0
    obtain ⟨sl, e1⟩ := I.base.slot b o e n hb (nx b)
    obtain ⟨sl', e2⟩ := un.any e1 (I.base.free b o e n (nx b)) (by simp)
    obtain ⟨sl'', e3⟩ := u b _ e2 nf
    exact ⟨sl'', e3⟩
  · obtain ⟨o', e1⟩ := I.base.there b o e (nx b)
    exact un.free b o' e1 (I.base.free b o e n (nx b)) (by simp)
  · by_cases hb : b ∈ X.fs
    · obtain ⟨_, o0, e0, nf⟩ := I.ok.funs.mem hb
      rw [e] at e0
      cases e0
      have n := I.ok.frf b hb
      obtain ⟨sl, e1⟩ := I.base.slot b o e n hb (nx b)
      obtain ⟨sl', e2⟩ := un.any e1 (I.base.free b o e n (nx b)) (by simp)
      obtain ⟨sl'', e3⟩ := u b _ e2 nf
      exact ⟨_, e3⟩
    · obtain ⟨o', e1⟩ := I.base.there b o e (nx b)
      obtain ⟨o2, e2, _⟩ := kB b o' e1 (I.notStk e hb)
      exact ⟨o2, F.stays b o2 e2⟩
  · obtain ⟨m1, e1⟩ := I.base.tbls b ps e
    obtain ⟨m2, e2⟩ := un.tbls b _ e1
    exact ⟨m1 ++ m2, by rw [e2, Array.append_assoc]⟩
  · obtain ⟨o', e1⟩ := I.base.there b o e (nx b)
    obtain ⟨o2, e2, e3⟩ := kB b o' e1 (I.notStk e hb)
    refine ⟨o2, e2, fun n => ?_⟩
    have := I.base.keep b o e n hb (nx b)
    rw [e1] at this
    cases this
    exact e3 (I.base.free b o e n (nx b))
/-- a def's body: what its callees raise goes on -/
theorem pass_E {P : Program} {w : World} {K : PySem.W.Frag} {mg : Str → Option Value} {base : Heap} {N : List Str} {qual : Str} {scope : Scope} {f : Addr} {cd : Value} {A : Around} {outer : List Env} {s₀ : Shared} {H₀ : Hp} {E : XK} :
    Passes (CXE P w) (cxOf (CXE P w) P w K mg base N qual scope f cd A outer s₀ H₀ E) E := by
  intro pins σ H s e s' I h
  obtain ⟨a, cls, H', B, rfl, os, bare, un, hok, kB, F, q⟩ := h
  refine fly_leave (L := s₀.heap.objs.size) I.ok.frames rfl F fun h' F' u => ?_
  exact cxe_entry I rfl os bare un hok kB F' u q
/-- what is wanted where an exception is made -/
def Raises (X : Cx) (E : XK) : Prop := ∀ (pins : List (Addr × Obj)) (σ : St) (H : Hp) (s : Shared) (cls : Value) (h' : Heap) (e : Addr) (vs : List Value), Inv X pins σ H s → Heap.MadeExcOf s.heap h' e cls vs → E cls none H → X.xe (.ref e) { s with heap := h' }
theorem raise_E {P : Program} {w : World} {K : PySem.W.Frag} {mg : Str → Option Value} {base : Heap} {N : List Str} {qual : Str} {scope : Scope} {f : Addr} {cd : Value} {A : Around} {outer : List Env} {s₀ : Shared} {H₀ : Hp} {E : XK} :
    Raises (cxOf (CXE P w) P w K mg base N qual scope f cd A outer s₀ H₀ E) E := by
  intro pins σ H s cls h1 e vs I md q
  obtain ⟨t, he, _, _⟩ := md.there
  have hB : (PySem.W.hideAll s.heap (frs (envOfC qual scope s₀.heap.objs.size f cd :: outer))).StaysIn h1 := fun b o z => md.keeps b o (PySem.W.of_hideAll _ z)
  have hl : h1.FunFrames (PySem.W.hideAll s.heap (frs (envOfC qual scope s₀.heap.objs.size f cd :: outer))) (envOfC qual scope s₀.heap.objs.size f cd :: outer) := by
    refine (PySem.W.funFrames_hide I.stack fun env he b hb => List.mem_filterMap.mpr ⟨env, he, hb⟩).of_keeps fun b o ho _ => ⟨o, md.keeps b o ho, rfl⟩
  have hne : (PySem.W.hideAll s.heap (frs (envOfC qual scope s₀.heap.objs.size f cd :: outer))).get? e = none := by
    cases z : (PySem.W.hideAll s.heap (frs (envOfC qual scope s₀.heap.objs.size f cd :: outer))).get? e with
    | none => rfl
    | some o =>
      have := PySem.W.of_hideAll _ z
      rw [md.new] at this
      cases this
  have hok : HOk P w H (PySem.W.hideAll s.heap (frs (envOfC qual scope s₀.heap.objs.size f cd :: outer))) := fun b o z => by
    refine (I.hok b o z).stay (fun c v hc ho => PySem.W.hideAll_get _ ho fun hm => ?_) (fun _ z => z) fun _ _ z => z
    have n := I.stkFree c hm
    rcases hc with rfl | hc
    · rw [z] at n; cases n
    · rw [hc] at n; cases n
  refine fly_first (L := s₀.heap.objs.size) (s := { s with heap := h1 }) I.ok.frames hl rfl hB he hne rfl fun h' F u => ?_
  refine cxe_entry (s' := { s with heap := h1 }) I rfl rfl I.bare (Un.kept fun b o z => md.keeps b o z) hok (fun b o z nb => ⟨o, PySem.W.hideAll_get _ z nb, fun _ => rfl⟩) F u q
end
/-! ### raise C(e) -/
theorem exc_obj {K : PySem.W.Frag} {h : Heap} {C : Addr} {bmB : List Value} {newId : String} (X : K.In h) (q : PySem.W.excIn K C bmB newId = true) :
    ∃ (bm : List Value) (N : Addr) (nm qn : Str) (bs : List Value) (hdct : Bool) (sn : List Str) (sub : List Value) (ab : Bool) (col : Option Bool) (dd : Option Addr) (k0 k1 k2 k3 k5 : Option Value) (mN : Str → Option Value),
      h.get? C = some (excClassObj nm qn C N bs bm hdct sn sub ab col dd k0 k1 k2 k3 k5 newId) ∧ h.Ns N mN ∧ mN "__init__" = none ∧ OwnTail h bmB bm := by
  unfold PySem.W.excIn at q
  split at q
  · rename_i dd cd sl ho
    split at q
    · rename_i C' bm k0 k1 k2 k3 n k5 hm hs
      obtain ⟨nm, bs, mro, ns, qn, hd, sn, sub, ab, col, del⟩ := cd
      obtain ⟨sl⟩ := sl
      simp only [Bool.and_eq_true, beq_iff_eq, Bool.not_eq_true'] at q hm hs
      obtain ⟨⟨⟨⟨⟨q1, q2⟩, q3⟩, q4⟩, q5⟩, q6⟩ := q
      subst q1 q2 hm q3 hs
      exact ⟨_, _, _, _, _, _, _, _, _, _, _, _, _, _, _, _, _, X _ _ ho, .of_isNs (PySem.W.isNs_of_in X q5), PySem.W.nsMap_none_of_in X q5 q6, PySem.W.tail_of_in X q4⟩
    · cases q
  · cases q
section
variable {X : Cx} {x : Str} {C : Addr} {np cpos pos : Pos} {e : Expr} {te : TE} {E : XK}
def tRaise (C : Addr) (E : XK) (te : TE) : TS := fun _ σ H => te σ H fun _ H1 => E (.ref C) none H1
theorem ps_raise (hc : X.calm = true) (R : Raises X E) (hg : Gl X x) (hm : X.mg x = some (.ref C)) (q : PySem.W.excIn X.K C [.type "ValueError", .type "Exception", .type "BaseException", .type "object"] "ValueError.__new__" = true)
    (he : PE X e te) (hs : starEach [e] X.env = (false, eval e X.env) :: starEach [] X.env := by rfl) (hdb : (x == ("__debug__" : Str)) = false := by decide) :
    PS X (.Raise (some (.Call (.Name x np) [e] [] cpos)) none pos) (tRaise C E te) := by
  intro pins s σ H D I h
  obtain ⟨bm, N, nm, qn, bs, hdct, sn, sub, ab, col, dd, k0, k1, k2, k3, k5, mN, hC, hN, hni, T⟩ := exc_obj I.ok.mod.kin q
  refine wpAny_Raise_call_subT (C := C) (nm := nm) (q := qn) (N := N) (bs := bs) (bm := bm) (hdct := hdct) (sn := sn) (sub := sub) (ab := ab) (col := col) (dd := dd) (k0 := k0) (k1 := k1) (k2 := k2) (k3 := k3) (k5 := k5)
    PySem.F.excBase_ValueError (mN := mN) (T.hasType PySem.F.excBase_ValueError.hasBase) (I.ok.hd hc) (by rw [hs]; rfl) hni (ld_glob I hg hm ?_ hdb)
  refine ⟨rfl, ?_⟩
  rw [hs]
  refine Calls.evalArgs_plain ?_
  refine Calls.spliced_cons (thn (he pins s σ H _ I h) fun v s1 ⟨y, H1, I1, r1, q1⟩ => Calls.spliced_nil ⟨rfl, by show 1 ≤ sizeLine; decide, ?_⟩)
  exact ⟨I1.bk _ _ hC, hN.keeps I1.bk, T.keeps I1.bk, fun h' e' md => R pins σ H1 s1 (.ref C) h' e' _ I1 md q1⟩
end
end L2

end

section
set_option linter.all false
namespace L2
open PySem PySem.Spec PyProof.Rows
/-- an exception that was caught: its class -/
def excO (a C : Addr) : HO := .ext fun h => ∃ vs, h.get? a = some { cls := .ref C, data := .fields vs }
/-- a class of exceptions of the text -/
structure XKind (K : PySem.W.Frag) (F C : Addr) : Prop where
  ex : PySem.W.excIn K C [.type "ValueError", .type "Exception", .type "BaseException", .type "object"] "ValueError.__new__" = true
  sub : PySem.W.mroIn K C (.ref F) = some true
theorem exc_match {K : PySem.W.Frag} {M : Model} {A : Around} {E : Value → Shared → Prop} {s : Shared} {F C a : Addr} {vs : Array Value} {Q : Bool → Shared → Prop} (X : K.In s.heap) (kF : XKind K F F) (kC : XKind K F C)
    (he : s.heap.get? a = some { cls := .ref C, data := .fields vs }) (q : Q true s) : wpAny M A (excMatches (.ref a) (.ref F)) Q E s := by
  obtain ⟨h, g, d, t, os⟩ := s
  obtain ⟨bm, N, nm, qn, bs, hdct, sn, sub, ab, col, dd, k0, k1, k2, k3, k5, mN, hC, _, _, T⟩ := exc_obj X kF.ex
  have hcB : (Value.ref F :: bm).contains (.type "BaseException") = true := by
    rw [List.contains_cons, T.hasType PySem.F.excBase_ValueError.hasBase, Bool.or_true]
  have L := PySem.W.looks_mroIn (M := M) X kC.sub
  have f := tc_notTuple
  have he' : h.get? a = some { cls := .ref C, data := .fields vs } := he
  unfold excMatches
  repeat (first | with_reducible refine wpAny_loadPart_at he' ?_ | with_reducible refine wpAny_loadPart_at hC ?_ | with_reducible refine PySem.W.Looks.at L ?_ | (with_reducible refine wpAny_isSubtype_exc hC ?_; rw [hcB]) | wp_step)
  exact q
section
variable {X : Cx} {pins : List (Addr × Obj)} {σ : St} {H H' : Hp} {s s' : Shared} {B h2 : Heap} {a C : Addr} {E : XK}
/-- it isn't among what there was at the call -/
theorem fly_new (I : Inv X pins σ H s) (kB : ∀ b o, s.heap.get? b = some o → b ∉ frs X.stack → ∃ o', B.get? b = some o' ∧ (H b = none → o' = o)) {fl cls : Value} (F : Fly B X.stack a cls fl s'.heap) (u : ∀ b o, s.heap.get? b = some o → b ∈ frs X.stack → (∀ ws, o.data ≠ .fields ws) → ∃ sl, s'.heap.get? b = some { o with slots := sl }) : s.heap.get? a = none := by
  cases z : s.heap.get? a with
  | none => rfl
  | some o =>
    by_cases hb : a ∈ frs X.stack
    · obtain ⟨_, o', e1, nf⟩ := F.frames.mem hb
      obtain ⟨vs, _, _, e2, _⟩ := F.exc
      rw [e1] at e2
      cases e2
      exact absurd rfl (nf vs)
    · obtain ⟨o', e1, _⟩ := kB a o z hb
      rw [F.new] at e1
      cases e1
theorem inv_caught {t' : Nat} {fl : Value} (I : Inv X pins σ H s) (os : s'.os = s.os) (bare : AllBare s'.gens) (un : Un (frs X.stack) [] H H' s.heap s'.heap) (hok : HOk X.prog X.w H' B)
    (kB : ∀ b o, s.heap.get? b = some o → b ∉ frs X.stack → ∃ o', B.get? b = some o' ∧ (H b = none → o' = o)) (F : Fly B X.stack a (.ref C) fl h2) (u : s'.heap.UpToSlots h2) :
    H' a = none ∧ Inv X pins σ (upd H' a (excO a C)) { s' with heap := h2, toks := t' } := by
  have n' : H' a = none := hok.at_none F.new
  have na : s.heap.get? a = none := by
    refine fly_new (s' := { s' with heap := h2 }) I kB F fun b o e hb nf => ?_
    obtain ⟨sl, e1⟩ := un.any e (I.stkFree b hb) (by simp)
    obtain ⟨sl', e2⟩ := u b _ e1 nf
    exact ⟨sl', e2⟩
  have ne : ∀ b o, s.heap.get? b = some o → b ≠ a := fun b o e z => by rw [z, na] at e; cases e
  obtain ⟨vs, T, ts, he, _⟩ := F.exc
  refine ⟨n', I.call' (s' := { s' with heap := h2, toks := t' }) (ch := []) os ⟨fun b o e n hb _ => ?_, fun b o e n hb _ => ?_, fun b o e n _ => ?_, fun b o e _ => ?_, fun b xs e => ?_, fun b o v e => ?_, fun b ps e => ?_⟩ (fun b o e => ?_) bare (fun b z => nomatch z)⟩
  · obtain ⟨o', e1, e2⟩ := kB b o e hb
    rw [e2 n] at e1
    exact F.stays b o e1
  · obtain ⟨_, o0, e0, nf⟩ := I.stack.mem hb
    rw [e] at e0
    cases e0
    obtain ⟨sl, e1⟩ := un.any e n (by simp)
    obtain ⟨sl', e2⟩ := u b _ e1 nf
    exact ⟨sl', e2⟩
  · rw [upd_ne (ne b o e)]
    exact un.free b o e n (by simp)
  · by_cases hb : b ∈ frs X.stack
    · obtain ⟨_, o0, e0, nf⟩ := I.stack.mem hb
      rw [e] at e0
      cases e0
      obtain ⟨sl, e1⟩ := un.any e (I.stkFree b hb) (by simp)
      obtain ⟨sl', e2⟩ := u b _ e1 nf
      exact ⟨_, e2⟩
    · obtain ⟨o', e1, _⟩ := kB b o e hb
      exact ⟨o', F.stays b o' e1⟩
  · have := un.tups b xs e
    rw [upd_ne (ne_of_none this n')]
    exact this
  · have := un.frzs b o v e
    rw [upd_ne (ne_of_none this n')]
    exact this
  · obtain ⟨m, e1⟩ := un.tbls b ps e
    exact ⟨m, by rw [upd_ne (ne_of_none e1 n')]; exact e1⟩
  · by_cases hb : b = a
    · subst hb
      rw [upd_same] at e
      cases e
      exact ⟨⟨vs, he⟩, ⟨_, he⟩, fun h3 h4 ⟨ws, z⟩ k => ⟨ws, k _ z⟩⟩
    · rw [upd_ne hb] at e
      exact (hok b o e).stay (fun c v _ z => F.stays c v z) (fun c z => by rw [upd_ne (ne_of_none z n')]; exact z) fun c xs z => by rw [upd_ne (ne_of_none z n')]; exact z
/-- a local name is gone -/
theorem Inv.unset {i t' : Nat} {n : Str} {h' : Heap} (I : Inv X pins σ H s) (hN : X.N.Nodup) (hi : X.N[i]? = some n) (hs : Heap.SameBut X.env.locals s.heap h')
    (hm : ∃ m, s.heap.Ns X.env.locals m ∧ (∃ v, h'.Ns X.env.locals fun x => if x = n then v else m x) ∧ ∀ (j : Nat) (x : Str) (v : V), X.N[j]? = some x → σ[j]? = some (some v) → Vis X.env.scope x → ∃ u, RelV v u ∧ Look X.env s.heap m x u) :
    Inv X pins (σ.set i none) H { s with heap := h', toks := t' } := by
  have nl : ∀ b o, X.s₀.heap.get? b = some o → b ≠ X.env.locals := fun b o e => I.notLoc e
  refine ⟨I.ok, I.os, I.bare, ⟨fun b o e n' hb hx => ?_, fun b o e n' hb hx => ?_, I.base.free, fun b o e hx => ?_, I.base.tups, I.base.frzs, I.base.tbls⟩, ?_, fun x c e => ?_, I.free, I.freeC, fun p hp => ?_, fun b o e => ?_, by simpa using I.len⟩
  · exact (hs.2 b (nl b o e)).trans (I.base.keep b o e n' hb hx)
  · obtain ⟨sl, e1⟩ := I.base.slot b o e n' hb hx
    exact ⟨sl, (hs.2 b (nl b o e)).trans e1⟩
  · obtain ⟨o', e1⟩ := I.base.there b o e hx
    exact ⟨o', (hs.2 b (nl b o e)).trans e1⟩
  · obtain ⟨m, _, ⟨v, hv⟩, hl⟩ := hm
    refine ⟨_, hv, fun j x v' e1 e2 e3 => ?_⟩
    by_cases hj : j = i
    · subst hj
      have : j < σ.length := by
        rw [I.len]
        exact (List.getElem?_eq_some_iff.mp e1).1
      rw [List.getElem?_set_self this] at e2
      cases e2
    · rw [List.getElem?_set_ne (Ne.symm hj)] at e2
      obtain ⟨u, r, l⟩ := hl j x v' e1 e2 e3
      refine ⟨u, r, ?_⟩
      rcases l with ⟨k, e⟩ | ⟨k, c, e, z⟩
      · refine .inl ⟨k, ?_⟩
        have : x ≠ n := fun z => hj (nodup_ix hN e1 (z ▸ hi))
        simp [this, e]
      · exact .inr ⟨k, c, e, z.sameBut hs (I.cne x c e)⟩
  · obtain ⟨v, z⟩ := I.cell x c e
    exact ⟨v, z.sameBut hs (I.cne x c e)⟩
  · obtain ⟨e, n', ne, nf, d⟩ := I.pin p hp
    exact ⟨(hs.2 p.1 ne).trans e, n', ne, nf, d⟩
  · refine (I.hok b o e).stay (fun c v hc z => (hs.2 c ?_).trans z) (fun _ z => z) fun _ _ z => z
    rintro rfl
    rcases hc with rfl | hc
    · rw [I.free] at e; cases e
    · rw [I.free] at hc; cases hc
end
/-- within an except suite -/
abbrev Cx.marked (X : Cx) (a : Addr) : Cx := { X with A := X.A.mark (some (.ref a)), calm := false, xe := fun _ _ => False }
/-- within a try's body -/
abbrev Cx.tried (X : Cx) (xe : Value → Shared → Prop) (pn : List (Addr × Obj)) : Cx := { X with xe := xe, pn := pn }
section
variable {X : Cx} {pins : List (Addr × Obj)} {σ : St} {H : Hp} {s : Shared}
theorem Inv.mark (I : Inv X pins σ H s) (a : Addr) : Inv (X.marked a) pins σ H s :=
  ⟨⟨I.ok.mod, I.ok.kind, I.ok.glob, I.ok.blt, I.ok.above, I.ok.inj, I.ok.has, I.ok.cab, fun z => Bool.noConfusion z, I.ok.frames, I.ok.stk, I.ok.exf, I.ok.bs, I.ok.bsz, I.ok.noex, I.ok.exfs, I.ok.funs, I.ok.frf⟩, I.os, I.bare, I.base, I.loc, I.cell, I.free, I.freeC, I.pin, I.hok, I.len⟩
theorem Inv.unmark {a : Addr} (I : Inv (X.marked a) pins σ H s) (ok : X.Ok) : Inv X pins σ H s := ⟨ok, I.os, I.bare, I.base, I.loc, I.cell, I.free, I.freeC, I.pin, I.hok, I.len⟩
theorem Inv.try' {xe : Value → Shared → Prop} (I : Inv X pins σ H s) : Inv (X.tried xe (X.pn ++ pins)) [] σ H s :=
  ⟨⟨I.ok.mod, I.ok.kind, I.ok.glob, I.ok.blt, I.ok.above, I.ok.inj, I.ok.has, I.ok.cab, I.ok.hd, I.ok.frames, I.ok.stk, I.ok.exf, I.ok.bs, I.ok.bsz, I.ok.noex, I.ok.exfs, I.ok.funs, I.ok.frf⟩, I.os, I.bare, I.base, I.loc, I.cell, I.free, I.freeC, fun p hp => I.pin p (by simpa using hp), I.hok, I.len⟩
theorem Inv.untry {xe : Value → Shared → Prop} {pj : List (Addr × Obj)} (ok : X.Ok) (I : Inv (X.tried xe (X.pn ++ pins)) pj σ H s) : Inv X pins σ H s :=
  ⟨ok, I.os, I.bare, I.base, I.loc, I.cell, I.free, I.freeC, fun p hp => I.pin p (List.mem_append_left _ hp), I.hok, I.len⟩
theorem SP.untry {xe : Value → Shared → Prop} {D : Ends} {f : Flow} {s' : Shared} (ok : X.Ok) (h : SP (X.tried xe (X.pn ++ pins)) [] D f s') : SP X pins D f s' := by
  cases f with
  | next => obtain ⟨σ', H', I, q⟩ := h; exact ⟨σ', H', I.untry ok, q⟩
  | brk => obtain ⟨σ', H', I, q⟩ := h; exact ⟨σ', H', I.untry ok, q⟩
  | cont => obtain ⟨σ', H', I, q⟩ := h; exact ⟨σ', H', I.untry ok, q⟩
  | ret u => obtain ⟨v, σ', H', I, r, q⟩ := h; exact ⟨v, σ', H', I.untry ok, r, q⟩
end
/-- what a try wants of an exception -/
def EXc (X : Cx) (F : Addr) (i : Nat) (ts : TS) (D : Ends) : XK := fun cls _ H' => ∃ C, cls = .ref C ∧ XKind X.K F C ∧ ∀ (a : Addr) (σ : St), σ.length = X.N.length → H' a = none →
  ts { nx := fun σ' H2 => D.nx (σ'.set i none) H2, rt := D.rt, bk := fun σ' H2 => D.bk (σ'.set i none) H2, ct := fun σ' H2 => D.ct (σ'.set i none) H2 } (σ.set i (some (.ref a))) (upd H' a (excO a C))
def tTry (X : Cx) (F : Addr) (i : Nat) (tb : XK → TS) (ts : TS) : TS := fun D σ H => tb (EXc X F i ts D) D σ H
theorem ps_try {X : Cx} {F : Addr} {i : Nat} {x n : Str} {np hpos pos : Pos} {body : List Stmt} {b₀ : Stmt} {suite : List Stmt} {tb : XK → TS} {ts : TS} (hN : X.N.Nodup) (hi : X.N[i]? = some n) (hl : X.env.kindOf n = some .local) (hst : X.stack = X.env :: X.outer) (hf : X.env.frame = some X.env.locals)
    (hg : Gl X x) (hm : X.mg x = some (.ref F)) (kF : XKind X.K F F) (hfn : X.fn n = true)
    (hb : ∀ (xe : Value → Shared → Prop) (pn : List (Addr × Obj)) (E : XK), Passes (CXE X.prog X.w) (X.tried xe pn) E → PSs (X.tried xe pn) body (tb E)) (hs : ∀ a : Addr, PSs (X.marked a) (b₀ :: suite) ts) (hdb : (x == ("__debug__" : Str)) = false := by decide) :
    PS X (.Try body [.ExceptHandler (some (.Name x np)) (some n) (b₀ :: suite) hpos] [] [] pos) (tTry X F i tb ts) := by
  intro pins s σ H D I h
  refine wpAny_Try_except ?_
  have key := hb (fun e s₁ => wpAny (model X.prog X.w) X.A (noteFrame e X.env) (fun _ s₂ => wpAny (model X.prog X.w) X.A (setFlight e none) (fun _ s₃ => wpAny (model X.prog X.w) X.A (handleBy e X.env [.ExceptHandler (some (.Name x np)) (some n) (b₀ :: suite) hpos]) (SP X pins D) X.xe s₃) X.xe s₂) X.xe s₁) (X.pn ++ pins) (EXc X F i ts D) ?_
  · refine wpAny_mono (key [] s σ H D I.try' h) (fun f s1 z => ?_) fun _ _ z => z
    have z' := SP.untry I.ok z
    cases f with
    | next => exact wpAny_execs_nil z'
    | ret v => exact z'
    | brk => exact z'
    | cont => exact z'
  · intro pj σ1 H1 s1 e s' I1 hx
    have I0 : Inv X pins σ1 H1 s1 := I1.untry I.ok
    obtain ⟨a, cls, H', B, rfl, os, bare, un, hok, kB, Fl, C, rfl, kC, q⟩ := hx
    have hfr : X.A.frames = some (X.env :: X.outer) := by rw [← hst]; exact I.ok.frames
    have Fl' : Fly B (X.env :: X.outer) a (.ref C) .none s'.heap := by rw [← hst]; exact Fl
    refine fly_note hfr hf Fl' fun h1 F1 u1 => ?_
    refine fly_land (s := { s' with heap := h1 }) F1 fun h2 F2 u2 => ?_
    have F2' : Fly B X.stack a (.ref C) .none h2 := by rw [hst]; exact F2
    have u12 := u1.trans u2
    obtain ⟨n2, I2⟩ := inv_caught (t' := s'.toks) I0 os bare un hok kB F2' u12
    obtain ⟨vs, T, tts, he, _⟩ := F2.exc
    refine wpAny_handleBy_cons (codeAny_handlers_test ?_) (by intro z; cases z)
    refine ld_glob (X := X.marked a) (I2.mark a) hg hm ?_ hdb
    refine exc_match (s := { s' with heap := h2 }) I2.kIn kF kC he ?_
    refine codeAny_handlers_suite_as ?_
    refine fly_land (s := { s' with heap := h2 }) F2 fun h3 F3 u3 => ?_
    have F3' : Fly B X.stack a (.ref C) .none h3 := by rw [hst]; exact F3
    obtain ⟨_, I3⟩ := inv_caught (t' := s'.toks) I0 os bare un hok kB F3' (u12.trans u3)
    refine store_ok (X := X.marked a) (v := .ref a) (i := i) (I3.mark a) hN hi (.inl hl) rfl (fun s4 I4 => ?_) (.inl hfn)
    refine wpAny_mono (hs a pins s4 _ _ _ I4 (q a σ1 I0.len n2)) (fun f s5 z => ?_) fun _ _ z => z.elim
    have fin : ∀ (σ5 : St) (H5 : Hp) (Q : Unit → Shared → Prop), Inv (X.marked a) pins σ5 H5 s5 → (∀ s6, Inv X pins (σ5.set i none) H5 s6 → Q () s6) → wpAny (model X.prog X.w) X.A (do bindName X.env n .none; unbindBehindTheSuite X.env n hpos) Q X.xe s5 := by
      intro σ5 H5 Q I5 qq
      have I5' : Inv X pins σ5 H5 s5 := I5.unmark I.ok
      obtain ⟨m, hn, hlk⟩ := I5'.loc
      refine wpAny_nameGoes_keeps hl hn (by rw [I.ok.kind]; rfl) fun h' v hv hsb => qq _ ?_
      exact I5'.unset hN hi hsb ⟨m, hn, ⟨v, hv⟩, hlk⟩
    cases f with
    | next => obtain ⟨σ5, H5, I5, w5⟩ := z; exact fin σ5 H5 _ I5 fun s6 I6 => ⟨_, _, I6, w5⟩
    | brk => obtain ⟨σ5, H5, I5, w5⟩ := z; exact fin σ5 H5 _ I5 fun s6 I6 => ⟨_, _, I6, w5⟩
    | cont => obtain ⟨σ5, H5, I5, w5⟩ := z; exact fin σ5 H5 _ I5 fun s6 I6 => ⟨_, _, I6, w5⟩
    | ret u => obtain ⟨v, σ5, H5, I5, r5, w5⟩ := z; exact fin σ5 H5 _ I5 fun s6 I6 => ⟨v, _, _, I6, r5, w5⟩
end L2

end

section
set_option linter.all false
namespace L2
open PySem PySem.Spec PyProof.Rows
/-! ### defs that raise -/
def OwnX (P : Program) (w : World) (K : PySem.W.Frag) (mg : Str → Option Value) (base : Heap) (x : Str) (k : Nat) (ps : List Str) (sp : Sp) : Prop :=
  ∃ f fd, FnOk P w K mg base (CXE P w) k f fd ps sp ∧ mg x = some (.ref f) ∧ PySem.W.keepIn K (.ref f) = true ∧ Binds K fd ps []
section
variable {P : Program} {w : World} {K : PySem.W.Frag} {mg : Str → Option Value} {base : Heap} {x : Str} {k : Nat} {ps N : List Str} {sp : Sp} {st : Stmt}
theorem Fun.okx {qual : Str} {f : Addr} {fd : FuncData} (F : Fun K x qual st f fd) (S : FnScope N ps (defScope st)) (len : ∀ vs H Q E, sp vs H Q E → vs.length = ps.length)
    (hbody : ∀ (cdv : Value) (A : Around) (outer : List Env) (s : Shared) (H : Hp) (vs : List V) (Q : VK) (E : XK), Room k (A.deeper (envOfC qual (defScope st) s.heap.objs.size f cdv)) → sp vs H Q E →
      ∃ t, PSs (cxOf (CXE P w) P w K mg base N qual (defScope st) f cdv A outer s H E) (defBody st) t ∧ t { nx := fun _ H' => Q .non H', rt := Q } (start N vs) H) : FnOk P w K mg base (CXE P w) (k + 1) f fd ps sp := by
  obtain ⟨oc, od, kV, doc, pm, an, cdv, ct, osl, rfl, lk, hcd⟩ := F.ex
  exact fn_of lk hcd S len fun A outer s H vs Q E hr hsp => hbody cdv A outer s H vs Q E hr hsp
theorem ownx_of (D : DefAt K mg x st ps) (S : FnScope N ps (defScope st)) (len : ∀ vs H Q E, sp vs H Q E → vs.length = ps.length)
    (hbody : ∀ (f : Addr) (cdv : Value) (A : Around) (outer : List Env) (s : Shared) (H : Hp) (vs : List V) (Q : VK) (E : XK), Room k (A.deeper (envOfC x (defScope st) s.heap.objs.size f cdv)) → sp vs H Q E →
      ∃ t, PSs (cxOf (CXE P w) P w K mg base N x (defScope st) f cdv A outer s H E) (defBody st) t ∧ t { nx := fun _ H' => Q .non H', rt := Q } (start N vs) H) : OwnX P w K mg base x (k + 1) ps sp := by
  obtain ⟨f, fd, F, m, b⟩ := D
  exact ⟨f, fd, F.okx S len (hbody f), m, F.kp, b⟩
end
section
variable {X : Cx} {x : Str} {k : Nat} {ps : List Str} {sp : Sp} {e : Expr} {es : List Expr} {t : TA} {p pos : Pos} {E : XK}
theorem pass_no : Passes (CXE X.prog X.w) X E0 := fun _ _ _ _ _ _ _ h => (cxe_no h).elim
theorem pe_ownx (F : OwnX X.prog X.w X.K X.mg X.base x k ps sp) (hx : Passes (CXE X.prog X.w) X E) (hr : Room k X.A) (hg : Gl X x) (ha : PA X (e :: es) t) (hdb : (x == ("__debug__" : Str)) = false := by decide)
    (he : starEach (e :: es) X.env = (false, eval e X.env) :: starEach es X.env := by rfl) (hpl : (backTo pos (starEach es X.env)).any (·.1) = false := by rfl) :
    PE X (.Call (.Name x p) (e :: es) [] pos) (tCall sp [] E t) := by
  obtain ⟨f, fd, F, hm, hk, hb⟩ := F
  exact pe_call F hr hg hm hk hb .nil hx ha hdb he hpl
end
/-! ### f-strings -/
def PJA (X : Cx) (es : List Expr) (t : TA) : Prop :=
  ∀ (out : Str) (pins : List (Addr × Obj)) (s : Shared) (σ : St) (H : Hp) (Q : VK), out.length + 2000 * es.length ≤ sizeLine → Inv X pins σ H s → t σ H (fun _ H' => ∀ z, Q (.str z) H') → wpAny (model X.prog X.w) X.A (joinParts out (evalEach es X.env)) (EP X pins σ Q) X.xe s
/-- what may stand in an f-string whose text isn't asked for -/
def FmtA : V → Prop
  | .int i => i.natAbs.log2 < 1900
  | .str x => x.length ≤ 1900
  | _ => False
section
variable {X : Cx} {e a b : Expr} {es : List Expr} {te : TE} {t : TA} {pos : Pos}
def tFmt (te : TE) (t : TA) : TA := fun σ H Q => te σ H fun v H1 => FmtA v ∧ t σ H1 Q
theorem pj_nil : PJA X [] tNil := fun out pins s σ H Q hz I h => joinParts_nil ⟨.str out, H, I.tok _, ⟨_, rfl⟩, h out⟩ (by simpa using hz)
theorem pj_str {x : Str} {k : Nat} (h : PJA X es t) (hx : x.length ≤ 2000 := by decide) : PJA X (.Constant (.str x) k pos :: es) t := by
  intro out pins s σ H Q hz I q
  refine joinParts_cons (Calls.Constant_str ⟨?_, h (out ++ x) pins _ σ H Q ?_ (I.tok _) q⟩)
  · rw [strLen_append]
    rw [List.length_cons] at hz
    omega
  · rw [strLen_append]
    rw [List.length_cons] at hz
    omega
theorem pj_val (he : PE X e te) (h : PJA X es t) : PJA X (.FormattedValue e (-1) none pos :: es) (tFmt te t) := by
  intro out pins s σ H Q hz I q
  rw [List.length_cons] at hz
  refine joinParts_cons (FormattedValue_plain (thn (he pins s σ H _ I q) fun v s1 ⟨y, H1, I1, r1, f1, q1⟩ => ?_))
  cases y with
  | int i =>
    obtain ⟨tk, rfl⟩ := r1
    have f1 : i.natAbs.log2 < 1900 := f1
    have e1 := int_text_length_le (k := 1900) (by decide) f1
    have e2 : (out ++ Str.ofString (toString i)).length = out.length + (toString i).length := by rw [strLen_append, PySem.ofString_length]
    refine formatField_int_small (Nat.lt_trans f1 (by decide)) ⟨?_, h _ pins _ σ H1 Q ?_ (I1.tok _) q1⟩
    · show (out ++ Str.ofString (toString i)).length ≤ sizeLine
      omega
    · show (out ++ Str.ofString (toString i)).length + _ ≤ sizeLine
      omega
  | str z =>
    obtain ⟨tk, rfl⟩ := r1
    have f1 : z.length ≤ 1900 := f1
    refine formatField_str (fun t' tk => ⟨?_, h _ pins _ σ H1 Q ?_ (I1.tok _) q1⟩) ?_
    · rw [strLen_append]; omega
    · rw [strLen_append]; omega
    · omega
  | _ => exact f1.elim
def tFAny (t : TA) : TE := fun σ H Q => t σ H fun _ H' => ∀ z, Q (.str z) H'
theorem pe_fany (h : PJA X (a :: b :: es) t) (hn : (a :: b :: es).length ≤ 20 := by decide) : PE X (.JoinedStr (a :: b :: es) pos) (tFAny t) := by
  intro pins s σ H Q I q
  refine JoinedStr_many (h Str.empty pins s σ H Q ?_ I q)
  have e : Str.empty.length = 0 := rfl
  have : sizeLine = 16777216 := rfl
  omega
end
/-! ### isinstance of a caught exception -/
theorem call_isinstX {X : Cx} : CallR X (.builtin "isinstance") (fun xs H Q => ∃ y a C c b, xs = [.ref a, y] ∧ clV y = some c ∧ H a = some (excO a C) ∧ XCls X.K C ∧ PySem.W.kitOne X.K (.ref C) c = some b ∧ Q (.bl b) H) := by
  intro pins s σ H xs us Q I r h
  obtain ⟨y, a, C, c, b, rfl, hc, ha, xc, e, q⟩ := h
  obtain ⟨u, u', rfl, ru, ru'⟩ := r.two
  obtain rfl := clV_rel hc ru'
  obtain rfl : u = Value.ref a := ru
  obtain ⟨⟨vs, z⟩, _⟩ := I.hok a _ ha
  exact PySem.W.kia_one (kitx_exc xc) I.kIn ⟨_, ⟨z, rfl, rfl, trivial⟩⟩ e (fun z => nomatch z) fun tk => ⟨.bl b, H, I.tok tk, rfl, q⟩
/-! ### a def that may be called within an except suite -/
structure RoomH (k : Nat) (A : Around) : Prop where
  dp : A.depth + 3 * k + 5 < recursionLimit
  un : A.units + 16 * k + 200 < cLine
theorem Room.h {k : Nat} {A : Around} (r : Room k A) : RoomH k A := ⟨r.dp, r.un⟩
theorem RoomH.marked {k : Nat} {A : Around} (r : RoomH k A) (v : Option Value) : RoomH k (A.mark v) := ⟨r.dp, r.un⟩
structure FnH (P : Program) (w : World) (K : PySem.W.Frag) (mg : Str → Option Value) (base : Heap) (k : Nat) (f : Addr) (fd : FuncData) (ps : List Str) (sp : Sp) : Prop where
  len : ∀ vs H Q E, sp vs H Q E → vs.length = ps.length
  run : ∀ (A : Around) (outer : List Env) (s : Shared) (H : Hp) (args : Args) (us : List Value) (vs : List V) (Q : VK) (E : XK), RoomH k A → Env0 P w K mg base A outer s H → BindsTo s fd args (ps.zip us) → Vals vs us → sp vs H Q E →
    codeAny (model P w) A (.call (.ref f) args) (CR CX0 outer P w H s Q E) s
/-- its body's context -/
abbrev cxH (P : Program) (w : World) (K : PySem.W.Frag) (mg : Str → Option Value) (base : Heap) (N : List Str) (qual : Str) (scope : Scope) (f : Addr) (cd : Value) (A : Around) (outer : List Env) (s : Shared) (H : Hp) : Cx :=
  { cxOf CX0 P w K mg base N qual scope f cd A outer s H E0 with calm := false, xe := fun _ _ => False }
theorem fnH_of {P : Program} {w : World} {K : PySem.W.Frag} {mg : Str → Option Value} {base : Heap} {k : Nat} {f : Addr} {x qual : Str} {st : Stmt} {fd : FuncData} {N ps : List Str} {sp : Sp} (F : Fun K x qual st f fd) (S : FnScope N ps (defScope st))
    (len : ∀ vs H Q E, sp vs H Q E → vs.length = ps.length)
    (hbody : ∀ (cdv : Value) (A : Around) (outer : List Env) (s : Shared) (H : Hp) (vs : List V) (Q : VK) (E : XK), RoomH k (A.deeper (envOfC qual (defScope st) s.heap.objs.size f cdv)) → sp vs H Q E →
      ∃ t, PSs (cxH P w K mg base N qual (defScope st) f cdv A outer s H) (defBody st) t ∧ t { nx := fun _ H' => Q .non H', rt := Q } (start N vs) H) : FnH P w K mg base (k + 1) f fd ps sp := by
  obtain ⟨oc, od, kV, doc, pm, an, cdv, ct, osl, rfl, lk, hcd⟩ := F.ex
  refine ⟨len, fun A outer s H args us vs Q E hr e0 hb r hsp => ?_⟩
  have hl := len _ _ _ _ hsp
  have KX : K.In s.heap := e0.mod.kin.keeps fun b o e => (e0.bs b o e).1
  have lim : s.heap.NoLimit := e0.mod.nolimit.keeps fun b o e => (e0.bs b o e).1
  have hkind : ∀ y ∈ ps.zip us, (defScope st).names.lookup y.1 = some .local ∨ ((defScope st).names.lookup y.1 = some .cell ∧ ((cellsFrom (s.heap.objs.size + 1) (defScope st).names []).lookup y.1).isSome = true) := fun ⟨n, v⟩ hy => by
    rcases S.par n (List.of_mem_zip hy).1 with q | q
    · exact .inl q
    · exact .inr ⟨q, PySem.W.cellsFrom_some _ _ _ (.inl q)⟩
  refine codeAny_call_function (by have := hr.dp; omega) (KX _ _ lk) rfl S.co S.gen rfl (PySem.W.codeRec_of KX hcd) (hb _ _ _ _ ?_)
  refine wpAny_newFunctionEnv_cells S.kind hkind fun env he s1 x => ?_
  subst he
  refine ⟨lim.keeps x.toInCall.keep, codeAny_func ?_⟩
  obtain ⟨t, ht, hq⟩ := hbody cdv A outer s H vs Q E ⟨by have := hr.dp; show A.depth + 1 + 3 * k + 5 < _; omega, by have := hr.un; show A.units + 3 + 16 * k + 200 < _; omega⟩ hsp
  have e1 : Env0 P w K mg base { A with handled := none } outer s H := ⟨e0.frames, e0.mod, e0.bs, e0.bsz, e0.funs, e0.frf, e0.hok, e0.bare⟩
  have I0 : Inv (cxOf CX0 P w K mg base N qual (defScope st) f cdv { A with handled := none } outer s H E0) [] (start N vs) H s1 := inv_start S rfl e1 hl r x
  have I : Inv (cxH P w K mg base N qual (defScope st) f cdv A outer s H) [] (start N vs) H s1 :=
    ⟨⟨I0.ok.mod, I0.ok.kind, I0.ok.glob, I0.ok.blt, I0.ok.above, I0.ok.inj, I0.ok.has, I0.ok.cab, fun z => Bool.noConfusion z, Around.frames_deeper e0.frames, I0.ok.stk, I0.ok.exf, I0.ok.bs, I0.ok.bsz, I0.ok.noex, I0.ok.exfs, I0.ok.funs, I0.ok.frf⟩, I0.os, I0.bare, I0.base, I0.loc, I0.cell, I0.free, I0.freeC, I0.pin, I0.hok, I0.len⟩
  refine wpAny_mono (ht [] s1 (start N vs) H _ I hq) (fun fl s' hs => ?_) fun e s' hs => hs.elim
  have fin : ∀ {σ' : St} {H' : Hp} {v : V} {u : Value}, Inv (cxH P w K mg base N qual (defScope st) f cdv A outer s H) [] σ' H' s' → RelV v u → Q v H' → CE outer P w H s Q u s' :=
    fun {σ' H' v u} J rv q => ⟨v, H', J.os, J.bare, J.base, J.hok, rv, q⟩
  cases fl with
  | ret u => obtain ⟨v, σ', H', J, rv, q⟩ := hs; exact fin J rv q
  | next => obtain ⟨σ', H', J, q⟩ := hs; exact fin (v := V.non) (u := Value.none) J rfl q
  | brk => obtain ⟨_, _, _, q⟩ := hs; exact False.elim q
  | cont => obtain ⟨_, _, _, q⟩ := hs; exact False.elim q
def OwnH (P : Program) (w : World) (K : PySem.W.Frag) (mg : Str → Option Value) (base : Heap) (x : Str) (k : Nat) (ps : List Str) (sp : Sp) : Prop :=
  ∃ f fd, FnH P w K mg base k f fd ps sp ∧ mg x = some (.ref f) ∧ PySem.W.keepIn K (.ref f) = true ∧ Binds K fd ps []
theorem ownH_of {P : Program} {w : World} {K : PySem.W.Frag} {mg : Str → Option Value} {base : Heap} {x : Str} {k : Nat} {ps N : List Str} {sp : Sp} {st : Stmt} (D : DefAt K mg x st ps) (S : FnScope N ps (defScope st)) (len : ∀ vs H Q E, sp vs H Q E → vs.length = ps.length)
    (hbody : ∀ (f : Addr) (cdv : Value) (A : Around) (outer : List Env) (s : Shared) (H : Hp) (vs : List V) (Q : VK) (E : XK), RoomH k (A.deeper (envOfC x (defScope st) s.heap.objs.size f cdv)) → sp vs H Q E →
      ∃ t, PSs (cxH P w K mg base N x (defScope st) f cdv A outer s H) (defBody st) t ∧ t { nx := fun _ H' => Q .non H', rt := Q } (start N vs) H) : OwnH P w K mg base x (k + 1) ps sp := by
  obtain ⟨f, fd, F, m, b⟩ := D
  exact ⟨f, fd, fnH_of F S len (hbody f), m, F.kp, b⟩
theorem pe_ownH {X : Cx} {x : Str} {k : Nat} {ps : List Str} {sp : Sp} {e : Expr} {es : List Expr} {t : TA} {p pos : Pos} (F : OwnH X.prog X.w X.K X.mg X.base x k ps sp) (hr : RoomH k X.A) (hg : Gl X x) (ha : PA X (e :: es) t) (hdb : (x == ("__debug__" : Str)) = false := by decide)
    (he : starEach (e :: es) X.env = (false, eval e X.env) :: starEach es X.env := by rfl) (hpl : (backTo pos (starEach es X.env)).any (·.1) = false := by rfl) :
    PE X (.Call (.Name x p) (e :: es) [] pos) (tCall sp [] E0 t) := by
  obtain ⟨f, fd, F, hm, hk, hb⟩ := F
  intro pins s σ H Q I h
  refine wpAny_Call_Name_kw (ld_glob I hg hm ?_ hdb)
  refine PySem.W.callWith_K (h₀ := X.base) I.ok.mod.kin hk (thn (ha pos pins s σ H _ I h) fun us s1 ⟨vs, H1, I1, r, q⟩ => ⟨I1.kIn, ?_⟩) he hpl
  have q' : sp vs H1 Q E0 := by
    have z : sp (vs ++ []) H1 Q E0 := q
    rw [List.append_nil] at z
    exact z
  have hl : us.length = ps.length := by rw [← r.length]; exact F.len _ _ _ _ q'
  refine wpAny_call (codeAny_mono (F.run X.A X.stack s1 H1 ⟨us, []⟩ us vs Q E0 hr I1.env0 (by have := hb s1 us I1.kIn (by rw [List.append_nil]; exact hl); rwa [List.append_nil] at this) r q') fun r s' hq => ?_)
  cases r with
  | error e => exact False.elim hq
  | ok fl =>
    cases fl with
    | ret u => exact I1.after hq
    | next => exact False.elim hq
    | brk => exact False.elim hq
    | cont => exact False.elim hq
end L2
namespace L2
open PySem PySem.Spec PyProof.Rows
/-- nothing that it raises leaves it -/
theorem OwnX.own {P : Program} {w : World} {K : PySem.W.Frag} {mg : Str → Option Value} {base : Heap} {x : Str} {k : Nat} {ps : List Str} {sp : Sp} (F : OwnX P w K mg base x k ps sp) (no : ∀ vs H Q E, sp vs H Q E → sp vs H Q E0) : Own P w K mg base x k ps sp := by
  obtain ⟨f, fd, F, r⟩ := F
  refine ⟨f, fd, ⟨F.len, fun A outer s H args us vs Q E hr he hb hv hs => codeAny_mono (F.run A outer s H args us vs Q E0 hr he hb hv (no _ _ _ _ hs)) fun r s' z => ?_⟩, r⟩
  cases r with
  | error e => exact (cxe_no z).elim
  | ok fl => cases fl <;> exact z
theorem B_ValueError : bootBuiltins "ValueError" = some (.type "ValueError") := by decide +kernel
def B45 : Int := 1000000000000000000000000000000000000000000000
/-- small enough to be written -/
def sm (i : Int) : Prop := -1000000000000000000000000000000000000000000000 ≤ i ∧ i ≤ 1000000000000000000000000000000000000000000000
theorem sm.fmt {i : Int} (h : sm i) : FmtA (.int i) := by
  show i.natAbs.log2 < 1900
  obtain ⟨h1, h2⟩ := h
  by_cases z : i.natAbs = 0
  · rw [z]; decide
  · refine (Nat.log2_lt z).mpr ?_
    exact Nat.lt_of_lt_of_le (Nat.lt_of_le_of_lt (by omega : i.natAbs ≤ 1000000000000000000000000000000000000000000000) (by decide : 1000000000000000000000000000000000000000000000 < 2 ^ 200)) (Nat.pow_le_pow_right (by decide) (by decide))
theorem sm_small {i : Int} (h1 : -100000000 ≤ i) (h2 : i ≤ 100000000) : sm i := ⟨by omega, by omega⟩
end L2
namespace L2
open PySem PySem.Spec PyProof.Rows
/-- statements whose reading is chosen when they are come to -/
def tLater (X : Cx) (sts : List Stmt) : TS := fun D σ H => ∃ t, PSs X sts t ∧ t D σ H
end L2

end

section
namespace Egg
/-! the ways to choose, the reach -/
def ch : Nat → Nat → Nat
  | _, 0 => 1
  | 0, _ + 1 => 0
  | n + 1, k + 1 => ch n k + ch n (k + 1)
theorem ch_zero (n : Nat) : ch n 0 = 1 := by cases n <;> rfl
theorem ch_big : ∀ (n k : Nat), n < k → ch n k = 0
  | 0, k + 1, _ => rfl
  | n + 1, k + 1, h => by
    show ch n k + ch n (k + 1) = 0
    rw [ch_big n k (by omega), ch_big n (k + 1) (by omega)]
theorem ch_mul : ∀ (n k : Nat), (ch n (k + 1) : Int) * ((k : Int) + 1) = (ch n k : Int) * ((n : Int) - (k : Int))
  | 0, 0 => by decide
  | 0, k + 1 => by
    show ((0 : Nat) : Int) * _ = ((0 : Nat) : Int) * _
    simp
  | n + 1, 0 => by
    have h := ch_mul n 0
    have e : ch (n + 1) (0 + 1) = ch n 0 + ch n (0 + 1) := rfl
    have z : ch (n + 1) 0 = 1 := rfl
    rw [ch_zero n] at h e
    rw [e, z]
    simp only [Nat.zero_add] at *
    push_cast at *
    omega
  | n + 1, k + 1 => by
    have h1 := ch_mul n k
    have h2 := ch_mul n (k + 1)
    have e1 : ch (n + 1) (k + 1 + 1) = ch n (k + 1) + ch n (k + 1 + 1) := rfl
    have e2 : ch (n + 1) (k + 1) = ch n k + ch n (k + 1) := rfl
    rw [e1, e2]
    generalize ch n k = a at *
    generalize ch n (k + 1) = b at *
    generalize ch n (k + 1 + 1) = c at *
    push_cast at *
    -- (b + c) * (k + 2) = (a + b) * (n - k)
    have x1 : ((b : Int) + c) * ((k : Int) + 1 + 1) = (b : Int) * ((k : Int) + 1) + b + (c : Int) * ((k : Int) + 1 + 1) := by
      rw [Int.add_mul, Int.mul_add (b : Int) ((k : Int) + 1) 1, Int.mul_one]
    have x2 : ((a : Int) + b) * ((n : Int) + 1 - ((k : Int) + 1)) = (a : Int) * ((n : Int) - k) + (b : Int) * ((n : Int) - ((k : Int) + 1)) + b := by
      have : (n : Int) + 1 - ((k : Int) + 1) = (n : Int) - k := by omega
      rw [this, Int.add_mul]
      have : (b : Int) * ((n : Int) - k) = (b : Int) * ((n : Int) - ((k : Int) + 1)) + b := by
        have e : (n : Int) - k = (n : Int) - ((k : Int) + 1) + 1 := by omega
        rw [e, Int.mul_add, Int.mul_one]
      omega
    rw [x1, x2]
    omega
/-- t things, n drops -/
def rr : Nat → Nat → Nat
  | 0, _ => 0
  | t + 1, n => rr t n + ch n (t + 1)
theorem rr_pascal : ∀ (t n : Nat), rr (t + 1) (n + 1) = rr (t + 1) n + rr t n + 1
  | 0, n => by
    show 0 + ch (n + 1) (0 + 1) = 0 + ch n (0 + 1) + 0 + 1
    show 0 + (ch n 0 + ch n (0 + 1)) = _
    rw [ch_zero]
    omega
  | t + 1, n => by
    have h := rr_pascal t n
    show rr (t + 1) (n + 1) + ch (n + 1) (t + 1 + 1) = (rr (t + 1) n + ch n (t + 1 + 1)) + rr (t + 1) n + 1
    have e : ch (n + 1) (t + 1 + 1) = ch n (t + 1) + ch n (t + 1 + 1) := rfl
    have e2 : rr (t + 1) n = rr t n + ch n (t + 1) := rfl
    omega
theorem rr_drops0 : ∀ t : Nat, rr t 0 = 0
  | 0 => rfl
  | t + 1 => by show rr t 0 + ch 0 (t + 1) = 0; rw [rr_drops0 t, ch_big 0 (t + 1) (by omega)]
theorem rr_things (t n : Nat) : rr t n ≤ rr (t + 1) n := Nat.le_add_right _ _
theorem rr_more (t n : Nat) : rr (t + 1) n < rr (t + 1) (n + 1) := by have := rr_pascal t n; omega
theorem rr_drop (t n : Nat) : rr t n ≤ rr t (n + 1) := by
  cases t with
  | zero => exact Nat.le_refl _
  | succ t => exact Nat.le_of_lt (rr_more t n)
theorem rr_ge (t : Nat) : ∀ n : Nat, n ≤ rr (t + 1) n
  | 0 => Nat.zero_le _
  | n + 1 => by have := rr_ge t n; have := rr_more t n; omega
theorem rr_mono_drops (t : Nat) {a b : Nat} (h : a ≤ b) : rr t a ≤ rr t b := by
  induction b with
  | zero => have : a = 0 := by omega
            rw [this]; exact Nat.le_refl _
  | succ b ih =>
    by_cases e : a = b + 1
    · rw [e]; exact Nat.le_refl _
    · exact Nat.le_trans (ih (by omega)) (rr_drop t b)
/-- one more factor, as the program reckons it -/
theorem ch_div (n k : Nat) (x y : Int) (hx : x = (n : Int) - (k : Int)) (hy : y = (k : Int) + 1) : Int.fdiv ((ch n k : Int) * x) y = (ch n (k + 1) : Int) := by
  rw [hx, hy, ← ch_mul, Int.fdiv_eq_ediv_of_nonneg _ (by omega)]
  exact Int.mul_ediv_cancel _ (by omega)
end Egg

end

section
namespace Egg
/-! the fewest drops, the first drops -/
def fewGo (t f : Nat) : Nat → Nat → Nat
  | 0, d => d
  | n + 1, d => if rr t d < f then fewGo t f n (d + 1) else d
theorem fewGo_spec {t f : Nat} : ∀ n d : Nat, f ≤ rr t (d + n) → (∀ e, e < d → rr t e < f) → f ≤ rr t (fewGo t f n d) ∧ ∀ e, e < fewGo t f n d → rr t e < f
  | 0, d, h, l => ⟨h, l⟩
  | n + 1, d, h, l => by
    unfold fewGo
    by_cases c : rr t d < f
    · rw [if_pos c]
      refine fewGo_spec n (d + 1) (by rw [show d + 1 + n = d + (n + 1) by omega]; exact h) fun e he => ?_
      by_cases z : e = d
      · rw [z]; exact c
      · exact l e (by omega)
    · rw [if_neg c]
      exact ⟨by omega, l⟩
/-- f floors, t things -/
def few (f t : Nat) : Nat := fewGo t f f 0
/-- a house that can be done -/
def Can (f t : Nat) : Prop := f = 0 ∨ 0 < t
theorem can_ge {f t : Nat} (h : Can f t) : f ≤ rr t f := by
  rcases h with h | h
  · rw [h]; exact Nat.zero_le _
  · obtain ⟨u, rfl⟩ : ∃ u, t = u + 1 := ⟨t - 1, by omega⟩
    exact rr_ge u f
theorem few_spec {f t : Nat} (h : Can f t) : f ≤ rr t (few f t) ∧ ∀ e, e < few f t → rr t e < f :=
  fewGo_spec f 0 (by rw [Nat.zero_add]; exact can_ge h) (fun e he => absurd he (Nat.not_lt_zero _))
theorem few_le_iff {f t : Nat} (h : Can f t) (d : Nat) : few f t ≤ d ↔ f ≤ rr t d := by
  have s := few_spec h
  constructor
  · intro l
    exact Nat.le_trans s.1 (rr_mono_drops t l)
  · intro l
    apply Nat.le_of_not_lt
    intro z
    have := s.2 d z
    omega
theorem few_unique {f t d : Nat} (h : Can f t) (h1 : f ≤ rr t d) (h2 : ∀ e, e < d → rr t e < f) : d = few f t := by
  have a := (few_le_iff h d).mpr h1
  by_cases z : few f t < d
  · have := h2 _ z
    have := (few_spec h).1
    omega
  · omega
theorem few_le {f t : Nat} (h : Can f t) : few f t ≤ f := (few_le_iff h f).mpr (can_ge h)
theorem few_zero (t : Nat) : few 0 t = 0 := rfl
theorem few_pos {f t : Nat} (h : Can f t) (hf : 0 < f) : 0 < few f t := by
  apply Nat.pos_of_ne_zero
  intro z
  have := (few_spec h).1
  rw [z, rr_drops0] at this
  omega
/-- the least and the greatest of the first drops -/
def lo (f t : Nat) : Nat := f - rr t (few f t - 1)
def hi (f t : Nat) : Nat := rr (t - 1) (few f t - 1) + 1
theorem first_facts {f t : Nat} (hf : 0 < f) (ht : 0 < t) : rr t (few f t - 1) < f ∧ 1 ≤ lo f t ∧ lo f t ≤ hi f t ∧ hi f t ≤ f ∧ 1 ≤ few f t := by
  have c : Can f t := .inr ht
  have p := few_pos c hf
  have s := few_spec c
  have a := s.2 (few f t - 1) (by omega)
  obtain ⟨u, rfl⟩ : ∃ u, t = u + 1 := ⟨t - 1, by omega⟩
  have e := rr_pascal u (few f (u + 1) - 1)
  rw [show few f (u + 1) - 1 + 1 = few f (u + 1) by omega] at e
  have m := rr_things u (few f (u + 1) - 1)
  refine ⟨a, ?_, ?_, ?_, p⟩
  · unfold lo; omega
  · unfold lo hi; rw [show u + 1 - 1 = u by omega]; omega
  · unfold hi; rw [show u + 1 - 1 = u by omega]; omega
end Egg

end

section
namespace Egg
/-! the table of all first floors -/
def big : Nat := 1000000
def val (t f : Nat) : Nat := if t = 0 then (if f = 0 then 0 else big) else few f t
theorem val_le_iff (t f n : Nat) (hn : n < big) : val t f ≤ n ↔ f ≤ rr t n := by
  unfold val
  by_cases h : t = 0
  · rw [if_pos h, h]
    have : rr 0 n = 0 := rfl
    by_cases g : f = 0
    · rw [if_pos g]; omega
    · rw [if_neg g]; omega
  · rw [if_neg h]
    exact few_le_iff (.inr (by omega)) n
/-- what a first drop from floor d leaves at worst -/
def worst (t f d : Nat) : Nat := max (val (t - 1) (d - 1)) (val t (f - d))
theorem worst_le_iff {t f d n : Nat} (ht : 0 < t) (h1 : 1 ≤ d) (h2 : d ≤ f) (hn : n < big) : worst t f d ≤ n ↔ d - 1 ≤ rr (t - 1) n ∧ f - d ≤ rr t n := by
  unfold worst
  rw [Nat.max_le, val_le_iff _ _ _ hn, val_le_iff _ _ _ hn]
theorem worst_ge {t f d : Nat} (ht : 0 < t) (h1 : 1 ≤ d) (h2 : d ≤ f) (hf : f < big) : few f t - 1 ≤ worst t f d := by
  have c : Can f t := .inr ht
  have fl := few_le c
  by_cases z : worst t f d < few f t - 1
  · exfalso
    have w := (worst_le_iff (n := worst t f d) ht h1 h2 (by omega)).mp (Nat.le_refl _)
    obtain ⟨u, rfl⟩ : ∃ u, t = u + 1 := ⟨t - 1, by omega⟩
    have e := rr_pascal u (worst (u + 1) f d)
    rw [show u + 1 - 1 = u by omega] at w
    have := (few_spec c).2 (worst (u + 1) f d + 1) (by omega)
    omega
  · omega
theorem worst_at {t f d : Nat} (ht : 0 < t) (h1 : 1 ≤ d) (h2 : d ≤ f) (hf : f < big) : 1 + worst t f d = few f t ↔ lo f t ≤ d ∧ d ≤ hi f t := by
  have c : Can f t := .inr ht
  have fl := few_le c
  have fp := few_pos c (by omega)
  have g := worst_ge ht h1 h2 hf
  have w := worst_le_iff (n := few f t - 1) ht h1 h2 (by omega)
  unfold lo hi
  constructor
  · intro e
    have := w.mp (by omega)
    omega
  · intro e
    have := w.mpr (by omega)
    omega
end Egg

end

set_option linter.all false
namespace Egg
open PySem L2
def top (i : Nat) : Stmt := PySem.Challenge.pw_eggfloors_k10_whole_search.main.body.getD i (.Pass ⟨0, 0, 0, 0⟩)
abbrev s_check_things : Stmt := top 9
theorem sc_check_things : FnScope ["things"] ["things"] (defScope s_check_things) := ⟨rfl, rfl, rfl, by decide +kernel, rfl, by decide +kernel, by decide +kernel⟩
abbrev s_check_case : Stmt := top 10
theorem sc_check_case : FnScope ["floors", "things"] ["floors", "things"] (defScope s_check_case) := ⟨rfl, rfl, rfl, by decide +kernel, rfl, by decide +kernel, by decide +kernel⟩
abbrev s_check_house : Stmt := top 11
theorem sc_check_house : FnScope ["floors", "things", "most"] ["floors", "things", "most"] (defScope s_check_house) := ⟨rfl, rfl, rfl, by decide +kernel, rfl, by decide +kernel, by decide +kernel⟩
abbrev s_fewest : Stmt := top 13
theorem sc_fewest : FnScope ["floors", "things"] ["floors", "things"] (defScope s_fewest) := ⟨rfl, rfl, rfl, by decide +kernel, rfl, by decide +kernel, by decide +kernel⟩
abbrev s_choices : Stmt := top 14
theorem sc_choices : FnScope ["floors", "things", "later", "least", "greatest"] ["floors", "things"] (defScope s_choices) := ⟨rfl, rfl, rfl, by decide +kernel, rfl, by decide +kernel, by decide +kernel⟩
abbrev s_floors_reached : Stmt := top 15
theorem sc_floors_reached : FnScope ["things", "drops", "reached", "ways", "chosen"] ["things", "drops"] (defScope s_floors_reached) := ⟨rfl, rfl, rfl, by decide +kernel, rfl, by decide +kernel, by decide +kernel⟩
abbrev s_fewest_drops : Stmt := top 16
theorem sc_fewest_drops : FnScope ["floors", "things", "drops"] ["floors", "things"] (defScope s_fewest_drops) := ⟨rfl, rfl, rfl, by decide +kernel, rfl, by decide +kernel, by decide +kernel⟩
abbrev s_Search___init__ : Stmt := inClass (top 18) 0
theorem sc_Search___init__ : FnScope ["self", "floors", "things"] ["self", "floors", "things"] (defScope s_Search___init__) := ⟨rfl, rfl, rfl, by decide +kernel, rfl, by decide +kernel, by decide +kernel⟩
abbrev s_Search_dropped : Stmt := inClass (top 18) 1
theorem sc_Search_dropped : FnScope ["self", "floor", "broken"] ["self", "floor", "broken"] (defScope s_Search_dropped) := ⟨rfl, rfl, rfl, by decide +kernel, rfl, by decide +kernel, by decide +kernel⟩
abbrev s_Search_check_drop : Stmt := inClass (top 18) 2
theorem sc_Search_check_drop : FnScope ["self", "floor"] ["self", "floor"] (defScope s_Search_check_drop) := ⟨rfl, rfl, rfl, by decide +kernel, rfl, by decide +kernel, by decide +kernel⟩
abbrev s_Search_span : Stmt := inClass (top 18) 3
theorem sc_Search_span : FnScope ["self"] ["self"] (defScope s_Search_span) := ⟨rfl, rfl, rfl, by decide +kernel, rfl, by decide +kernel, by decide +kernel⟩
abbrev s_Search_left : Stmt := inClass (top 18) 4
theorem sc_Search_left : FnScope ["self"] ["self"] (defScope s_Search_left) := ⟨rfl, rfl, rfl, by decide +kernel, rfl, by decide +kernel, by decide +kernel⟩
abbrev s_Search_drops : Stmt := inClass (top 18) 5
theorem sc_Search_drops : FnScope ["self"] ["self"] (defScope s_Search_drops) := ⟨rfl, rfl, rfl, by decide +kernel, rfl, by decide +kernel, by decide +kernel⟩
abbrev s_Search_need : Stmt := inClass (top 18) 6
theorem sc_Search_need : FnScope ["self"] ["self"] (defScope s_Search_need) := ⟨rfl, rfl, rfl, by decide +kernel, rfl, by decide +kernel, by decide +kernel⟩
abbrev s_Search_advice : Stmt := inClass (top 18) 7
theorem sc_Search_advice : FnScope ["self", "firsts"] ["self"] (defScope s_Search_advice) := ⟨rfl, rfl, rfl, by decide +kernel, rfl, by decide +kernel, by decide +kernel⟩
abbrev s__law_cell_at : Stmt := top 20
theorem sc__law_cell_at : FnScope ["script", "k"] ["script", "k"] (defScope s__law_cell_at) := ⟨rfl, rfl, rfl, by decide +kernel, rfl, by decide +kernel, by decide +kernel⟩
abbrev s__law_whole : Stmt := top 21
theorem sc__law_whole : FnScope ["found"] ["found"] (defScope s__law_whole) := ⟨rfl, rfl, rfl, by decide +kernel, rfl, by decide +kernel, by decide +kernel⟩
abbrev s__law_pair : Stmt := top 22
theorem sc__law_pair : FnScope ["found"] ["found"] (defScope s__law_pair) := ⟨rfl, rfl, rfl, by decide +kernel, rfl, by decide +kernel, by decide +kernel⟩
abbrev s__law_which : Stmt := top 23
theorem sc__law_which : FnScope ["e", "some"] ["e"] (defScope s__law_which) := ⟨rfl, rfl, rfl, by decide +kernel, rfl, by decide +kernel, by decide +kernel⟩
abbrev s__law_gone : Stmt := top 24
theorem sc__law_gone : FnScope ["cell", "low", "high", "left", "far"] ["cell", "low", "high", "left"] (defScope s__law_gone) := ⟨rfl, rfl, rfl, by decide +kernel, rfl, by decide +kernel, by decide +kernel⟩
abbrev s__law_refused : Stmt := top 25
theorem sc__law_refused : FnScope ["search", "way", "floor", "broken", "told", "e"] ["search", "way", "floor", "broken"] (defScope s__law_refused) := ⟨rfl, rfl, rfl, by decide +kernel, rfl, by decide +kernel, by decide +kernel⟩
abbrev s__law_stands : Stmt := top 26
theorem sc__law_stands : FnScope ["search", "low", "high", "things", "done", "found", "bad", "need", "due"] ["search", "low", "high", "things", "done"] (defScope s__law_stands) := ⟨rfl, rfl, rfl, by decide +kernel, rfl, by decide +kernel, by decide +kernel⟩
abbrev s_law : Stmt := top 27
theorem sc_law : FnScope ["script", "floors", "things", "floor", "search", "other", "low", "high", "left", "done", "k", "cell", "gone", "drop", "need", "found"] ["script"] (defScope s_law) := ⟨rfl, rfl, rfl, by decide +kernel, rfl, by decide +kernel, by decide +kernel⟩

def sp2 (C : Int → Int → Prop) (g : Int → Int → V) : Sp := fun vs H Q _ => ∃ i j, vs = [.int i, .int j] ∧ C i j ∧ Q (g i j) H
abbrev reachV (t d : Int) : V := .int (rr t.toNat d.toNat : Nat)
def cellV (ns : List Int) (k : Int) : Int := ns.getD k.toNat 0
def spCell (K : PySem.W.Frag) : Sp := fun vs H Q _ => ∃ a ns k, vs = [.ref a, .int k] ∧ SqL K H a (ns.map V.int) ∧ 0 ≤ k ∧ Q (.int (cellV ns k)) H
def spWhole : Sp := fun vs H Q _ => ∃ t, vs = [.int t] ∧ Q (.bl true) H
def spLaw (K : PySem.W.Frag) : Sp := fun vs H Q _ => ∃ (a : Addr) (ns : List Int), vs = [.ref a] ∧ SqL K H a (ns.map V.int) ∧ ns.length ≤ 63 ∧ ∀ H', Q (.bl true) H'
def COk (m f t : Int) : Prop := 0 ≤ f ∧ f ≤ m ∧ 0 ≤ t ∧ t ≤ 12 ∧ (f = 0 ∨ 0 < t)
abbrev fewV (f t : Int) : V := .int (few f.toNat t.toNat : Nat)
def spPair : Sp := fun vs H Q _ => ∃ a i j, vs = [.ref a] ∧ H a = some (.tup [.int i, .int j]) ∧ Q (.bl true) H
inductive PairsV (H : Hp) : List V → List (Int × Bool) → Prop where
  | nil : PairsV H [] []
  | cons {a : Addr} {f : Int} {b : Bool} {vs : List V} {ws : List (Int × Bool)} : H a = some (.tup [.int f, .bl b]) → PairsV H vs ws → PairsV H (.ref a :: vs) ((f, b) :: ws)
theorem PairsV.tups {H H' : Hp} (s : TupS H H') {vs : List V} {ws : List (Int × Bool)} (h : PairsV H vs ws) : PairsV H' vs ws := by
  induction h with
  | nil => exact .nil
  | cons e _ ih => exact .cons (s _ _ e) ih
theorem PairsV.snoc {H : Hp} {a : Addr} {f : Int} {b : Bool} {vs : List V} {ws : List (Int × Bool)} (h : PairsV H vs ws) (e : H a = some (.tup [.int f, .bl b])) : PairsV H (vs ++ [.ref a]) (ws ++ [(f, b)]) := by
  induction h with
  | nil => exact .cons e .nil
  | cons e' _ ih => exact .cons e' ih
theorem PairsV.len {H : Hp} {vs : List V} {ws : List (Int × Bool)} (h : PairsV H vs ws) : vs.length = ws.length := by
  induction h with
  | nil => rfl
  | cons _ _ ih => exact congrArg Nat.succ ih
def pd (q : Int × Bool) : PyData := .tuple [.int q.1, .bool q.2]
def dl (ws : List (Int × Bool)) : PyData := .list (ws.map pd)
theorem PairsV.dat {K : PySem.W.Frag} {H : Hp} {vs : List V} {ws : List (Int × Bool)} (h : PairsV H vs ws) : DatAll K H vs (ws.map pd) := by
  induction h with
  | nil => exact .nil
  | @cons a f b vs ws e _ ih => exact .cons (.tup (SqT.of e) (.cons (.int f) (.cons (.bl b) .nil))) ih
theorem pd_lay : ∀ ws : List (Int × Bool), PyData.canLayAll0 (ws.map pd) = true ∧ PyData.depthAll (ws.map pd) ≤ 1
  | [] => ⟨rfl, Nat.zero_le _⟩
  | q :: r => by
    obtain ⟨h1, h2⟩ := pd_lay r
    constructor
    · show (PyData.canLay0 (pd q) && PyData.canLayAll0 (r.map pd)) = true
      rw [h1]
      rfl
    · show max (PyData.depth (pd q)) (PyData.depthAll (r.map pd)) ≤ 1
      have : PyData.depth (pd q) = 1 := rfl
      omega
theorem pd_eqv (p q : Int × Bool) : PyData.eqv (pd p) (pd q) = decide (p = q) := by
  obtain ⟨f, b⟩ := p
  obtain ⟨g, c⟩ := q
  have e : PyData.eqv (pd (f, b)) (pd (g, c)) = (f == g && (b == c && true)) := by
    simp [pd, PyData.eqv, PyData.eqvAll]
  rw [e, Bool.eq_iff_iff]
  simp
theorem dl_eqvAll : ∀ ws us : List (Int × Bool), PyData.eqvAll (ws.map pd) (us.map pd) = decide (ws = us)
  | [], [] => by simp [PyData.eqvAll]
  | [], _ :: _ => by simp [PyData.eqvAll]
  | _ :: _, [] => by simp [PyData.eqvAll]
  | p :: r, q :: u => by
    rw [List.map_cons, List.map_cons, PyData.eqvAll, pd_eqv, dl_eqvAll r u, Bool.eq_iff_iff]
    simp
theorem dl_eqv (ws us : List (Int × Bool)) : PyData.eqv (dl ws) (dl us) = decide (ws = us) := by
  unfold dl
  rw [PyData.eqv]
  exact dl_eqvAll ws us
def spThX (cN : Addr) : Sp := fun vs H Q E => ∃ t, vs = [.int t] ∧ sm t ∧ (0 ≤ t ∧ t ≤ 12 → Q .non H) ∧ (¬ (0 ≤ t ∧ t ≤ 12) → E (.ref cN) none H)
def spHoX (cN : Addr) : Sp := fun vs H Q E => ∃ f t m, vs = [.int f, .int t, .int m] ∧ sm f ∧ sm t ∧ sm m ∧ (COk m f t → Q .non H) ∧ (¬ COk m f t → E (.ref cN) none H)
def spCaX (cN : Addr) (m : Int) : Sp := fun vs H Q E => ∃ f t, vs = [.int f, .int t] ∧ sm f ∧ sm t ∧ (COk m f t → Q .non H) ∧ (¬ COk m f t → E (.ref cN) none H)
def spWhich (K : PySem.W.Frag) (cN cP cL cB : Addr) : Sp := fun vs H Q _ => ∃ (a C : Addr) (b1 b2 b3 b4 : Bool), vs = [.ref a] ∧ H a = some (excO a C) ∧ XCls K C ∧ PySem.W.kitOne K (.ref C) (.ref cN) = some b1 ∧ PySem.W.kitOne K (.ref C) (.ref cP) = some b2 ∧ PySem.W.kitOne K (.ref C) (.ref cL) = some b3 ∧ PySem.W.kitOne K (.ref C) (.ref cB) = some b4 ∧
  PySem.W.kitOne K (.ref C) (.type "ValueError") = some true ∧ ∀ (H' : Hp) (l : Addr), Same H H' → H' l = some (.lst [.bl b1, .bl b2, .bl b3, .bl b4, .bl true]) → Q (.ref l) H'
/-- the fields of a search -/
def flds (lo hi th : Int) (r : Addr) : List (Str × V) := [("least", .int lo), ("greatest", .int hi), ("things", .int th), ("record", .ref r)]
theorem put_l {l h t : Int} {r : Addr} (x : Int) : putF "least" (.int x) (flds l h t r) = flds x h t r := rfl
theorem put_g {l h t : Int} {r : Addr} (x : Int) : putF "greatest" (.int x) (flds l h t r) = flds l x t r := rfl
theorem put_t {l h t : Int} {r : Addr} (x : Int) : putF "things" (.int x) (flds l h t r) = flds l h x r := rfl
structure STxt (K : PySem.W.Frag) (C : Addr) : Prop where
  cl : Cls K C
  nl : NoAttr K C "least"
  ng : NoAttr K C "greatest"
  nt : NoAttr K C "things"
  nr : NoAttr K C "record"
/-- a search on the heap: its record at r -/
def SeAt (C : Addr) (H : Hp) (x r : Addr) (lo hi th : Int) (ws : List (Int × Bool)) : Prop := ∃ dx us, H x = some (.ins C dx (flds lo hi th r)) ∧ H r = some (.lst us) ∧ PairsV H us ws
theorem SeAt.same {C : Addr} {H H' : Hp} {x r : Addr} {lo hi th : Int} {ws : List (Int × Bool)} (s : Same H H') (h : SeAt C H x r lo hi th ws) : SeAt C H' x r lo hi th ws :=
  let ⟨dx, us, a, b, c⟩ := h; ⟨dx, us, s _ _ a, s _ _ b, c.tups s.tups⟩
def spFewX (cN : Addr) : Sp := fun vs H Q E => ∃ f t, vs = [.int f, .int t] ∧ sm f ∧ sm t ∧ (COk 1000 f t → Q (fewV f t) H) ∧ (¬ COk 1000 f t → E (.ref cN) none H)
def spChX (cN : Addr) : Sp := fun vs H Q E => ∃ f t, vs = [.int f, .int t] ∧ sm f ∧ sm t ∧ (COk 1000 f t → (f = 0 → Q .non H) ∧ (0 < f → ∀ a, H a = none → Q (.ref a) (upd H a (.tup [.int (lo f.toNat t.toNat : Nat), .int (hi f.toNat t.toNat : Nat)])))) ∧ (¬ COk 1000 f t → E (.ref cN) none H)
def spInit (C : Addr) : Sp := fun vs H Q _ => ∃ (x dx : Addr) (f t : Int), vs = [.ref x, .int f, .int t] ∧ H x = some (.ins C dx []) ∧ COk 1000 f t ∧ ∀ (r : Addr) (H' : Hp), H r = none → SeAt C H' x r 0 f t [] → (∀ b o, H b = some o → b ≠ x → H' b = some o) → Q .non H'
def spCk (C cL : Addr) : Sp := fun vs H Q E => ∃ (x r : Addr) (l h t d : Int) (ws : List (Int × Bool)), vs = [.ref x, .int d] ∧ SeAt C H x r l h t ws ∧ sm d ∧ (t ≠ 0 ∧ l < d ∧ d ≤ h → Q .non H) ∧ (¬ (t ≠ 0 ∧ l < d ∧ d ≤ h) → E (.ref cL) none H)
def spDrp (C cL : Addr) : Sp := fun vs H Q E => ∃ (x r : Addr) (l h t d : Int) (b : Bool) (ws : List (Int × Bool)), vs = [.ref x, .int d, .bl b] ∧ SeAt C H x r l h t ws ∧ sm d ∧ ws.length ≤ 1000 ∧
  (t ≠ 0 ∧ l < d ∧ d ≤ h → ∀ H', SeAt C H' x r (if b = true then l else d) (if b = true then d - 1 else h) (if b = true then t - 1 else t) (ws ++ [(d, b)]) → (∀ c o, H c = some o → c ≠ x → c ≠ r → H' c = some o) → Q (.int (ws.length + 1)) H') ∧ (¬ (t ≠ 0 ∧ l < d ∧ d ≤ h) → E (.ref cL) none H)
def spSpan (C : Addr) : Sp := fun vs H Q _ => ∃ (x r : Addr) (l h t : Int) (ws : List (Int × Bool)), vs = [.ref x] ∧ SeAt C H x r l h t ws ∧ ∀ p, H p = none → Q (.ref p) (upd H p (.tup [.int l, .int h]))
def spLeft (C : Addr) : Sp := fun vs H Q _ => ∃ (x r : Addr) (l h t : Int) (ws : List (Int × Bool)), vs = [.ref x] ∧ SeAt C H x r l h t ws ∧ Q (.int t) H
def spDrops (C : Addr) : Sp := fun vs H Q _ => ∃ (x r : Addr) (l h t : Int) (ws : List (Int × Bool)), vs = [.ref x] ∧ SeAt C H x r l h t ws ∧ ∀ p us, H p = none → PairsV H us ws → Q (.ref p) (upd H p (.lst us))
def spNeed (C cN : Addr) : Sp := fun vs H Q E => ∃ (x r : Addr) (l h t : Int) (ws : List (Int × Bool)), vs = [.ref x] ∧ SeAt C H x r l h t ws ∧ sm (h - l) ∧ sm t ∧ (COk 1000 (h - l) t → Q (fewV (h - l) t) H) ∧ (¬ COk 1000 (h - l) t → E (.ref cN) none H)
def spAdv (C cN : Addr) : Sp := fun vs H Q E => ∃ (x r : Addr) (l h t : Int) (ws : List (Int × Bool)), vs = [.ref x] ∧ SeAt C H x r l h t ws ∧ sm (h - l) ∧ sm t ∧
  (COk 1000 (h - l) t → (h - l = 0 → Q .non H) ∧ (0 < h - l → ∀ H' a, Same H H' → H' a = some (.tup [.int (l + (lo (h - l).toNat t.toNat : Nat)), .int (l + (hi (h - l).toNat t.toNat : Nat))]) → Q (.ref a) H')) ∧ (¬ COk 1000 (h - l) t → E (.ref cN) none H)
def spGone : Sp := fun vs H Q _ => ∃ c l h t : Int, vs = [.int c, .int l, .int h, .int t] ∧ 0 ≤ l ∧ l ≤ h ∧ h ≤ 1000 ∧ 0 ≤ t ∧ ∀ (g : Int) (H' : Hp), Same H H' → sm g → (t = 0 ∨ ¬ (l < g ∧ g ≤ h)) → Q (.int g) H'
def nfL : List V := [.bl false, .bl false, .bl true, .bl false, .bl true]
def ncL : List V := [.bl true, .bl false, .bl false, .bl false, .bl true]
def spRefd (C : Addr) : Sp := fun vs H Q _ => ∃ (x r : Addr) (l h t d way : Int) (b : Bool) (ws : List (Int × Bool)), vs = [.ref x, .int way, .int d, .bl b] ∧ SeAt C H x r l h t ws ∧ sm d ∧ ws.length ≤ 1000 ∧ sm (h - l) ∧ sm t ∧
  ((way = 0 ∧ ¬ (t ≠ 0 ∧ l < d ∧ d ≤ h) ∧ ∀ (H' : Hp) (y : Addr), Same H H' → H' y = some (.lst nfL) → Q (.ref y) H') ∨ ((way = 1 ∨ way = 2) ∧ ¬ COk 1000 (h - l) t ∧ ∀ (H' : Hp) (y : Addr), Same H H' → H' y = some (.lst ncL) → Q (.ref y) H'))
def spStands (C : Addr) : Sp := fun vs H Q _ => ∃ (x r dn : Addr) (l h t : Int) (ds : List V) (ws : List (Int × Bool)), vs = [.ref x, .int l, .int h, .int t, .ref dn] ∧ SeAt C H x r l h t ws ∧ H dn = some (.lst ds) ∧ PairsV H ds ws ∧ 0 ≤ l ∧ l ≤ h ∧ h ≤ 1000 ∧ 0 ≤ t ∧ t ≤ 12 ∧ ws.length ≤ 1000 ∧ ∀ H', Same H H' → Q (.bl true) H'
section
variable {P : Program} {w : World} {K : PySem.W.Frag} {mg : Str → Option Value} {base : Heap} {tk : Tok}
theorem ok_floors_reached (D : DefAt K mg "floors_reached" s_floors_reached ["things", "drops"]) (M_range : mg "range" = none) :
    Own P w K mg base "floors_reached" 1 ["things", "drops"] (sp2 (fun t d => 0 ≤ t ∧ t ≤ 100000 ∧ 0 ≤ d ∧ d ≤ 100000) reachV) := by
  refine own_of D sc_floors_reached (fun vs H Q E h => ?_) (fun f cdv A outer s H vs Q E hr h => ?_)
  · obtain ⟨t, d, rfl, _⟩ := h
    rfl
  obtain ⟨t, d, rfl, ⟨h0, h1, h2, h3⟩, q⟩ := h
  have nd := sc_floors_reached.nd
  refine ⟨_, (pss_cons (ps_set (i := 2) nd rfl (Or.inl rfl) pe_int) (pss_cons (ps_set (i := 3) nd rfl (Or.inl rfl) pe_int) (pss_cons (ps_for PassesOwn.never rfl (pi_range2 (by rfl) M_range (pa_cons pe_int (pa_cons (pe_op op_add (pv 0) pe_int) pa_nil))) (pg_name (i := 4) nd rfl (Or.inl rfl)) (pss_cons (ps_set (i := 3) nd rfl (Or.inl rfl) (pe_op op_fdiv (pe_op op_mul (pv 3) (pe_op op_add (pe_op op_sub (pv 1) (pv 4)) pe_int)) (pv 4))) (pss_one (ps_set (i := 2) nd rfl (Or.inl rfl) (pe_op op_add (pv 2) (pv 3)))))) (pss_one (ps_ret (pv 2)))))), ?_⟩
  refine ⟨_, rfl, _, _, rfl, rfl, 1, t + 1, rfl, ⟨by omega, by omega, by omega, by omega⟩, ?_⟩
  refine for_range (lo := 1) (n := (t + 1 - 1).toNat) (fun i σ H' => H' = H ∧ ∃ c, σ = [some (.int t), some (.int d), some (.int (rr i d.toNat : Nat)), some (.int (ch d.toNat i : Nat)), c]) ⟨rfl, none, ?_⟩ ?_ ?_
  · show [some (V.int t), some (V.int d), some (V.int 0), some (V.int 1), none] = _
    rw [ch_zero]
    rfl
  · rintro i σ H' hi ⟨rfl, c, rfl⟩
    refine ⟨_, rfl, _, rfl, _, rfl, _, _, rfl, rfl, _, _, rfl, rfl, _, _, rfl, rfl, .inr ⟨by omega, by omega⟩, _, rfl, _, _, rfl, rfl, ⟨by omega, by omega⟩, ?_⟩
    refine ⟨_, rfl, _, rfl, _, _, rfl, rfl, rfl, some (.int (1 + i)), ?_⟩
    have e : (ch d.toNat i : Int) * (d - (1 + (i : Int)) + 1) / (1 + (i : Int)) = (ch d.toNat (i + 1) : Nat) := by
      rw [← Int.fdiv_eq_ediv_of_nonneg _ (by omega)]
      exact ch_div d.toNat i _ _ (by omega) (by omega)
    show [some (V.int t), some (V.int d), some (V.int (_ + _)), some (V.int _), _] = _
    rw [e]
    rfl
  · rintro σ H' ⟨rfl, c, rfl⟩
    refine ⟨_, rfl, ?_⟩
    have e : (t + 1 - 1).toNat = t.toNat := by omega
    rw [e]
    exact q
theorem ok_fewest_drops (D : DefAt K mg "fewest_drops" s_fewest_drops ["floors", "things"]) (O_floors_reached : Own P w K mg base "floors_reached" 1 ["things", "drops"] (sp2 (fun t d => 0 ≤ t ∧ t ≤ 100000 ∧ 0 ≤ d ∧ d ≤ 100000) reachV)) :
    Own P w K mg base "fewest_drops" 2 ["floors", "things"] (sp2 (COk 1000) fewV) := by
  refine own_of D sc_fewest_drops (fun vs H Q E h => ?_) (fun f cdv A outer s H vs Q E hr h => ?_)
  · obtain ⟨_, _, rfl, _⟩ := h
    rfl
  obtain ⟨f, t, rfl, ⟨h0, h1, h2, h3, h4⟩, q⟩ := h
  have nd := sc_fewest_drops.nd
  have can : Can f.toNat t.toNat := h4.elim (fun z => .inl (by omega)) fun z => .inr (by omega)
  refine ⟨_, (pss_cons (ps_set (i := 2) nd rfl (Or.inl rfl) pe_int) (pss_cons (ps_while PassesOwn.never (pt_cmpR op_lt (pe_own O_floors_reached (hr.mono (by omega)) (by rfl) (pa_cons (pv 1) (pa_cons (pv 2) pa_nil))) (pv 0) (nomark _)) (pss_one (ps_set (i := 2) nd rfl (Or.inl rfl) (pe_op op_add (pv 2) pe_int)))) (pss_one (ps_ret (pv 2))))), ?_⟩
  refine ⟨fun m σ H' => H' = H ∧ ∃ d : Nat, σ = [some (.int f), some (.int t), some (.int d)] ∧ m = f.toNat - d ∧ d ≤ f.toNat ∧ ∀ e, e < d → rr t.toNat e < f.toNat, ⟨_, rfl, 0, rfl, rfl, Nat.zero_le _, fun e he => absurd he (Nat.not_lt_zero _)⟩, ?_⟩
  rintro m σ H' ⟨rfl, d, rfl, rfl, hd, hl⟩
  refine ⟨_, rfl, _, rfl, t, d, rfl, ⟨by omega, by omega, by omega, by omega⟩, _, rfl, _, _, rfl, rfl, _, rfl, ?_⟩
  have ed : ((d : Nat) : Int).toNat = d := by omega
  refine ite2 (fun c => ?_) (fun c => ?_)
  · have c' : ((rr t.toNat ((d : Nat) : Int).toNat : Nat) : Int) < f := of_decide_eq_true c
    rw [ed] at c'
    have dl : d < f.toNat := by
      by_cases z : d < f.toNat
      · exact z
      · have e : d = f.toNat := by omega
        have := can_ge can
        rw [← e] at this
        omega
    refine ⟨_, fun _ _ n => n, ?_⟩
    refine ⟨_, rfl, _, _, rfl, rfl, f.toNat - (d + 1), by omega, rfl, d + 1, rfl, rfl, by omega, fun e he => ?_⟩
    by_cases z : e = d
    · rw [z]; omega
    · exact hl e (by omega)
  · have c' : ¬ ((rr t.toNat ((d : Nat) : Int).toNat : Nat) : Int) < f := fun z => c (decide_eq_true z)
    rw [ed] at c'
    have e := few_unique can (d := d) (by omega) hl
    refine ⟨_, rfl, ?_⟩
    rw [e]
    exact q
theorem ok_cell (D : DefAt K mg "_law_cell_at" s__law_cell_at ["script", "k"]) (M_len : mg "len" = none) : Own P w K mg base "_law_cell_at" 1 ["script", "k"] (spCell K) := by
  refine own_of D sc__law_cell_at (fun vs H Q E h => ?_) (fun f cdv A outer s H vs Q E hr h => ?_)
  · obtain ⟨a, ns, k, rfl, _⟩ := h
    rfl
  obtain ⟨a, ns, k, rfl, hS, h0, q⟩ := h
  refine ⟨_, (pss_cons (ps_if (pt_cmpR op_lt (pv 1) (pe_callB call_len_seq (by rfl) M_len B_len (pa_cons (pv 0) pa_nil)) (nomark _)) (pss_one (ps_ret (pe_ix ix_list (pv 0) (pv 1) (fun _ _ => rfl)))) pss_nil) (pss_one (ps_ret pe_int))), ?_⟩
  refine ⟨_, rfl, _, rfl, a, _, rfl, .inl hS, _, _, rfl, rfl, _, rfl, ?_⟩
  rw [List.length_map]
  refine ite2 (fun c => ?_) (fun c => ?_)
  · have c' : k < (ns.length : Int) := of_decide_eq_true c
    have hk : k.toNat < ns.length := by omega
    refine ⟨_, rfl, _, rfl, a, _, k, .int (cellV ns k), rfl, rfl, hS, ?_, q⟩
    have e : k = ((k.toNat : Nat) : Int) := by omega
    rw [e]
    refine atI_nat ?_
    unfold cellV
    rw [List.getElem?_map, List.getD_eq_getElem?_getD, ← e, List.getElem?_eq_getElem hk]
    rfl
  · have c' : ¬ k < (ns.length : Int) := fun z => c (decide_eq_true z)
    have e : cellV ns k = 0 := by
      unfold cellV
      rw [List.getD_eq_getElem?_getD, List.getElem?_eq_none (by omega)]
      rfl
    rw [e] at q
    exact q
theorem ok_whole (D : DefAt K mg "_law_whole" s__law_whole ["found"]) (M_isinstance : mg "isinstance" = none) (M_int : mg "int" = none) (M_bool : mg "bool" = none) (k1 : PySem.W.kitOne K (.type "int") (.type "int") = some true) (k2 : PySem.W.kitOne K (.type "int") (.type "bool") = some false) :
    Own P w K mg base "_law_whole" 1 ["found"] spWhole := by
  refine own_of D sc__law_whole (fun vs H Q E h => ?_) (fun f cdv A outer s H vs Q E hr h => ?_)
  · obtain ⟨t, rfl, _⟩ := h
    rfl
  obtain ⟨t, rfl, q⟩ := h
  refine ⟨_, (pss_one (ps_ret (pe_and (pe_callB call_isinst (by rfl) M_isinstance B_isinstance (pa_cons (pv 0) (pa_cons (pe_bltn (v := .ty "int") (by rfl) M_int B_int (by rfl)) pa_nil))) (pe_one (pe_not (pe_callB call_isinst (by rfl) M_isinstance B_isinstance (pa_cons (pv 0) (pa_cons (pe_bltn (v := .ty "bool") (by rfl) M_bool B_bool (by rfl)) pa_nil)))))))), ?_⟩
  refine ⟨_, rfl, _, _, _, _, _, rfl, rfl, .int t, k1, _, rfl, iteT ?_⟩
  exact ⟨_, rfl, _, _, _, _, _, rfl, rfl, .int t, k2, _, rfl, q⟩
theorem ok_pair (D : DefAt K mg "_law_pair" s__law_pair ["found"]) (M_isinstance : mg "isinstance" = none) (M_len : mg "len" = none) (M_tuple : mg "tuple" = none) (O__law_whole : Own P w K mg base "_law_whole" 1 ["found"] spWhole) (k1 : PySem.W.kitOne K (.type "tuple") (.type "tuple") = some true) :
    Own P w K mg base "_law_pair" 2 ["found"] spPair := by
  refine own_of D sc__law_pair (fun vs H Q E h => ?_) (fun f cdv A outer s H vs Q E hr h => ?_)
  · obtain ⟨_, _, _, rfl, _⟩ := h
    rfl
  obtain ⟨a, i, j, rfl, ha, q⟩ := h
  refine ⟨_, (pss_one (ps_ret (pe_and (pe_callB call_isinst (by rfl) M_isinstance B_isinstance (pa_cons (pv 0) (pa_cons (pe_bltn (v := .ty "tuple") (by rfl) M_tuple B_tuple (by rfl)) pa_nil))) (pe_and (pe_cmpR op_eq (pe_callB call_len_seq (by rfl) M_len B_len (pa_cons (pv 0) pa_nil)) pe_int (nomark _)) (pe_and (pe_own O__law_whole (hr.mono (by omega)) (by rfl) (pa_cons (pe_ix ix_tup (pv 0) pe_int (fun _ _ => rfl)) pa_nil)) (pe_one (pe_own O__law_whole (hr.mono (by omega)) (by rfl) (pa_cons (pe_ix ix_tup (pv 0) pe_int (fun _ _ => rfl)) pa_nil)))))))), ?_⟩
  refine ⟨_, rfl, _, _, _, _, _, rfl, rfl, .tup ha, k1, _, rfl, iteT ?_⟩
  refine ⟨_, rfl, a, _, rfl, .inr (SqT.of ha), rfl, _, rfl, iteT ?_⟩
  refine ⟨_, rfl, a, _, 0, _, rfl, rfl, SqT.of ha, rfl, i, rfl, _, rfl, iteT ?_⟩
  exact ⟨_, rfl, a, _, 1, _, rfl, rfl, SqT.of ha, rfl, j, rfl, q⟩
theorem okx_things {cN : Addr} (D : DefAt K mg "check_things" s_check_things ["things"]) (M_MOST_THINGS : mg "MOST_THINGS" = some (.int 12 tk)) (M_NoCase : mg "NoCase" = some (.ref cN)) (q_NoCase : PySem.W.excIn K cN [.type "ValueError", .type "Exception", .type "BaseException", .type "object"] "ValueError.__new__" = true) :
    OwnX P w K mg base "check_things" 1 ["things"] (spThX cN) := by
  have R_MOST_THINGS : RelV (.int 12) (.int 12 tk) := ⟨tk, rfl⟩
  refine ownx_of D sc_check_things (fun vs H Q E h => ?_) (fun f cdv A outer s H vs Q E hr h => ?_)
  · obtain ⟨t, rfl, _⟩ := h
    rfl
  obtain ⟨t, rfl, h0, q, x⟩ := h
  refine ⟨_, (pss_one (ps_if (PW.pt (pw_or (pt_cmpR op_lt (pv 0) pe_int (nomark _)) (pw_or1 (pt_cmpR op_gt (pv 0) (pe_glob (by rfl) M_MOST_THINGS R_MOST_THINGS) (nomark _))))) (pss_one (ps_raise rfl raise_E (by rfl) M_NoCase q_NoCase (pe_fany (pj_str (pj_val (pe_glob (by rfl) M_MOST_THINGS R_MOST_THINGS) (pj_str (pj_val (pv 0) pj_nil))))))) pss_nil)), ?_⟩
  refine ⟨_, rfl, _, _, rfl, rfl, _, rfl, ?_⟩
  refine ite2 (fun c => ?_) (fun c => ?_)
  · have c' : t < 0 := of_decide_eq_true c
    exact iteT ⟨(sm_small (by omega) (by omega)).fmt, _, rfl, h0.fmt, fun _ => x (by omega)⟩
  · have c' : ¬ t < 0 := fun z => c (decide_eq_true z)
    refine ⟨_, rfl, _, _, rfl, rfl, _, rfl, ?_⟩
    refine ite2 (fun c2 => ?_) (fun c2 => ?_)
    · have c2' : 12 < t := of_decide_eq_true c2
      exact ⟨(sm_small (by omega) (by omega)).fmt, _, rfl, h0.fmt, fun _ => x (by omega)⟩
    · have c2' : ¬ 12 < t := fun z => c2 (decide_eq_true z)
      exact q ⟨by omega, by omega⟩
theorem okx_house {cN : Addr} (D : DefAt K mg "check_house" s_check_house ["floors", "things", "most"]) (M_NoCase : mg "NoCase" = some (.ref cN)) (q_NoCase : PySem.W.excIn K cN [.type "ValueError", .type "Exception", .type "BaseException", .type "object"] "ValueError.__new__" = true)
    (O_check_things : OwnX P w K mg base "check_things" 1 ["things"] (spThX cN)) : OwnX P w K mg base "check_house" 2 ["floors", "things", "most"] (spHoX cN) := by
  refine ownx_of D sc_check_house (fun vs H Q E h => ?_) (fun f cdv A outer s H vs Q E hr h => ?_)
  · obtain ⟨_, _, _, rfl, _⟩ := h
    rfl
  obtain ⟨f, t, m, rfl, hf, ht, hm, q, x⟩ := h
  refine ⟨_, (pss_cons (ps_expr (pe_ownx O_check_things pass_E (hr.mono (by omega)) (by rfl) (pa_cons (pv 1) pa_nil))) (pss_cons (ps_if (PW.pt (pw_or (pt_cmpR op_lt (pv 0) pe_int (nomark _)) (pw_or1 (pt_cmpR op_gt (pv 0) (pv 2) (nomark _))))) (pss_one (ps_raise rfl raise_E (by rfl) M_NoCase q_NoCase (pe_fany (pj_str (pj_val (pv 2) (pj_str (pj_val (pv 0) pj_nil))))))) pss_nil) (pss_one (ps_if (PW.pt (pw_and (pt_cmpR op_gt (pv 0) pe_int (nomark _)) (pw_and1 (pt_cmpR op_eq (pv 1) pe_int (nomark _))))) (pss_one (ps_raise rfl raise_E (by rfl) M_NoCase q_NoCase pe_str)) pss_nil)))), ?_⟩
  refine ⟨_, rfl, t, rfl, ht, fun h1 => ?_, fun h1 => x fun z => h1 ⟨z.2.2.1, z.2.2.2.1⟩⟩
  refine ⟨_, rfl, _, _, rfl, rfl, _, rfl, ?_⟩
  refine ite2 (fun c => ?_) (fun c => ?_)
  · have c' : f < 0 := of_decide_eq_true c
    exact iteT ⟨_, rfl, hm.fmt, _, rfl, hf.fmt, fun _ => x fun z => by have := z.1; omega⟩
  have c' : ¬ f < 0 := fun z => c (decide_eq_true z)
  refine ⟨_, rfl, _, rfl, _, _, rfl, rfl, _, rfl, ?_⟩
  refine ite2 (fun c2 => ?_) (fun c2 => ?_)
  · have c2' : m < f := of_decide_eq_true c2
    exact ⟨_, rfl, hm.fmt, _, rfl, hf.fmt, fun _ => x fun z => by have := z.2.1; omega⟩
  have c2' : ¬ m < f := fun z => c2 (decide_eq_true z)
  refine ⟨_, rfl, _, _, rfl, rfl, _, rfl, ?_⟩
  refine ite2 (fun c3 => ?_) (fun c3 => ?_)
  · have c3' : 0 < f := of_decide_eq_true c3
    refine ⟨_, rfl, rfl, _, rfl, ?_⟩
    refine ite2 (fun c4 => ?_) (fun c4 => ?_)
    · have c4' : t = 0 := by
        have z : V.int t = V.int 0 := of_decide_eq_true c4
        injection z
      exact x fun z => by have := z.2.2.2.2; omega
    · have c4' : t ≠ 0 := fun z => c4 (decide_eq_true (by rw [z]))
      exact q ⟨by omega, by omega, h1.1, h1.2, .inr (by have := h1.1; omega)⟩
  · have c3' : ¬ 0 < f := fun z => c3 (decide_eq_true z)
    exact iteF (q ⟨by omega, by omega, h1.1, h1.2, .inl (by omega)⟩)
theorem ok_which {cN cP cL cB : Addr} (D : DefAt K mg "_law_which" s__law_which ["e"]) (M_isinstance : mg "isinstance" = none) (M_ValueError : mg "ValueError" = none) (M_NoCase : mg "NoCase" = some (.ref cN)) (M_NoPlan : mg "NoPlan" = some (.ref cP)) (M_NoFloor : mg "NoFloor" = some (.ref cL)) (M_BadLine : mg "BadLine" = some (.ref cB)) :
    OwnH P w K mg base "_law_which" 1 ["e"] (spWhich K cN cP cL cB) := by
  have R_NoCase : RelV (.ref cN) (.ref cN) := rfl
  have R_NoPlan : RelV (.ref cP) (.ref cP) := rfl
  have R_NoFloor : RelV (.ref cL) (.ref cL) := rfl
  have R_BadLine : RelV (.ref cB) (.ref cB) := rfl
  refine ownH_of D sc__law_which (fun vs H Q E h => ?_) (fun f cdv A outer s H vs Q E hr h => ?_)
  · obtain ⟨_, _, _, _, _, _, rfl, _⟩ := h
    rfl
  obtain ⟨a, C, b1, b2, b3, b4, rfl, ea, xc, k1, k2, k3, k4, k5, q⟩ := h
  have nd := sc__law_which.nd
  refine ⟨_, (pss_cons (ps_set (i := 1) nd rfl (Or.inl rfl) (pe_lst (pa_cons (pe_callB call_isinstX (by rfl) M_isinstance B_isinstance (pa_cons (pv 0) (pa_cons (pe_glob (by rfl) M_NoCase R_NoCase) pa_nil))) (pa_cons (pe_callB call_isinstX (by rfl) M_isinstance B_isinstance (pa_cons (pv 0) (pa_cons (pe_glob (by rfl) M_NoPlan R_NoPlan) pa_nil))) (pa_cons (pe_callB call_isinstX (by rfl) M_isinstance B_isinstance (pa_cons (pv 0) (pa_cons (pe_glob (by rfl) M_NoFloor R_NoFloor) pa_nil))) (pa_cons (pe_callB call_isinstX (by rfl) M_isinstance B_isinstance (pa_cons (pv 0) (pa_cons (pe_glob (by rfl) M_BadLine R_BadLine) pa_nil))) pa_nil)))))) (pss_one (ps_ret (pe_op op_cat (pv 1) (pe_lst (pa_cons (pe_callB call_isinstX (by rfl) M_isinstance B_isinstance (pa_cons (pv 0) (pa_cons (pe_bltn (v := .ty "ValueError") (by rfl) M_ValueError B_ValueError (by rfl)) pa_nil))) pa_nil)))))), ?_⟩
  refine ⟨_, rfl, _, a, C, _, b1, rfl, rfl, ea, xc, k1, _, rfl, _, a, C, _, b2, rfl, rfl, ea, xc, k2, _, rfl, _, a, C, _, b3, rfl, rfl, ea, xc, k3, _, rfl, _, a, C, _, b4, rfl, rfl, ea, xc, k4, by show 4 ≤ sizeLine; decide, fun l1 hl1 => ?_⟩
  have s1 := same_upd hl1 (.lst [.bl b1, .bl b2, .bl b3, .bl b4])
  refine ⟨_, rfl, _, rfl, _, a, C, _, true, rfl, rfl, s1 _ _ ea, xc, k5, by show 1 ≤ sizeLine; decide, fun l2 hl2 => ?_⟩
  have s2 := same_upd hl2 (.lst [.bl true])
  refine ⟨l1, l2, _, _, rfl, rfl, s2 _ _ upd_same, upd_same, by show 5 ≤ sizeLine; decide, fun l3 hl3 => ?_⟩
  exact q _ l3 (s1.trans (s2.trans (same_upd hl3 _))) upd_same
theorem pick2 (c : Int) (x y : V) : ∃ v, atI [x, y] (c % 2) = some v ∧ (v = x ∨ v = y) := by
  rcases (by omega : c % 2 = 0 ∨ c % 2 = 1) with e | e
  · exact ⟨x, by rw [e]; rfl, .inl rfl⟩
  · exact ⟨y, by rw [e]; rfl, .inr rfl⟩
theorem pick4 (c : Int) (x y z u : V) : ∃ v, atI [x, y, z, u] (c % 4) = some v ∧ (v = x ∨ v = y ∨ v = z ∨ v = u) := by
  rcases (by omega : c % 4 = 0 ∨ c % 4 = 1 ∨ c % 4 = 2 ∨ c % 4 = 3) with e | e | e | e
  · exact ⟨x, by rw [e]; rfl, .inl rfl⟩
  · exact ⟨y, by rw [e]; rfl, .inr (.inl rfl)⟩
  · exact ⟨z, by rw [e]; rfl, .inr (.inr (.inl rfl))⟩
  · exact ⟨u, by rw [e]; rfl, .inr (.inr (.inr rfl))⟩
theorem okx_case {cN : Addr} (D : DefAt K mg "check_case" s_check_case ["floors", "things"]) (M_MOST_FLOORS : mg "MOST_FLOORS" = some (.int 1000 tk)) (O_check_house : OwnX P w K mg base "check_house" 2 ["floors", "things", "most"] (spHoX cN)) :
    OwnX P w K mg base "check_case" 3 ["floors", "things"] (spCaX cN 1000) := by
  have R_MOST_FLOORS : RelV (.int 1000) (.int 1000 tk) := ⟨tk, rfl⟩
  refine ownx_of D sc_check_case (fun vs H Q E h => ?_) (fun f cdv A outer s H vs Q E hr h => ?_)
  · obtain ⟨_, _, rfl, _⟩ := h
    rfl
  obtain ⟨f, t, rfl, hf, ht, q, x⟩ := h
  refine ⟨_, (pss_one (ps_expr (pe_ownx O_check_house pass_E (hr.mono (by omega)) (by rfl) (pa_cons (pv 0) (pa_cons (pv 1) (pa_cons (pe_glob (by rfl) M_MOST_FLOORS R_MOST_FLOORS) pa_nil)))))), ?_⟩
  exact ⟨_, rfl, _, rfl, f, t, 1000, rfl, hf, ht, sm_small (by omega) (by omega), q, x⟩
theorem okx_fewest2 {cN : Addr} (D : DefAt K mg "fewest" s_fewest ["floors", "things"]) (O_check_case : OwnX P w K mg base "check_case" 3 ["floors", "things"] (spCaX cN 1000)) (O_fewest_drops : Own P w K mg base "fewest_drops" 2 ["floors", "things"] (sp2 (COk 1000) fewV)) : OwnX P w K mg base "fewest" 4 ["floors", "things"] (spFewX cN) := by
  refine ownx_of D sc_fewest (fun vs H Q E h => ?_) (fun f cdv A outer s H vs Q E hr h => ?_)
  · obtain ⟨_, _, rfl, _⟩ := h
    rfl
  obtain ⟨f, t, rfl, hf, ht, q, x⟩ := h
  refine ⟨_, (pss_cons (ps_expr (pe_ownx O_check_case pass_E (hr.mono (by omega)) (by rfl) (pa_cons (pv 0) (pa_cons (pv 1) pa_nil)))) (PSs.nox (pss_one (ps_ret (pe_own O_fewest_drops (hr.mono (by omega)) (by rfl) (pa_cons (pv 0) (pa_cons (pv 1) pa_nil))))))), ?_⟩
  exact ⟨_, rfl, _, rfl, f, t, rfl, hf, ht, fun c => ⟨_, rfl, _, rfl, f, t, rfl, c, q c⟩, x⟩
theorem okx_choices2 {cN : Addr} (D : DefAt K mg "choices" s_choices ["floors", "things"]) (O_check_case : OwnX P w K mg base "check_case" 3 ["floors", "things"] (spCaX cN 1000)) (O_fewest_drops : Own P w K mg base "fewest_drops" 2 ["floors", "things"] (sp2 (COk 1000) fewV))
    (O_floors_reached : Own P w K mg base "floors_reached" 1 ["things", "drops"] (sp2 (fun t d => 0 ≤ t ∧ t ≤ 100000 ∧ 0 ≤ d ∧ d ≤ 100000) reachV)) : OwnX P w K mg base "choices" 4 ["floors", "things"] (spChX cN) := by
  refine ownx_of D sc_choices (fun vs H Q E h => ?_) (fun f cdv A outer s H vs Q E hr h => ?_)
  · obtain ⟨_, _, rfl, _⟩ := h
    rfl
  obtain ⟨f, t, rfl, hf, ht, q, x⟩ := h
  have nd := sc_choices.nd
  refine ⟨_, (pss_cons (ps_expr (pe_ownx O_check_case pass_E (hr.mono (by omega)) (by rfl) (pa_cons (pv 0) (pa_cons (pv 1) pa_nil)))) (PSs.nox (pss_cons (ps_if (pt_cmpR op_eq (pv 0) pe_int (nomark _)) (pss_one (ps_ret pe_non)) pss_nil) (pss_cons (ps_set (i := 2) nd rfl (Or.inl rfl) (pe_op op_sub (pe_own O_fewest_drops (hr.mono (by omega)) (by rfl) (pa_cons (pv 0) (pa_cons (pv 1) pa_nil))) pe_int)) (pss_cons (ps_set (i := 3) nd rfl (Or.inl rfl) (pe_op op_sub (pv 0) (pe_own O_floors_reached (hr.mono (by omega)) (by rfl) (pa_cons (pv 1) (pa_cons (pv 2) pa_nil))))) (pss_cons (ps_set (i := 4) nd rfl (Or.inl rfl) (pe_op op_add (pe_own O_floors_reached (hr.mono (by omega)) (by rfl) (pa_cons (pe_op op_sub (pv 1) pe_int) (pa_cons (pv 2) pa_nil))) pe_int)) (pss_one (ps_ret (pe_tup (pa_cons (pv 3) (pa_cons (pv 4) pa_nil))))))))))), ?_⟩
  refine ⟨_, rfl, _, rfl, f, t, rfl, hf, ht, fun hc => ?_, x⟩
  obtain ⟨q0, q1⟩ := q hc
  refine ⟨_, rfl, rfl, _, rfl, ?_⟩
  obtain ⟨h0, h1, h2, h3, h4⟩ := id hc
  refine ite2 (fun c => ?_) (fun c => ?_)
  · have c' : f = 0 := by
      have z : V.int f = V.int 0 := of_decide_eq_true c
      cases z
      rfl
    exact q0 c'
  · have c' : f ≠ 0 := fun z => c (decide_eq_true (by rw [z]))
    have fa := first_facts (f := f.toNat) (t := t.toNat) (by omega) (by omega)
    have fl := few_le (f := f.toNat) (t := t.toNat) (.inr (by omega))
    refine ⟨_, rfl, _, rfl, f, t, rfl, hc, _, _, rfl, rfl, ?_⟩
    dsimp only
    generalize hL : ((few f.toNat t.toNat : Nat) : Int) - 1 = L
    have eL : L.toNat = few f.toNat t.toNat - 1 := by omega
    refine ⟨_, rfl, _, rfl, _, rfl, t, L, rfl, ⟨by omega, by omega, by omega, by omega⟩, _, _, rfl, rfl, ?_⟩
    refine ⟨_, rfl, _, _, rfl, rfl, _, rfl, t - 1, L, rfl, ⟨by omega, by omega, by omega, by omega⟩, _, _, rfl, rfl, ?_⟩
    refine ⟨_, rfl, _, rfl, (by show 2 ≤ sizeLine; decide), fun p hp => ?_⟩
    have e1 : f - ((rr t.toNat L.toNat : Nat) : Int) = (lo f.toNat t.toNat : Nat) := by
      unfold lo
      rw [eL]
      omega
    have e2 : ((rr (t - 1).toNat L.toNat : Nat) : Int) + 1 = (hi f.toNat t.toNat : Nat) := by
      unfold hi
      rw [eL, show (t - 1).toNat = t.toNat - 1 by omega]
      rfl
    dsimp only
    rw [e1, e2]
    exact q1 (by omega) p hp
theorem ok_init {C cN fI : Addr} {fdI : FuncData} (T : STxt K C) (F : Fun K "__init__" "Search.__init__" s_Search___init__ fI fdI) (O_check_case : OwnX P w K mg base "check_case" 3 ["floors", "things"] (spCaX cN 1000)) : FnOk P w K mg base (CXE P w) 4 fI fdI ["self", "floors", "things"] (spInit C) := by
  refine F.okx sc_Search___init__ (fun vs H Q E h => ?_) (fun cdv A outer s H vs Q E hr h => ?_)
  · obtain ⟨_, _, _, _, rfl, _⟩ := h
    rfl
  obtain ⟨x, dx, f, t, rfl, hx, hc, q⟩ := h
  obtain ⟨h0, h1, h2, h3, h4⟩ := id hc
  have nd := sc_Search___init__.nd
  refine ⟨_, (pss_cons (ps_expr (pe_ownx O_check_case pass_E (hr.mono (by omega)) (by rfl) (pa_cons (pv 1) (pa_cons (pv 2) pa_nil)))) (PSs.nox (pss_cons (ps_fld (pv 0) pe_int rfl) (pss_cons (ps_fld (pv 0) (pv 1) rfl) (pss_cons (ps_fld (pv 0) (pv 2) rfl) (pss_one (ps_fld (pv 0) (pe_lst pa_nil) rfl))))))), ?_⟩
  refine ⟨_, rfl, _, rfl, f, t, rfl, sm_small (by omega) (by omega), sm_small (by omega) (by omega), fun _ => ?_, fun z => absurd hc z⟩
  refine ⟨_, rfl, x, C, dx, _, rfl, hx, T.cl, T.nl, by show 0 < 1000; decide, ?_⟩
  refine ⟨_, rfl, _, rfl, x, C, dx, _, rfl, upd_same, T.cl, T.ng, by show 1 < 1000; decide, ?_⟩
  refine ⟨_, rfl, _, rfl, x, C, dx, _, rfl, upd_same, T.cl, T.nt, by show 2 < 1000; decide, ?_⟩
  refine ⟨by show 0 ≤ sizeLine; decide, fun r hr' => ?_⟩
  have nx : x ≠ r := ne_of_none upd_same hr'
  refine ⟨_, rfl, x, C, dx, _, rfl, by rw [upd_ne nx]; exact upd_same, T.cl, T.nr, by show 3 < 1000; decide, ?_⟩
  have hn : H r = none := by
    rw [upd_ne (Ne.symm nx), upd_ne (Ne.symm nx), upd_ne (Ne.symm nx)] at hr'
    exact hr'
  refine q r _ hn ⟨dx, [], upd_same, by rw [upd_ne (Ne.symm nx)]; exact upd_same, .nil⟩ fun b o e nb => ?_
  rw [upd_ne nb, upd_ne (ne_of_none e hn), upd_ne nb, upd_ne nb, upd_ne nb]
  exact e
theorem ok_ck {C cL fI : Addr} {fdI : FuncData} (T : STxt K C) (F : Fun K "check_drop" "Search.check_drop" s_Search_check_drop fI fdI) (M_NoFloor : mg "NoFloor" = some (.ref cL)) (q_NoFloor : PySem.W.excIn K cL [.type "ValueError", .type "Exception", .type "BaseException", .type "object"] "ValueError.__new__" = true) :
    FnOk P w K mg base (CXE P w) 1 fI fdI ["self", "floor"] (spCk C cL) := by
  refine F.okx sc_Search_check_drop (fun vs H Q E h => ?_) (fun cdv A outer s H vs Q E hr h => ?_)
  · obtain ⟨_, _, _, _, _, _, _, rfl, _⟩ := h
    rfl
  obtain ⟨x, r, l, h, t, d, ws, rfl, ⟨dx, us, hx, hr', hP⟩, sd, q, xl⟩ := h
  refine ⟨_, (pss_cons (ps_if (pt_cmpR op_eq (pe_fld (pv 0) rfl) pe_int (nomark _)) (pss_one (ps_raise rfl raise_E (by rfl) M_NoFloor q_NoFloor (pe_fany (pj_str (pj_val (pv 1) pj_nil))))) pss_nil) (pss_one (ps_if (PW.pt (pw_or (pt_cmpR op_le (pv 1) (pe_fld (pv 0) rfl) (nomark _)) (pw_or1 (pt_cmpR op_gt (pv 1) (pe_fld (pv 0) rfl) (nomark _))))) (pss_one (ps_raise rfl raise_E (by rfl) M_NoFloor q_NoFloor (pe_fany (pj_str (pj_val (pv 1) (pj_str pj_nil)))))) pss_nil))), ?_⟩
  refine ⟨_, rfl, x, C, dx, _, _, rfl, hx, T.cl, T.nt, rfl, rfl, _, rfl, ?_⟩
  refine ite2 (fun c => ?_) (fun c => ?_)
  · have c' : t = 0 := by
      have z : V.int t = V.int 0 := of_decide_eq_true c
      injection z
    exact ⟨_, rfl, sd.fmt, fun _ => xl fun z => z.1 c'⟩
  have c' : t ≠ 0 := fun z => c (decide_eq_true (by rw [z]))
  refine ⟨_, rfl, _, rfl, x, C, dx, _, _, rfl, hx, T.cl, T.nl, rfl, _, _, rfl, rfl, _, rfl, ?_⟩
  refine ite2 (fun c2 => ?_) (fun c2 => ?_)
  · have c2' : d ≤ l := of_decide_eq_true c2
    exact iteT ⟨_, rfl, sd.fmt, fun _ => xl fun z => by omega⟩
  have c2' : ¬ d ≤ l := fun z => c2 (decide_eq_true z)
  refine ⟨_, rfl, _, rfl, x, C, dx, _, _, rfl, hx, T.cl, T.ng, rfl, _, _, rfl, rfl, _, rfl, ?_⟩
  refine ite2 (fun c3 => ?_) (fun c3 => ?_)
  · have c3' : h < d := of_decide_eq_true c3
    exact ⟨_, rfl, sd.fmt, fun _ => xl fun z => by omega⟩
  · have c3' : ¬ h < d := fun z => c3 (decide_eq_true z)
    exact q ⟨c', by omega, by omega⟩
theorem ok_drp {C cL fD fK : Addr} {fdD fdK : FuncData} (T : STxt K C) (F : Fun K "dropped" "Search.dropped" s_Search_dropped fD fdD) (M_len : mg "len" = none) (H_Search_check_drop : Meth K C "check_drop" fK) (O_Search_check_drop : FnOk P w K mg base (CXE P w) 1 fK fdK ["self", "floor"] (spCk C cL)) (b_Search_check_drop : Binds K fdK ["self", "floor"] []) :
    FnOk P w K mg base (CXE P w) 2 fD fdD ["self", "floor", "broken"] (spDrp C cL) := by
  have C_Search := T.cl
  refine F.okx sc_Search_dropped (fun vs H Q E h => ?_) (fun cdv A outer s H vs Q E hr h => ?_)
  · obtain ⟨_, _, _, _, _, _, _, _, rfl, _⟩ := h
    rfl
  obtain ⟨x, r, l, h, t, d, b, ws, rfl, hse, sd, hz, q, xl⟩ := h
  obtain ⟨dx, us, hx, hr', hP⟩ := id hse
  have nxr : x ≠ r := ne_of hx hr' (by intro z; cases z)
  have hlen := hP.len
  refine ⟨_, (pss_cons (ps_expr (pe_meth (pv 0) C_Search H_Search_check_drop O_Search_check_drop (hr.mono (by omega)) b_Search_check_drop .nil pass_E (pa_cons (pv 1) pa_nil))) (PSs.nox (pss_cons (ps_if (pt_val (pv 2)) (pss_cons (ps_fld (pv 0) (pe_op op_sub (pv 1) pe_int) rfl) (pss_one (ps_fld (pv 0) (pe_op op_sub (pe_fld (pv 0) rfl) pe_int) rfl))) (pss_one (ps_fld (pv 0) (pv 1) rfl))) (pss_cons (ps_expr (pe_bm PySem.F.plainAttrs_list PySem.F.slot_list_append PySem.F.type_list_append mt_append (pe_fld (pv 0) rfl) (pa_cons (pe_tup (pa_cons (pv 1) (pa_cons (pv 2) pa_nil))) pa_nil))) (pss_one (ps_ret (pe_callB call_len_seq (by rfl) M_len B_len (pa_cons (pe_fld (pv 0) rfl) pa_nil)))))))), ?_⟩
  refine ⟨_, rfl, x, dx, _, rfl, hx, rfl, _, rfl, x, r, l, h, t, d, ws, rfl, hse, sd, fun c => ?_, xl⟩
  have q := q c
  cases b with
  | true =>
    refine ⟨_, rfl, _, rfl, iteT ?_⟩
    refine ⟨_, rfl, _, _, rfl, rfl, _, rfl, x, C, dx, _, rfl, hx, T.cl, T.ng, by show 4 < 1000; decide, ?_⟩
    refine ⟨_, rfl, x, C, dx, _, _, rfl, upd_same, T.cl, T.nt, rfl, _, _, rfl, rfl, _, rfl, x, C, dx, _, rfl, upd_same, T.cl, T.nt, by show 4 < 1000; decide, ?_⟩
    dsimp only
    rw [upd_upd, put_g, put_t]
    have hr2 : ∀ o, upd H x o r = some (.lst us) := fun o => by rw [upd_ne (Ne.symm nxr)]; exact hr'
    refine ⟨_, rfl, x, C, dx, _, _, rfl, upd_same, T.cl, T.nr, rfl, .inl ⟨rfl, _, SqL.of (hr2 _)⟩, _, rfl, _, rfl, by show 2 ≤ sizeLine; decide, fun p hp => ?_⟩
    have npr : r ≠ p := ne_of_none (hr2 _) hp
    have npx : x ≠ p := ne_of_none upd_same hp
    refine ⟨r, us, _, rfl, rfl, by rw [upd_ne npr]; exact hr2 _, lt_size (by omega), ?_⟩
    refine ⟨_, rfl, x, C, dx, _, _, rfl, by rw [upd_ne nxr, upd_ne npx]; exact upd_same, T.cl, T.nr, rfl, r, _, rfl, .inl (SqL.of upd_same), ?_⟩
    rw [List.length_append, show (([V.ref p] : List V).length) = 1 from rfl, hlen]
    have hp0 : H p = none := by
      rw [upd_ne (Ne.symm npx)] at hp
      exact hp
    have tt : TupS H (upd (upd (upd H x (.ins C dx (flds l (d - 1) (t - 1) r))) p (.tup [.int d, .bl true])) r (.lst (us ++ [.ref p]))) := fun c ys z => by
      rw [upd_ne (ne_of z hr' (by intro y; cases y)), upd_ne (ne_of_none z hp0), upd_ne (ne_of z hx (by intro y; cases y))]
      exact z
    refine q _ ⟨dx, us ++ [.ref p], ?_, upd_same, (hP.tups tt).snoc ?_⟩ (fun c o z n1 n2 => ?_)
    · rw [upd_ne nxr, upd_ne npx]
      exact upd_same
    · rw [upd_ne (Ne.symm npr)]
      exact upd_same
    · rw [upd_ne n2, upd_ne (ne_of_none z hp0), upd_ne n1]
      exact z
  | false =>
    refine ⟨_, rfl, _, rfl, iteF ?_⟩
    refine ⟨_, rfl, _, rfl, x, C, dx, _, rfl, hx, T.cl, T.nl, by show 4 < 1000; decide, ?_⟩
    rw [put_l]
    have hr2 : ∀ o, upd H x o r = some (.lst us) := fun o => by rw [upd_ne (Ne.symm nxr)]; exact hr'
    refine ⟨_, rfl, x, C, dx, _, _, rfl, upd_same, T.cl, T.nr, rfl, .inl ⟨rfl, _, SqL.of (hr2 _)⟩, _, rfl, _, rfl, by show 2 ≤ sizeLine; decide, fun p hp => ?_⟩
    have npr : r ≠ p := ne_of_none (hr2 _) hp
    have npx : x ≠ p := ne_of_none upd_same hp
    refine ⟨r, us, _, rfl, rfl, by rw [upd_ne npr]; exact hr2 _, lt_size (by omega), ?_⟩
    refine ⟨_, rfl, x, C, dx, _, _, rfl, by rw [upd_ne nxr, upd_ne npx]; exact upd_same, T.cl, T.nr, rfl, r, _, rfl, .inl (SqL.of upd_same), ?_⟩
    rw [List.length_append, show (([V.ref p] : List V).length) = 1 from rfl, hlen]
    have hp0 : H p = none := by
      rw [upd_ne (Ne.symm npx)] at hp
      exact hp
    have tt : TupS H (upd (upd (upd H x (.ins C dx (flds d h t r))) p (.tup [.int d, .bl false])) r (.lst (us ++ [.ref p]))) := fun c ys z => by
      rw [upd_ne (ne_of z hr' (by intro y; cases y)), upd_ne (ne_of_none z hp0), upd_ne (ne_of z hx (by intro y; cases y))]
      exact z
    refine q _ ⟨dx, us ++ [.ref p], ?_, upd_same, (hP.tups tt).snoc ?_⟩ (fun c o z n1 n2 => ?_)
    · rw [upd_ne nxr, upd_ne npx]
      exact upd_same
    · rw [upd_ne (Ne.symm npr)]
      exact upd_same
    · rw [upd_ne n2, upd_ne (ne_of_none z hp0), upd_ne n1]
      exact z
theorem ok_span {C fI : Addr} {fdI : FuncData} (T : STxt K C) (F : Fun K "span" "Search.span" s_Search_span fI fdI) : FnOk P w K mg base CX0 1 fI fdI ["self"] (spSpan C) := by
  refine F.ok sc_Search_span (fun vs H Q E h => ?_) (fun cdv A outer s H vs Q E hr h => ?_)
  · obtain ⟨_, _, _, _, _, _, rfl, _⟩ := h
    rfl
  obtain ⟨x, r, l, h, t, ws, rfl, ⟨dx, us, hx, hr', hP⟩, q⟩ := h
  refine ⟨_, (pss_one (ps_ret (pe_tup (pa_cons (pe_fld (pv 0) rfl) (pa_cons (pe_fld (pv 0) rfl) pa_nil))))), ?_⟩
  exact ⟨_, rfl, x, C, dx, _, _, rfl, hx, T.cl, T.nl, rfl, _, rfl, x, C, dx, _, _, rfl, hx, T.cl, T.ng, rfl, by show 2 ≤ sizeLine; decide, fun p hp => q p hp⟩
theorem ok_left {C fI : Addr} {fdI : FuncData} (T : STxt K C) (F : Fun K "left" "Search.left" s_Search_left fI fdI) : FnOk P w K mg base CX0 1 fI fdI ["self"] (spLeft C) := by
  refine F.ok sc_Search_left (fun vs H Q E h => ?_) (fun cdv A outer s H vs Q E hr h => ?_)
  · obtain ⟨_, _, _, _, _, _, rfl, _⟩ := h
    rfl
  obtain ⟨x, r, l, h, t, ws, rfl, ⟨dx, us, hx, hr', hP⟩, q⟩ := h
  refine ⟨_, (pss_one (ps_ret (pe_fld (pv 0) rfl))), ?_⟩
  exact ⟨_, rfl, x, C, dx, _, _, rfl, hx, T.cl, T.nt, rfl, q⟩
theorem ok_drops {C fI : Addr} {fdI : FuncData} (T : STxt K C) (F : Fun K "drops" "Search.drops" s_Search_drops fI fdI) (M_list : mg "list" = none) : FnOk P w K mg base CX0 1 fI fdI ["self"] (spDrops C) := by
  refine F.ok sc_Search_drops (fun vs H Q E h => ?_) (fun cdv A outer s H vs Q E hr h => ?_)
  · obtain ⟨_, _, _, _, _, _, rfl, _⟩ := h
    rfl
  obtain ⟨x, r, l, h, t, ws, rfl, ⟨dx, us, hx, hr', hP⟩, q⟩ := h
  refine ⟨_, (pss_one (ps_ret (pe_callTy call_list_of (by rfl) M_list B_list (pa_cons (pe_fld (pv 0) rfl) pa_nil)))), ?_⟩
  exact ⟨_, rfl, x, C, dx, _, _, rfl, hx, T.cl, T.nr, rfl, r, us, rfl, .inl (SqL.of hr'), fun p hp => q p us hp hP⟩
theorem ok_need {C cN fI : Addr} {fdI : FuncData} (T : STxt K C) (F : Fun K "need" "Search.need" s_Search_need fI fdI) (O_fewest : OwnX P w K mg base "fewest" 4 ["floors", "things"] (spFewX cN)) : FnOk P w K mg base (CXE P w) 5 fI fdI ["self"] (spNeed C cN) := by
  refine F.okx sc_Search_need (fun vs H Q E h => ?_) (fun cdv A outer s H vs Q E hr h => ?_)
  · obtain ⟨_, _, _, _, _, _, rfl, _⟩ := h
    rfl
  obtain ⟨x, r, l, h, t, ws, rfl, ⟨dx, us, hx, hr', hP⟩, sf, st, q, xn⟩ := h
  refine ⟨_, (pss_one (ps_ret (pe_ownx O_fewest pass_E (hr.mono (by omega)) (by rfl) (pa_cons (pe_op op_sub (pe_fld (pv 0) rfl) (pe_fld (pv 0) rfl)) (pa_cons (pe_fld (pv 0) rfl) pa_nil))))), ?_⟩
  exact ⟨_, rfl, x, C, dx, _, _, rfl, hx, T.cl, T.ng, rfl, _, rfl, x, C, dx, _, _, rfl, hx, T.cl, T.nl, rfl, _, _, rfl, rfl, _, rfl, x, C, dx, _, _, rfl, hx, T.cl, T.nt, rfl, h - l, t, rfl, sf, st, q, xn⟩
theorem ok_adv {C cN fI : Addr} {fdI : FuncData} (T : STxt K C) (F : Fun K "advice" "Search.advice" s_Search_advice fI fdI) (O_choices : OwnX P w K mg base "choices" 4 ["floors", "things"] (spChX cN)) : FnOk P w K mg base (CXE P w) 5 fI fdI ["self"] (spAdv C cN) := by
  refine F.okx sc_Search_advice (fun vs H Q E h => ?_) (fun cdv A outer s H vs Q E hr h => ?_)
  · obtain ⟨_, _, _, _, _, _, rfl, _⟩ := h
    rfl
  obtain ⟨x, r, l, h, t, ws, rfl, ⟨dx, us, hx, hr', hP⟩, sf, st, q, xn⟩ := h
  have nd := sc_Search_advice.nd
  refine ⟨_, (pss_cons (ps_set (i := 1) nd rfl (Or.inl rfl) (pe_ownx O_choices pass_E (hr.mono (by omega)) (by rfl) (pa_cons (pe_op op_sub (pe_fld (pv 0) rfl) (pe_fld (pv 0) rfl)) (pa_cons (pe_fld (pv 0) rfl) pa_nil)))) (PSs.nox (pss_cons (ps_if (pt_cmpR op_isN (pv 1) pe_non (nomark _)) (pss_one (ps_ret pe_non)) pss_nil) (pss_one (ps_ret (pe_tup (pa_cons (pe_op op_add (pe_fld (pv 0) rfl) (pe_ix ix_tup (pv 1) pe_int (fun _ _ => rfl))) (pa_cons (pe_op op_add (pe_fld (pv 0) rfl) (pe_ix ix_tup (pv 1) pe_int (fun _ _ => rfl))) pa_nil)))))))), ?_⟩
  refine ⟨_, rfl, x, C, dx, _, _, rfl, hx, T.cl, T.ng, rfl, _, rfl, x, C, dx, _, _, rfl, hx, T.cl, T.nl, rfl, _, _, rfl, rfl, _, rfl, x, C, dx, _, _, rfl, hx, T.cl, T.nt, rfl, h - l, t, rfl, sf, st, fun c => ⟨fun z => ?_, fun z a ha => ?_⟩, xn⟩
  · exact ⟨_, rfl, rfl, _, rfl, iteT ((q c).1 z)⟩
  · have s1 := same_upd ha (.tup [.int (lo (h - l).toNat t.toNat : Nat), .int (hi (h - l).toNat t.toNat : Nat)])
    have hx1 := s1 _ _ hx
    refine ⟨_, rfl, rfl, _, rfl, iteF ?_⟩
    refine ⟨_, rfl, x, C, dx, _, _, rfl, hx1, T.cl, T.nl, rfl, _, rfl, a, _, 0, _, rfl, rfl, SqT.of upd_same, rfl, _, _, rfl, rfl, _, rfl, x, C, dx, _, _, rfl, hx1, T.cl, T.nl, rfl, _, rfl, a, _, 1, _, rfl, rfl, SqT.of upd_same, rfl, _, _, rfl, rfl, by show 2 ≤ sizeLine; decide, fun p hp => ?_⟩
    exact (q c).2 z _ p (s1.trans (same_upd hp _)) upd_same
theorem ok_gone (D : DefAt K mg "_law_gone" s__law_gone ["cell", "low", "high", "left"]) : Own P w K mg base "_law_gone" 1 ["cell", "low", "high", "left"] spGone := by
  refine own_of D sc__law_gone (fun vs H Q E h => ?_) (fun f cdv A outer s H vs Q E hr h => ?_)
  · obtain ⟨_, _, _, _, rfl, _⟩ := h
    rfl
  obtain ⟨c, l, h, t, rfl, l0, lh, h1, t0, q⟩ := h
  have nd := sc__law_gone.nd
  refine ⟨_, (pss_cons (ps_if (PW.pt (pw_and (pt_cmpR op_eq (pv 3) pe_int (nomark _)) (pw_and (pt_cmpR op_lt (pv 1) (pv 2) (nomark _)) (pw_and1 (pt_cmpR op_eq (pe_op op_mod (pe_op op_fdiv (pv 0) pe_int) pe_int) pe_int (nomark _)))))) (pss_one (ps_ret (pe_op op_add (pe_op op_add (pv 1) pe_int) (pe_op op_mod (pe_op op_fdiv (pv 0) pe_int) (pe_op op_sub (pv 2) (pv 1)))))) pss_nil) (pss_cons (ps_set (i := 4) nd rfl (Or.inl rfl) (pe_op op_mod (pe_op op_fdiv (pv 0) pe_int) (pe_op op_pow pe_int pe_int))) (pss_one (ps_ret (pe_ix ix_list (pe_lst (pa_cons (pv 1) (pa_cons (pe_op op_add (pv 2) pe_int) (pa_cons (pe_op op_sub (pe_un un_neg pe_int) (pv 4)) (pa_cons (pe_op op_add (pe_op op_add (pv 2) pe_int) (pv 4)) pa_nil))))) (pe_op op_mod (pv 0) pe_int) (fun _ _ => rfl)))))), ?_⟩
  have e30 : (10 : Int) ^ (30 : Int).toNat = 1000000000000000000000000000000 := by decide
  have r0 := Int.emod_nonneg (c / 4) (by omega : (1000000000000000000000000000000 : Int) ≠ 0)
  have r1 := Int.emod_lt_of_pos (c / 4) (by omega : (0 : Int) < 1000000000000000000000000000000)
  have tail : ∀ Z : Prop, (∀ l4, H l4 = none → ∀ g : Int, atI [.int l, .int (h + 1), .int (-1 - c / 4 % 10 ^ (30 : Int).toNat), .int (h + 1 + c / 4 % 10 ^ (30 : Int).toNat)] (c % 4) = some (V.int g) → Q (.int g) (upd H l4 (.lst [.int l, .int (h + 1), .int (-1 - c / 4 % 10 ^ (30 : Int).toNat), .int (h + 1 + c / 4 % 10 ^ (30 : Int).toNat)])) → Z) → True := fun _ _ => trivial
  obtain ⟨v4, hv4, hc4⟩ := pick4 c (.int l) (.int (h + 1)) (.int (-1 - c / 4 % 1000000000000000000000000000000)) (.int (h + 1 + c / 4 % 1000000000000000000000000000000))
  obtain ⟨g, rfl, sg, gb⟩ : ∃ g : Int, v4 = .int g ∧ sm g ∧ ¬ (l < g ∧ g ≤ h) := by
    rcases hc4 with rfl | rfl | rfl | rfl
    · exact ⟨_, rfl, ⟨by omega, by omega⟩, by omega⟩
    · exact ⟨_, rfl, ⟨by omega, by omega⟩, by omega⟩
    · exact ⟨_, rfl, ⟨by omega, by omega⟩, by omega⟩
    · exact ⟨_, rfl, ⟨by omega, by omega⟩, by omega⟩
  rw [← e30] at hv4
  refine ⟨_, rfl, rfl, _, rfl, ?_⟩
  refine ite2 (fun c1 => ?a1) (fun c1 => iteF ?g2)
  case' a1 =>
    have c1' : t = 0 := by
      have z : V.int t = V.int 0 := of_decide_eq_true c1
      injection z
    refine ⟨_, rfl, _, rfl, _, _, rfl, rfl, _, rfl, ?_⟩
    refine ite2 (fun c2 => ?a2) (fun c2 => iteF ?g3)
  case' a2 =>
    have c2' : l < h := of_decide_eq_true c2
    refine ⟨_, rfl, _, _, rfl, rfl, ⟨by decide, by decide⟩, _, _, rfl, rfl, (by show (0 : Int) < 2; decide), rfl, _, rfl, ?_⟩
    refine ite2 (fun c3 => ?a3) (fun c3 => ?g4)
  case' a3 =>
    refine ⟨_, rfl, _, _, rfl, rfl, _, rfl, _, _, rfl, rfl, ⟨by decide, by decide⟩, _, rfl, _, rfl, _, _, rfl, rfl, _, _, rfl, rfl, by show 0 < h - l; omega, _, _, rfl, rfl, ?_⟩
    have m0 := Int.emod_nonneg (c / 8) (by omega : h - l ≠ 0)
    have m1 := Int.emod_lt_of_pos (c / 8) (by omega : 0 < h - l)
    exact q _ H (Same.refl _) ⟨by omega, by omega⟩ (.inl c1')
  all_goals
    refine ⟨_, rfl, _, _, rfl, rfl, ⟨by decide, by decide⟩, _, _, rfl, rfl, ⟨by decide, by decide, by decide⟩, _, _, rfl, rfl, ?_, ?_⟩
    · show (0 : Int) < 10 ^ (30 : Int).toNat
      rw [e30]
      decide
    refine ⟨_, rfl, _, rfl, _, _, rfl, rfl, _, rfl, _, rfl, _, _, rfl, rfl, _, rfl, _, _, rfl, rfl, _, rfl, _, _, rfl, rfl, by show 4 ≤ sizeLine; decide, fun l4 hl4 => ?_⟩
    refine ⟨_, rfl, _, _, rfl, rfl, (by show (0 : Int) < 4; decide), l4, _, _, .int g, rfl, rfl, SqL.of upd_same, hv4, ?_⟩
    exact q g _ (same_upd hl4 _) sg (.inr gb)
theorem ok_refused {C cF cN cP cL cB fD fN fA : Addr} {fdD fdN fdA : FuncData} (D : DefAt K mg "_law_refused" s__law_refused ["search", "way", "floor", "broken"]) (T : STxt K C) (M_FloorError : mg "FloorError" = some (.ref cF)) (k_FloorError : XKind K cF cF) (kN : XKind K cF cN) (xN : XCls K cN) (kL : XKind K cF cL) (xL : XCls K cL)
    (n1 : PySem.W.kitOne K (.ref cN) (.ref cN) = some true) (n2 : PySem.W.kitOne K (.ref cN) (.ref cP) = some false) (n3 : PySem.W.kitOne K (.ref cN) (.ref cL) = some false) (n4 : PySem.W.kitOne K (.ref cN) (.ref cB) = some false) (n5 : PySem.W.kitOne K (.ref cN) (.type "ValueError") = some true)
    (l1 : PySem.W.kitOne K (.ref cL) (.ref cN) = some false) (l2 : PySem.W.kitOne K (.ref cL) (.ref cP) = some false) (l3 : PySem.W.kitOne K (.ref cL) (.ref cL) = some true) (l4 : PySem.W.kitOne K (.ref cL) (.ref cB) = some false) (l5 : PySem.W.kitOne K (.ref cL) (.type "ValueError") = some true)
    (H_Search_dropped : Meth K C "dropped" fD) (O_Search_dropped : FnOk P w K mg base (CXE P w) 2 fD fdD ["self", "floor", "broken"] (spDrp C cL)) (b_Search_dropped : Binds K fdD ["self", "floor", "broken"] [])
    (H_Search_need : Meth K C "need" fN) (O_Search_need : FnOk P w K mg base (CXE P w) 5 fN fdN ["self"] (spNeed C cN)) (b_Search_need : Binds K fdN ["self"] [])
    (H_Search_advice : Meth K C "advice" fA) (O_Search_advice : FnOk P w K mg base (CXE P w) 5 fA fdA ["self"] (spAdv C cN)) (b_Search_advice : Binds K fdA ["self"] [])
    (O__law_which : OwnH P w K mg base "_law_which" 1 ["e"] (spWhich K cN cP cL cB)) : Own P w K mg base "_law_refused" 7 ["search", "way", "floor", "broken"] (spRefd C) := by
  have C_Search := T.cl
  refine OwnX.own (ownx_of D sc__law_refused (fun vs H Q E h => ?_) (fun f cdv A outer s H vs Q E hr h => ?_)) (fun vs H Q E h => h)
  · obtain ⟨_, _, _, _, _, _, _, _, _, rfl, _⟩ := h
    rfl
  obtain ⟨x, r, l, h, t, d, way, b, ws, rfl, hse, sd, hz, shl, st, hq⟩ := h
  have nd := sc__law_refused.nd
  refine ⟨_, (pss_cons (ps_set (i := 4) nd rfl (Or.inl rfl) (pe_lst pa_nil)) (pss_cons (ps_try (i := 5) nd rfl rfl rfl rfl (by rfl) M_FloorError k_FloorError rfl (fun xe pn E' pE => (pss_one (ps_if (pt_cmpR op_eq (pv 1) pe_int (nomark _)) (pss_one (ps_expr (pe_meth (pv 0) C_Search H_Search_dropped O_Search_dropped (hr.mono (by omega)) b_Search_dropped .nil pE (pa_cons (pv 2) (pa_cons (pv 3) pa_nil))))) (pss_one (ps_if (pt_cmpR op_eq (pv 1) pe_int (nomark _)) (pss_one (ps_expr (pe_meth0 (pv 0) C_Search H_Search_need O_Search_need (hr.mono (by omega)) b_Search_need .nil pE))) (pss_one (ps_expr (pe_meth0 (pv 0) C_Search H_Search_advice O_Search_advice (hr.mono (by omega)) b_Search_advice .nil pE)))))))) (fun a0 => (pss_one (ps_set (i := 4) nd rfl (Or.inl rfl) (pe_ownH O__law_which ((hr.mono (by omega)).h.marked _) (by rfl) (pa_cons (pv 5) pa_nil)))))) (PSs.nox (pss_one (ps_ret (pv 4)))))), ?_⟩
  refine ⟨by show 0 ≤ sizeLine; decide, fun l0 hl0 => ?_⟩
  have s0 := same_upd hl0 (.lst [])
  have hse0 := hse.same s0
  obtain ⟨dx, us, hx, _, _⟩ := id hse0
  rcases hq with ⟨rfl, bad, q⟩ | ⟨hw, bad, q⟩
  · refine ⟨_, rfl, rfl, _, rfl, iteT ?_⟩
    refine ⟨_, rfl, x, dx, _, rfl, hx, rfl, _, rfl, _, rfl, x, r, l, h, t, d, b, ws, rfl, hse0, sd, hz, fun c => absurd c bad, fun _ => ?_⟩
    refine ⟨cL, rfl, kL, fun a σ hσ ha => ?_⟩
    have hσ' : σ.length = 6 := hσ
    refine ⟨.ref a, by rw [List.getElem?_set_self (by omega)], a, cL, false, false, true, false, rfl, upd_same, xL, l1, l2, l3, l4, l5, fun H' y s2 el => ?_⟩
    exact ⟨.ref y, by rw [List.getElem?_set_ne (by decide), List.getElem?_set_self (by simp only [List.length_set]; omega)], q H' y (s0.trans ((same_upd ha _).trans s2)) el⟩
  · rcases hw with rfl | rfl
    · refine ⟨_, rfl, rfl, _, rfl, iteF ⟨_, rfl, rfl, _, rfl, iteT ?_⟩⟩
      refine ⟨_, rfl, x, dx, _, rfl, hx, rfl, x, r, l, h, t, ws, rfl, hse0, shl, st, fun c => absurd c bad, fun _ => ?_⟩
      refine ⟨cN, rfl, kN, fun a σ hσ ha => ?_⟩
      have hσ' : σ.length = 6 := hσ
      refine ⟨.ref a, by rw [List.getElem?_set_self (by omega)], a, cN, true, false, false, false, rfl, upd_same, xN, n1, n2, n3, n4, n5, fun H' y s2 el => ?_⟩
      exact ⟨.ref y, by rw [List.getElem?_set_ne (by decide), List.getElem?_set_self (by simp only [List.length_set]; omega)], q H' y (s0.trans ((same_upd ha _).trans s2)) el⟩
    · refine ⟨_, rfl, rfl, _, rfl, iteF ⟨_, rfl, rfl, _, rfl, iteF ?_⟩⟩
      refine ⟨_, rfl, x, dx, _, rfl, hx, rfl, x, r, l, h, t, ws, rfl, hse0, shl, st, fun c => absurd c bad, fun _ => ?_⟩
      refine ⟨cN, rfl, kN, fun a σ hσ ha => ?_⟩
      have hσ' : σ.length = 6 := hσ
      refine ⟨.ref a, by rw [List.getElem?_set_self (by omega)], a, cN, true, false, false, false, rfl, upd_same, xN, n1, n2, n3, n4, n5, fun H' y s2 el => ?_⟩
      exact ⟨.ref y, by rw [List.getElem?_set_ne (by decide), List.getElem?_set_self (by simp only [List.length_set]; omega)], q H' y (s0.trans ((same_upd ha _).trans s2)) el⟩
theorem sp_eqv {l h t : Int} (ws : List (Int × Bool)) : PyData.eqv (.list [.tuple [.int l, .int h], .int t, dl ws]) (.list [.tuple [.int l, .int h], .int t, dl ws]) = true := by
  have e : PyData.eqv (.list [.tuple [.int l, .int h], .int t, dl ws]) (.list [.tuple [.int l, .int h], .int t, dl ws]) = PyData.eqv (dl ws) (dl ws) := by
    simp [PyData.eqv, PyData.eqvAll]
  rw [e, dl_eqv]
  simp
theorem sp_shaped {l h t : Int} (ws : List (Int × Bool)) : PySem.SeqAt.shaped (.list [.tuple [.int l, .int h], .int t, dl ws]) = true := by
  obtain ⟨h1, h2⟩ := pd_lay ws
  have e1 : PyData.canLay0 (.list [.tuple [.int l, .int h], .int t, dl ws]) = true := by
    simp [PyData.canLay0, PyData.canLayAll0, dl, h1]
  have e2 : PyData.depth (.list [.tuple [.int l, .int h], .int t, dl ws]) ≤ 64 := by
    simp only [PyData.depth, PyData.depthAll, dl]
    omega
  unfold PySem.SeqAt.shaped
  rw [e1, decide_eq_true e2]
  rfl
theorem dat_nc {H : Hp} {a : Addr} (h : H a = some (.lst ncL)) : DatIn K H (.ref a) (.list [.bool true, .bool false, .bool false, .bool false, .bool true]) := .lst (SqL.of h) (.cons (.bl _) (.cons (.bl _) (.cons (.bl _) (.cons (.bl _) (.cons (.bl _) .nil)))))
theorem ok_stands {C cN fS fL fP fN fA : Addr} {fdS fdL fdP fdN fdA : FuncData} (D : DefAt K mg "_law_stands" s__law_stands ["search", "low", "high", "things", "done"]) (T : STxt K C) (O__law_pair : Own P w K mg base "_law_pair" 2 ["found"] spPair) (O__law_whole : Own P w K mg base "_law_whole" 1 ["found"] spWhole) (O__law_refused : Own P w K mg base "_law_refused" 7 ["search", "way", "floor", "broken"] (spRefd C))
    (H_Search_span : Meth K C "span" fS) (O_Search_span : FnOk P w K mg base CX0 1 fS fdS ["self"] (spSpan C)) (b_Search_span : Binds K fdS ["self"] [])
    (H_Search_left : Meth K C "left" fL) (O_Search_left : FnOk P w K mg base CX0 1 fL fdL ["self"] (spLeft C)) (b_Search_left : Binds K fdL ["self"] [])
    (H_Search_drops : Meth K C "drops" fP) (O_Search_drops : FnOk P w K mg base CX0 1 fP fdP ["self"] (spDrops C)) (b_Search_drops : Binds K fdP ["self"] [])
    (H_Search_need : Meth K C "need" fN) (O_Search_need : FnOk P w K mg base (CXE P w) 5 fN fdN ["self"] (spNeed C cN)) (b_Search_need : Binds K fdN ["self"] [])
    (H_Search_advice : Meth K C "advice" fA) (O_Search_advice : FnOk P w K mg base (CXE P w) 5 fA fdA ["self"] (spAdv C cN)) (b_Search_advice : Binds K fdA ["self"] [])
    (O_fewest : OwnX P w K mg base "fewest" 4 ["floors", "things"] (spFewX cN)) (O_choices : OwnX P w K mg base "choices" 4 ["floors", "things"] (spChX cN)) : Own P w K mg base "_law_stands" 8 ["search", "low", "high", "things", "done"] (spStands C) := by
  have C_Search := T.cl
  refine own_of D sc__law_stands (fun vs H Q E h => ?_) (fun f cdv A outer s H vs Q E hr h => ?_)
  · obtain ⟨_, _, _, _, _, _, _, _, rfl, _⟩ := h
    rfl
  obtain ⟨x, r, dn, l, h, t, ds, ws, rfl, hse, hdn, hds, l0, lh, h1, t0, t1, hz, q⟩ := h
  have nd := sc__law_stands.nd
  refine ⟨_, (pss_cons (ps_set (i := 5) nd rfl (Or.inl rfl) (pe_lst (pa_cons (pe_meth0 (pv 0) C_Search H_Search_span O_Search_span (hr.mono (by omega)) b_Search_span .nil pass0) (pa_cons (pe_meth0 (pv 0) C_Search H_Search_left O_Search_left (hr.mono (by omega)) b_Search_left .nil pass0) (pa_cons (pe_meth0 (pv 0) C_Search H_Search_drops O_Search_drops (hr.mono (by omega)) b_Search_drops .nil pass0) pa_nil))))) (pss_cons (ps_if (PW.pt (pw_or (pt_not (pt_val (pe_own O__law_pair (hr.mono (by omega)) (by rfl) (pa_cons (pe_ix ix_list (pv 5) pe_int (fun _ _ => rfl)) pa_nil)))) (pw_or (pt_not (pt_val (pe_own O__law_whole (hr.mono (by omega)) (by rfl) (pa_cons (pe_ix ix_list (pv 5) pe_int (fun _ _ => rfl)) pa_nil)))) (pw_or1 (pt_cmpR (op_neD hr.units) (pv 5) (pe_lst (pa_cons (pe_tup (pa_cons (pv 1) (pa_cons (pv 2) pa_nil))) (pa_cons (pv 3) (pa_cons (pv 4) pa_nil)))) (nomark _)))))) (pss_one (ps_ret pe_bl)) pss_nil) (pss_cons (ps_expr (pe_bm PySem.F.plainAttrs_list PySem.F.slot_list_append PySem.F.type_list_append mt_append (pe_ix ix_list (pv 5) pe_int (fun _ _ => rfl)) (pa_cons (pe_tup (pa_cons pe_int (pa_cons pe_bl pa_nil))) pa_nil))) (pss_cons (ps_if (PW.pt (pw_and (pt_cmpR op_eq (pv 3) pe_int (nomark _)) (pw_and1 (pt_cmpR op_lt (pv 1) (pv 2) (nomark _))))) (pss_cons (ps_set (i := 6) nd rfl (Or.inl rfl) (pe_lst (pa_cons pe_bl (pa_cons pe_bl (pa_cons pe_bl (pa_cons pe_bl (pa_cons pe_bl pa_nil))))))) (pss_one (ps_ret (pe_and (pe_cmpR (op_eqD hr.units) (pe_own O__law_refused (hr.mono (by omega)) (by rfl) (pa_cons (pv 0) (pa_cons pe_int (pa_cons pe_int (pa_cons pe_bl pa_nil))))) (pv 6) (nomark _)) (pe_one (pe_cmpR (op_eqD hr.units) (pe_own O__law_refused (hr.mono (by omega)) (by rfl) (pa_cons (pv 0) (pa_cons pe_int (pa_cons pe_int (pa_cons pe_bl pa_nil))))) (pv 6) (nomark _))))))) pss_nil) (pss_cons (ps_set (i := 7) nd rfl (Or.inl rfl) (pe_meth0 (pv 0) C_Search H_Search_need O_Search_need (hr.mono (by omega)) b_Search_need .nil pass_no)) (pss_cons (ps_if (PW.pt (pw_or (pt_not (pt_val (pe_own O__law_whole (hr.mono (by omega)) (by rfl) (pa_cons (pv 7) pa_nil)))) (pw_or1 (pt_cmpR op_ne (pv 7) (pe_ownx O_fewest pass_no (hr.mono (by omega)) (by rfl) (pa_cons (pe_op op_sub (pv 2) (pv 1)) (pa_cons (pv 3) pa_nil))) (nomark _))))) (pss_one (ps_ret pe_bl)) pss_nil) (pss_cons (ps_set (i := 8) nd rfl (Or.inl rfl) (pe_ownx O_choices pass_no (hr.mono (by omega)) (by rfl) (pa_cons (pe_op op_sub (pv 2) (pv 1)) (pa_cons (pv 3) pa_nil)))) (pss_cons (ps_if (pt_cmpR op_notN (pv 8) pe_non (nomark _)) (pss_one (ps_set (i := 8) nd rfl (Or.inl rfl) (pe_tup (pa_cons (pe_op op_add (pv 1) (pe_ix ix_tup (pv 8) pe_int (fun _ _ => rfl))) (pa_cons (pe_op op_add (pv 1) (pe_ix ix_tup (pv 8) pe_int (fun _ _ => rfl))) pa_nil))))) pss_nil) (pss_one (ps_ret (pe_cmpR (op_eqD hr.units) (pe_meth0 (pv 0) C_Search H_Search_advice O_Search_advice (hr.mono (by omega)) b_Search_advice .nil pass_no) (pv 8) (nomark _)))))))))))), ?_⟩
  obtain ⟨dx, us, hx, hr', hP⟩ := id hse
  refine ⟨_, rfl, x, dx, _, rfl, hx, rfl, x, r, l, h, t, ws, rfl, hse, fun p hp => ?_⟩
  have s1 := same_upd hp (.tup [.int l, .int h])
  refine ⟨_, rfl, x, dx, _, rfl, s1 _ _ hx, rfl, x, r, l, h, t, ws, rfl, hse.same s1, ?_⟩
  refine ⟨_, rfl, x, dx, _, rfl, s1 _ _ hx, rfl, x, r, l, h, t, ws, rfl, hse.same s1, fun pd' us' hpd hps => ?_⟩
  have s2 := s1.trans (same_upd hpd (.lst us'))
  refine ⟨by show 3 ≤ sizeLine; decide, fun fl hfl => ?_⟩
  have s3 := s2.trans (same_upd hfl (.lst [.ref p, .int t, .ref pd']))
  have sA := same_upd hpd (.lst us')
  have sB := same_upd hfl (.lst [.ref p, .int t, .ref pd'])
  have ep := sB _ _ (sA _ _ upd_same)
  have epd := sB _ _ (upd_same (H := upd H p (.tup [.int l, .int h])) (a := pd') (o := .lst us'))
  have hPP := hps.tups (sA.trans sB).tups
  have hpd0 : H pd' = none := by
    rw [upd_ne (Ne.symm (ne_of_none upd_same hpd))] at hpd
    exact hpd
  have hlen := hps.len
  refine ⟨_, rfl, fl, _, 0, _, rfl, rfl, SqL.of upd_same, rfl, p, l, h, rfl, ep, _, rfl, iteF ?_⟩
  refine ⟨_, rfl, fl, _, 1, _, rfl, rfl, SqL.of upd_same, rfl, t, rfl, _, rfl, iteF ?_⟩
  generalize hH3 : upd (upd (upd H p (.tup [.int l, .int h])) pd' (.lst us')) fl (.lst [.ref p, .int t, .ref pd']) = H3 at *
  have efl : H3 fl = some (.lst [.ref p, .int t, .ref pd']) := by rw [← hH3]; exact upd_same
  refine ⟨_, rfl, _, rfl, _, rfl, by show 2 ≤ sizeLine; decide, fun p2 hp2 => ⟨_, rfl, _, rfl, by show 3 ≤ sizeLine; decide, fun f2 hf2 => ?_⟩⟩
  have s4 := same_upd hp2 (.tup [.int l, .int h])
  have s5 := same_upd hf2 (.lst [.ref p2, .int t, .ref dn])
  have s45 := s4.trans s5
  refine ⟨.list [.tuple [.int l, .int h], .int t, dl ws], .list [.tuple [.int l, .int h], .int t, dl ws], .lst (SqL.of (s45 _ _ efl)) (.cons (.tup (SqT.of (s45 _ _ ep)) (.cons (.int _) (.cons (.int _) .nil))) (.cons (.int _) (.cons (.lst (SqL.of (s45 _ _ epd)) (hPP.tups s45.tups).dat) .nil))), .lst (SqL.of upd_same) (.cons (.tup (SqT.of (s5 _ _ upd_same)) (.cons (.int _) (.cons (.int _) .nil))) (.cons (.int _) (.cons (.lst (SqL.of (s45 _ _ (s3 _ _ hdn))) (hds.tups (s3.trans s45).tups).dat) .nil))), sp_shaped ws, sp_shaped ws, _, rfl, ?_⟩
  rw [show (if true = true then !PyData.eqv (.list [.tuple [.int l, .int h], .int t, dl ws]) (.list [.tuple [.int l, .int h], .int t, dl ws]) else PyData.eqv (.list [.tuple [.int l, .int h], .int t, dl ws]) (.list [.tuple [.int l, .int h], .int t, dl ws])) = false by rw [if_pos rfl, sp_eqv]; rfl]
  refine iteF ?_
  generalize hH5 : upd (upd H3 p2 (.tup [.int l, .int h])) f2 (.lst [.ref p2, .int t, .ref dn]) = H5 at *
  have epd5 := s45 _ _ epd
  refine ⟨_, rfl, fl, _, 2, _, rfl, rfl, SqL.of (s45 _ _ efl), rfl, .inl ⟨rfl, _, SqL.of epd5⟩, by show 2 ≤ sizeLine; decide, fun p6 hp6 => ?_⟩
  have s6 := same_upd hp6 (.tup [.int 1, .bl true])
  refine ⟨pd', us', _, rfl, rfl, s6 _ _ epd5, lt_size (by omega), ?_⟩
  have sT : Same H (upd (upd H5 p6 (.tup [.int 1, .bl true])) pd' (.lst (us' ++ [.ref p6]))) := fun b o e => by
    rw [upd_ne (ne_of_none e hpd0)]
    exact s6 _ _ (s45 _ _ (s3 _ _ e))
  generalize upd (upd H5 p6 (.tup [.int 1, .bl true])) pd' (.lst (us' ++ [.ref p6])) = H7 at sT
  have hse7 := hse.same sT
  have hx7 := sT _ _ hx
  have shl : sm (h - l) := sm_small (by omega) (by omega)
  have st : sm t := sm_small (by omega) (by omega)
  refine ⟨_, rfl, rfl, _, rfl, ?_⟩
  have ee : PyData.eqv (.list [.bool true, .bool false, .bool false, .bool false, .bool true]) (.list [.bool true, .bool false, .bool false, .bool false, .bool true]) = true := by
    simp [PyData.eqv, PyData.eqvAll]
  refine ite2 (fun c1 => ?a1) (fun c1 => iteF ?g2)
  case' a1 =>
    have c1' : t = 0 := by
      have z : V.int t = V.int 0 := of_decide_eq_true c1
      injection z
    refine ⟨_, rfl, _, rfl, _, _, rfl, rfl, _, rfl, ?_⟩
    refine ite2 (fun c2 => ?a2) (fun c2 => ?g3)
  case' a2 =>
    have c2' : l < h := of_decide_eq_true c2
    have nok : ¬ COk 1000 (h - l) t := fun z => by
      obtain ⟨_, _, _, _, z⟩ := z
      omega
    refine ⟨by show 5 ≤ sizeLine; decide, fun lb hlb => ?_⟩
    have s8 := same_upd hlb (.lst ncL)
    refine ⟨_, rfl, x, r, l, h, t, 0, 1, true, ws, rfl, hse7.same s8, sm_small (by omega) (by omega), hz, shl, st, .inr ⟨.inl rfl, nok, fun H9 y s9 ey => ?_⟩⟩
    refine ⟨_, rfl, _, _, dat_nc ey, dat_nc (s9 _ _ upd_same), rfl, rfl, _, rfl, ?_⟩
    rw [show (if false = true then !PyData.eqv (.list [.bool true, .bool false, .bool false, .bool false, .bool true]) (.list [.bool true, .bool false, .bool false, .bool false, .bool true]) else PyData.eqv (.list [.bool true, .bool false, .bool false, .bool false, .bool true]) (.list [.bool true, .bool false, .bool false, .bool false, .bool true])) = true from ee]
    refine iteT ?_
    refine ⟨_, rfl, x, r, l, h, t, 0, 2, true, ws, rfl, hse7.same (s8.trans s9), sm_small (by omega) (by omega), hz, shl, st, .inr ⟨.inr rfl, nok, fun H10 y2 s10 ey2 => ?_⟩⟩
    refine ⟨_, rfl, _, _, dat_nc ey2, dat_nc (s10 _ _ (s9 _ _ upd_same)), rfl, rfl, ?_⟩
    rw [show (if false = true then !PyData.eqv (.list [.bool true, .bool false, .bool false, .bool false, .bool true]) (.list [.bool true, .bool false, .bool false, .bool false, .bool true]) else PyData.eqv (.list [.bool true, .bool false, .bool false, .bool false, .bool true]) (.list [.bool true, .bool false, .bool false, .bool false, .bool true])) = true from ee]
    exact q _ (sT.trans (s8.trans (s9.trans s10)))
  case' g3 =>
    have c2' : ¬ l < h := fun z => c2 (decide_eq_true z)
    have cok : COk 1000 (h - l) t := ⟨by omega, by omega, t0, t1, .inl (by omega)⟩
  case' g2 =>
    have c1' : t ≠ 0 := fun z => c1 (decide_eq_true (by rw [z]))
    have cok : COk 1000 (h - l) t := ⟨by omega, by omega, t0, t1, .inr (by omega)⟩
  all_goals
    refine ⟨_, rfl, x, dx, _, rfl, hx7, rfl, x, r, l, h, t, ws, rfl, hse7, shl, st, fun _ => ?_, fun z => absurd cok z⟩
    refine ⟨_, rfl, _, rfl, _, rfl, iteF ?_⟩
    refine ⟨_, rfl, _, rfl, _, rfl, _, _, rfl, rfl, _, rfl, h - l, t, rfl, shl, st, fun _ => ?_, fun z => absurd cok z⟩
    refine ⟨rfl, _, rfl, ite2 (fun c => absurd c (by simp)) fun _ => ?_⟩
    refine ⟨_, rfl, _, rfl, _, _, rfl, rfl, _, rfl, h - l, t, rfl, shl, st, fun _ => ⟨fun z => ?_, fun z a ha => ?_⟩, fun z => absurd cok z⟩
    · refine ⟨_, rfl, rfl, _, rfl, iteF ?_⟩
      refine ⟨_, rfl, x, dx, _, rfl, hx7, rfl, x, r, l, h, t, ws, rfl, hse7, shl, st, fun _ => ⟨fun _ => ?_, fun z2 => absurd z (by omega)⟩, fun z => absurd cok z⟩
      refine ⟨_, rfl, .none, .none, .non, .non, rfl, rfl, ?_⟩
      exact q _ sT
    · have s8 := same_upd ha (.tup [.int (lo (h - l).toNat t.toNat : Nat), .int (hi (h - l).toNat t.toNat : Nat)])
      refine ⟨_, rfl, rfl, _, rfl, iteT ?_⟩
      refine ⟨_, rfl, _, rfl, a, _, 0, _, rfl, rfl, SqT.of upd_same, rfl, _, _, rfl, rfl, _, rfl, _, rfl, a, _, 1, _, rfl, rfl, SqT.of upd_same, rfl, _, _, rfl, rfl, by show 2 ≤ sizeLine; decide, fun p9 hp9 => ?_⟩
      have s9 := s8.trans (same_upd hp9 (.tup [.int (l + (lo (h - l).toNat t.toNat : Nat)), .int (l + (hi (h - l).toNat t.toNat : Nat))]))
      refine ⟨_, rfl, x, dx, _, rfl, s9 _ _ hx7, rfl, x, r, l, h, t, ws, rfl, hse7.same s9, shl, st, fun _ => ⟨fun z2 => absurd z (by omega), fun _ H10 a2 s10 ea2 => ?_⟩, fun z => absurd cok z⟩
      refine ⟨_, rfl, _, _, .tup (SqT.of ea2) (.cons (.int _) (.cons (.int _) .nil)), .tup (SqT.of (s10 _ _ upd_same)) (.cons (.int _) (.cons (.int _) .nil)), rfl, rfl, ?_⟩
      rw [show (if false = true then !PyData.eqv (.tuple [.int (l + (lo (h - l).toNat t.toNat : Nat)), .int (l + (hi (h - l).toNat t.toNat : Nat))]) (.tuple [.int (l + (lo (h - l).toNat t.toNat : Nat)), .int (l + (hi (h - l).toNat t.toNat : Nat))]) else PyData.eqv (.tuple [.int (l + (lo (h - l).toNat t.toNat : Nat)), .int (l + (hi (h - l).toNat t.toNat : Nat))]) (.tuple [.int (l + (lo (h - l).toNat t.toNat : Nat)), .int (l + (hi (h - l).toNat t.toNat : Nat))])) = true by simp [PyData.eqv, PyData.eqvAll]]
      exact q _ (sT.trans (s9.trans s10))
theorem dat_nf {H : Hp} {a : Addr} (h : H a = some (.lst nfL)) : DatIn K H (.ref a) (.list [.bool false, .bool false, .bool true, .bool false, .bool true]) := .lst (SqL.of h) (.cons (.bl _) (.cons (.bl _) (.cons (.bl _) (.cons (.bl _) (.cons (.bl _) .nil)))))
theorem adv_less {t f d : Nat} (ht : 0 < t) (h1 : 1 ≤ d) (h2 : d ≤ f) (hf : f < big) (ha : lo f t ≤ d ∧ d ≤ hi f t) : (0 < t - 1 ∨ d - 1 = 0 → few (d - 1) (t - 1) < few f t) ∧ few (f - d) t < few f t := by
  have w := (worst_at ht h1 h2 hf).mpr ha
  have e1 : val t (f - d) = few (f - d) t := if_neg (by omega)
  have l1 : val (t - 1) (d - 1) ≤ worst t f d := Nat.le_max_left _ _
  have l2 : val t (f - d) ≤ worst t f d := Nat.le_max_right _ _
  refine ⟨fun c => ?_, by omega⟩
  rcases c with c | c
  · have e2 : val (t - 1) (d - 1) = few (d - 1) (t - 1) := if_neg (by omega)
    omega
  · rw [c, few_zero]
    omega
theorem cmul_b {i : Int} (k : Bool) : CMul i (if k = true then 1 else 0) := .inr (by cases k <;> decide)
theorem ite_rest {c : Prop} [Decidable c] {A B R : Prop} (hR : R) (h1 : R → A) (h2 : R → B) : if c then A else B := ite2 (fun _ => h1 hR) (fun _ => h2 hR)
theorem ite_rst {c : Prop} [Decidable c] {A B R : Prop} (hR : R) (h1 : c → R → A) (h2 : ¬ c → R → B) : if c then A else B := ite2 (fun z => h1 z hR) (fun z => h2 z hR)
/-- the state of the deeds' loop -/
def LInv (C : Addr) (H : Hp) (x r x2 r2 dn : Addr) (fl th : Int) (n : Nat) (l h t : Int) (H' : Hp) : Prop := ∃ ds ws, Same H H' ∧ SeAt C H' x r l h t ws ∧ SeAt C H' x2 r2 0 fl th [] ∧ H' dn = some (.lst ds) ∧ PairsV H' ds ws ∧ 0 ≤ l ∧ l ≤ h ∧ h ≤ fl ∧ 0 ≤ t ∧ t ≤ th ∧ ws.length ≤ n
set_option maxHeartbeats 4000000 in
theorem ok_law {f : Addr} {fd : FuncData} {C cN cL fI fD fA : Addr} {fdI fdD fdA : FuncData} (F : Fun K "law" "law" s_law f fd) (T : STxt K C) (M_range : mg "range" = none) (M_max : mg "max" = none) (M_len : mg "len" = none) (M_int : mg "int" = none) (M_Search : mg "Search" = some (.ref C)) (K_Search : Mk K C fI) (b_Search : Binds K fdI ["self", "floors", "things"] []) (O_Search : FnOk P w K mg base (CXE P w) 4 fI fdI ["self", "floors", "things"] (spInit C))
    (O__law_cell_at : Own P w K mg base "_law_cell_at" 1 ["script", "k"] (spCell K)) (O__law_whole : Own P w K mg base "_law_whole" 1 ["found"] spWhole) (O__law_gone : Own P w K mg base "_law_gone" 1 ["cell", "low", "high", "left"] spGone) (O__law_refused : Own P w K mg base "_law_refused" 7 ["search", "way", "floor", "broken"] (spRefd C))
    (O__law_stands : Own P w K mg base "_law_stands" 8 ["search", "low", "high", "things", "done"] (spStands C)) (O_fewest : OwnX P w K mg base "fewest" 4 ["floors", "things"] (spFewX cN))
    (H_Search_dropped : Meth K C "dropped" fD) (O_Search_dropped : FnOk P w K mg base (CXE P w) 2 fD fdD ["self", "floor", "broken"] (spDrp C cL)) (b_Search_dropped : Binds K fdD ["self", "floor", "broken"] [])
    (H_Search_advice : Meth K C "advice" fA) (O_Search_advice : FnOk P w K mg base (CXE P w) 5 fA fdA ["self"] (spAdv C cN)) (b_Search_advice : Binds K fdA ["self"] []) :
    FnOk P w K mg base CX0 9 f fd ["script"] (spLaw K) := by
  have C_Search := T.cl
  refine F.ok sc_law (fun vs H Q E h => ?_) (fun cdv A outer s H vs Q E hr h => ?_)
  · obtain ⟨a, ns, rfl, _⟩ := h
    rfl
  obtain ⟨a, ns, rfl, hS, h63, q⟩ := h
  have nd := sc_law.nd
  refine ⟨_, (pss_cons (ps_set (i := 1) nd rfl (Or.inl rfl) (pe_op op_mod (pe_own O__law_cell_at (hr.mono (by omega)) (by rfl) (pa_cons (pv 0) (pa_cons pe_int pa_nil))) pe_int)) (pss_cons (ps_set (i := 2) nd rfl (Or.inl rfl) (pe_op op_mod (pe_own O__law_cell_at (hr.mono (by omega)) (by rfl) (pa_cons (pv 0) (pa_cons pe_int pa_nil))) pe_int)) (pss_cons (ps_if (pt_cmpR op_eq (pe_op op_mod (pe_own O__law_cell_at (hr.mono (by omega)) (by rfl) (pa_cons (pv 0) (pa_cons pe_int pa_nil))) pe_int) pe_int (nomark _)) (pss_cons (ps_set (i := 1) nd rfl (Or.inl rfl) (pe_op op_mod (pe_own O__law_cell_at (hr.mono (by omega)) (by rfl) (pa_cons (pv 0) (pa_cons pe_int pa_nil))) pe_int)) (pss_one (ps_set (i := 2) nd rfl (Or.inl rfl) (pe_op op_mod (pe_own O__law_cell_at (hr.mono (by omega)) (by rfl) (pa_cons (pv 0) (pa_cons pe_int pa_nil))) pe_int)))) pss_nil) (pss_cons (ps_set (i := 2) nd rfl (Or.inl rfl) (pe_callB (call_max2 rfl) (by rfl) M_max B_max (pa_cons (pv 2) (pa_cons (pe_callTy call_int1 (by rfl) M_int B_int (pa_cons (pe_cmpR op_gt (pv 1) pe_int (nomark _)) pa_nil)) pa_nil)))) (pss_cons (ps_set (i := 3) nd rfl (Or.inl rfl) (pe_op op_mod (pe_own O__law_cell_at (hr.mono (by omega)) (by rfl) (pa_cons (pv 0) (pa_cons pe_int pa_nil))) (pe_op op_add (pv 1) pe_int))) (pss_cons (ps_set (i := 4) nd rfl (Or.inl rfl) (pe_make K_Search O_Search (hr.mono (by omega)) (by rfl) M_Search b_Search .nil pass_no (pa_cons (pv 1) (pa_cons (pv 2) pa_nil)))) (pss_cons (ps_set (i := 5) nd rfl (Or.inl rfl) (pe_make K_Search O_Search (hr.mono (by omega)) (by rfl) M_Search b_Search .nil pass_no (pa_cons (pv 1) (pa_cons (pv 2) pa_nil)))) (pss_cons (ps_asg (pe_tup (pa_cons pe_int (pa_cons (pv 1) (pa_cons (pv 2) (pa_cons (pe_lst pa_nil) pa_nil))))) (pg_tup rfl (pgs_cons (pg_name (i := 6) nd rfl (Or.inl rfl)) (pgs_cons (pg_name (i := 7) nd rfl (Or.inl rfl)) (pgs_cons (pg_name (i := 8) nd rfl (Or.inl rfl)) (pgs_cons (pg_name (i := 9) nd rfl (Or.inl rfl)) pgs_nil)))))) (pss_cons (ps_for PassesOwn.never rfl (pi_range1 (by rfl) M_range (pa_cons (pe_op op_mod (pe_own O__law_cell_at (hr.mono (by omega)) (by rfl) (pa_cons (pv 0) (pa_cons pe_int pa_nil))) (pe_ix ix_list (pe_lst (pa_cons pe_int (pa_cons pe_int pa_nil))) (pe_op op_mod (pe_op op_fdiv (pe_own O__law_cell_at (hr.mono (by omega)) (by rfl) (pa_cons (pv 0) (pa_cons pe_int pa_nil))) pe_int) pe_int) (fun _ _ => rfl))) pa_nil)) (pg_name (i := 10) nd rfl (Or.inl rfl)) (pss_cons (ps_set (i := 11) nd rfl (Or.inl rfl) (pe_op op_add (pe_own O__law_cell_at (hr.mono (by omega)) (by rfl) (pa_cons (pv 0) (pa_cons (pe_op op_add pe_int (pv 10)) pa_nil))) (pe_op op_mul (pe_op op_sub pe_int (pe_op op_mod (pe_own O__law_cell_at (hr.mono (by omega)) (by rfl) (pa_cons (pv 0) (pa_cons (pe_op op_add pe_int (pv 10)) pa_nil))) pe_int)) (pe_callTy call_int1 (by rfl) M_int B_int (pa_cons (pe_cmpR op_gt (pv 10) pe_int (nomark _)) pa_nil))))) (pss_cons (ps_if (PW.pt (pw_or (pt_cmpR op_eq (pe_op op_mod (pv 11) pe_int) pe_int (nomark _)) (pw_or (pt_cmpR op_eq (pv 8) pe_int (nomark _)) (pw_or1 (pt_cmpR op_eq (pv 6) (pv 7) (nomark _)))))) (pss_cons (ps_set (i := 12) nd rfl (Or.inl rfl) (pe_own O__law_gone (hr.mono (by omega)) (by rfl) (pa_cons (pe_op op_fdiv (pv 11) pe_int) (pa_cons (pv 6) (pa_cons (pv 7) (pa_cons (pv 8) pa_nil)))))) (pss_one (ps_if (pt_cmpR (op_neD hr.units) (pe_own O__law_refused (hr.mono (by omega)) (by rfl) (pa_cons (pv 4) (pa_cons pe_int (pa_cons (pv 12) (pa_cons (pe_cmpR op_eq (pe_op op_mod (pv 11) pe_int) pe_int (nomark _)) pa_nil))))) (pe_lst (pa_cons pe_bl (pa_cons pe_bl (pa_cons pe_bl (pa_cons pe_bl (pa_cons pe_bl pa_nil)))))) (nomark _)) (pss_one (ps_ret pe_bl)) pss_nil))) (pss_cons (ps_set (i := 13) nd rfl (Or.inl rfl) (pe_op op_add (pe_op op_add (pv 6) pe_int) (pe_op op_mul (pe_op op_mod (pe_op op_fdiv (pv 11) pe_int) (pe_op op_sub (pv 7) (pv 6))) (pe_callTy call_int1 (by rfl) M_int B_int (pa_cons (pe_cmpR op_le (pv 10) pe_int (nomark _)) pa_nil))))) (pss_cons (ps_if (pt_cmpR op_lt (pe_op op_mod (pv 11) pe_int) pe_int (nomark _)) (pss_one (ps_set (i := 13) nd rfl (Or.inl rfl) (pe_ix ix_tup (pe_meth0 (pv 4) C_Search H_Search_advice O_Search_advice (hr.mono (by omega)) b_Search_advice .nil pass_no) (pe_op op_mod (pv 11) pe_int) (fun _ _ => rfl)))) pss_nil) (pss_cons (ps_set (i := 14) nd rfl (Or.inl rfl) (pe_ownx O_fewest pass_no (hr.mono (by omega)) (by rfl) (pa_cons (pe_op op_sub (pv 7) (pv 6)) (pa_cons (pv 8) pa_nil)))) (pss_cons (ps_set (i := 15) nd rfl (Or.inl rfl) (pe_meth (pv 4) C_Search H_Search_dropped O_Search_dropped (hr.mono (by omega)) b_Search_dropped .nil pass_no (pa_cons (pv 13) (pa_cons (pe_cmpR op_gt (pv 13) (pv 3) (nomark _)) pa_nil)))) (pss_cons (ps_expr (pe_bm PySem.F.plainAttrs_list PySem.F.slot_list_append PySem.F.type_list_append mt_append (pv 9) (pa_cons (pe_tup (pa_cons (pv 13) (pa_cons (pe_cmpR op_gt (pv 13) (pv 3) (nomark _)) pa_nil))) pa_nil))) (pss_cons (ps_if (PW.pt (pw_or (pt_not (pt_val (pe_own O__law_whole (hr.mono (by omega)) (by rfl) (pa_cons (pv 15) pa_nil)))) (pw_or1 (pt_cmpR op_ne (pv 15) (pe_callB call_len_seq (by rfl) M_len B_len (pa_cons (pv 9) pa_nil)) (nomark _))))) (pss_one (ps_ret pe_bl)) pss_nil) (pss_cons (ps_if (pt_cmpR op_gt (pv 13) (pv 3) (nomark _)) (pss_cons (ps_set (i := 7) nd rfl (Or.inl rfl) (pe_op op_sub (pv 13) pe_int)) (pss_one (ps_set (i := 8) nd rfl (Or.inl rfl) (pe_op op_sub (pv 8) pe_int)))) (pss_one (ps_set (i := 6) nd rfl (Or.inl rfl) (pv 13)))) (pss_one (ps_if (PW.pt (pw_and (pt_cmpR op_lt (pe_op op_mod (pv 11) pe_int) pe_int (nomark _)) (pw_and (PW.pt (pw_or (pt_cmpR op_gt (pv 8) pe_int (nomark _)) (pw_or1 (pt_cmpR op_eq (pv 6) (pv 7) (nomark _))))) (pw_and1 (pt_cmpR op_ge (pe_ownx O_fewest pass_no (hr.mono (by omega)) (by rfl) (pa_cons (pe_op op_sub (pv 7) (pv 6)) (pa_cons (pv 8) pa_nil))) (pv 14) (nomark _)))))) (pss_one (ps_ret pe_bl)) pss_nil)))))))))) (pss_one (ps_if (pt_not (pt_val (pe_own O__law_stands (hr.mono (by omega)) (by rfl) (pa_cons (pv 4) (pa_cons (pv 6) (pa_cons (pv 7) (pa_cons (pv 8) (pa_cons (pv 9) pa_nil)))))))) (pss_one (ps_ret pe_bl)) pss_nil))))) (pss_one (ps_ret (pe_own O__law_stands (hr.mono (by omega)) (by rfl) (pa_cons (pv 5) (pa_cons pe_int (pa_cons (pv 1) (pa_cons (pv 2) (pa_cons (pe_lst pa_nil) pa_nil))))))))))))))))), ?_⟩
  refine ⟨_, rfl, a, ns, 0, rfl, hS, by omega, _, _, rfl, rfl, (by show (0 : Int) < 61; decide), ?_⟩
  refine ⟨_, rfl, a, ns, 1, rfl, hS, by omega, _, _, rfl, rfl, (by show (0 : Int) < 7; decide), ?_⟩
  refine ⟨_, rfl, a, ns, 2, rfl, hS, by omega, _, _, rfl, rfl, (by show (0 : Int) < 4; decide), rfl, _, rfl, ?_⟩
  apply ite_rest
  case h2 =>
    intro kk
    dsimp only
    generalize e1 : cellV ns 0 % 61 = fl
    generalize e2 : cellV ns 1 % 7 = th0
    have f0 : 0 ≤ fl := by rw [← e1]; exact Int.emod_nonneg _ (by decide)
    have f1' : fl ≤ 1000 := by rw [← e1]; exact Int.le_trans (Int.le_of_lt (Int.emod_lt_of_pos _ (by decide))) (by decide)
    have t0 : 0 ≤ th0 := by rw [← e2]; exact Int.emod_nonneg _ (by decide)
    have t1' : th0 ≤ 12 := by rw [← e2]; exact Int.le_trans (Int.le_of_lt (Int.emod_lt_of_pos _ (by decide))) (by decide)
    clear e1 e2
    revert fl th0
    exact kk
  case h1 =>
    intro kk
    refine ⟨_, rfl, a, ns, 0, rfl, hS, by omega, _, _, rfl, rfl, (by show (0 : Int) < 1001; decide), ?_⟩
    refine ⟨_, rfl, a, ns, 1, rfl, hS, by omega, _, _, rfl, rfl, (by show (0 : Int) < 13; decide), ?_⟩
    have f0 := Int.emod_nonneg (cellV ns 0) (by omega : (1001 : Int) ≠ 0)
    have f1 := Int.emod_lt_of_pos (cellV ns 0) (by omega : (0 : Int) < 1001)
    have t0 := Int.emod_nonneg (cellV ns 1) (by omega : (13 : Int) ≠ 0)
    have t1 := Int.emod_lt_of_pos (cellV ns 1) (by omega : (0 : Int) < 13)
    exact kk (cellV ns 0 % 1001) (cellV ns 1 % 13) f0 (by omega) t0 (by omega)
  case hR =>
    intro fl th0 f0 f1' t0 t1'
    refine ⟨_, rfl, _, rfl, _, _, rfl, rfl, .inr ⟨_, rfl, ⟨_, _, rfl, ?_⟩⟩⟩
    dsimp only
    generalize hth : (if (if decide (0 < fl) = true then (1 : Int) else 0) > th0 then (if decide (0 < fl) = true then (1 : Int) else 0) else th0) = th
    have ht : 0 ≤ th ∧ th ≤ 12 ∧ (fl = 0 ∨ 0 < th) := by
      by_cases z : 0 < fl
      · rw [decide_eq_true z, if_pos rfl] at hth
        split at hth <;> omega
      · rw [decide_eq_false z, if_neg Bool.false_ne_true] at hth
        split at hth <;> omega
    clear hth t0 t1'
    obtain ⟨t0, t1, ft⟩ := ht
    have cok : COk 1000 fl th := ⟨f0, f1', t0, t1, ft⟩
    refine ⟨_, rfl, a, ns, 3, rfl, hS, by omega, _, rfl, _, _, rfl, rfl, _, _, rfl, rfl, (by show (0 : Int) < fl + 1; omega), ?_⟩
    dsimp only
    generalize cellV ns 3 % (fl + 1) = fo
    refine ⟨_, rfl, _, rfl, fun x dx hx hdx ndx => ⟨x, dx, fl, th, rfl, upd_same, cok, fun r H1 hr1 se1 fr1 => ⟨rfl, ?_⟩⟩⟩
    have s1 : Same H H1 := fun b o e => fr1 b o (by rw [upd_ne (ne_of_none e hx), upd_ne (ne_of_none e hdx)]; exact e) (ne_of_none e hx)
    have nrx : r ≠ x := Ne.symm (ne_of_none upd_same hr1)
    have hr0 : H r = none := by
      rw [upd_ne nrx] at hr1
      rw [upd_ne (Ne.symm (ne_of_none upd_same hr1))] at hr1
      exact hr1
    obtain ⟨_, _, ex1, er1, _⟩ := id se1
    refine ⟨_, rfl, _, rfl, fun x2 dx2 hx2 hdx2 ndx2 => ⟨x2, dx2, fl, th, rfl, upd_same, cok, fun r2 H2 hr2 se2 fr2 => ⟨rfl, ?_⟩⟩⟩
    have s2 : Same H1 H2 := fun b o e => fr2 b o (by rw [upd_ne (ne_of_none e hx2), upd_ne (ne_of_none e hdx2)]; exact e) (ne_of_none e hx2)
    have nrx2 : r2 ≠ x2 := Ne.symm (ne_of_none upd_same hr2)
    have hr20 : H1 r2 = none := by
      rw [upd_ne nrx2] at hr2
      rw [upd_ne (Ne.symm (ne_of_none upd_same hr2))] at hr2
      exact hr2
    have nxx : x ≠ x2 := ne_of_none ex1 hx2
    have nrr : r ≠ r2 := ne_of_none er1 hr20
    obtain ⟨_, _, ex2, er2, _⟩ := id se2
    have se1' := se1.same s2
    refine ⟨_, rfl, _, rfl, by show 0 ≤ sizeLine; decide, fun dn hdn => ⟨by show 4 ≤ sizeLine; decide, fun tp htp => ⟨tp, _, rfl, SqT.of upd_same, rfl, _, _, rfl, _, _, rfl, _, _, rfl, _, _, rfl, rfl, ?_⟩⟩⟩
    have s3 := same_upd hdn (.lst [])
    have s4 := same_upd htp (.tup [.int 0, .int fl, .int th, .ref dn])
    have ndr : dn ≠ r := Ne.symm (ne_of_none (s2 _ _ er1) hdn)
    have ndr2 : dn ≠ r2 := Ne.symm (ne_of_none er2 hdn)
    have edn := s4 _ _ (upd_same (H := H2) (a := dn) (o := .lst []))
    have se1'' := se1'.same (s3.trans s4)
    have se2'' := se2.same (s3.trans s4)
    have sH := s1.trans (s2.trans (s3.trans s4))
    have hdn0 : H dn = none := by
      cases z : H dn with
      | none => rfl
      | some o => exact absurd (s2 _ _ (s1 _ _ z)) (by rw [hdn]; intro y; cases y)
    generalize upd (upd H2 dn (.lst [])) tp (.tup [.int 0, .int fl, .int th, .ref dn]) = H4 at edn se1'' se2'' sH
    obtain ⟨v, hv, hvv⟩ := pick2 (cellV ns 2 / 4) (.int 21) (.int 59)
    obtain ⟨m, rfl, m0, m1⟩ : ∃ m : Int, v = .int m ∧ 0 < m ∧ m ≤ 59 := by
      rcases hvv with rfl | rfl
      · exact ⟨_, rfl, by omega, by omega⟩
      · exact ⟨_, rfl, by omega, by omega⟩
    refine ⟨_, rfl, a, ns, 4, rfl, sH.seq hS, by omega, by show 2 ≤ sizeLine; decide, fun l2 hl2 => ?_⟩
    have s5 := same_upd hl2 (.lst [.int 21, .int 59])
    have sH5 := sH.trans s5
    have n0 := Int.emod_nonneg (cellV ns 4) (by omega : m ≠ 0)
    have n1 := Int.emod_lt_of_pos (cellV ns 4) m0
    refine ⟨_, rfl, a, ns, 2, rfl, sH5.seq hS, by omega, _, _, rfl, rfl, ⟨by decide, by decide⟩, _, _, rfl, rfl, (by show (0 : Int) < 2; decide), l2, _, _, .int m, rfl, rfl, SqL.of upd_same, hv, _, _, rfl, rfl, m0, cellV ns 4 % m, rfl, by omega, by omega, ?_⟩
    refine for_range (lo := 0) (n := (cellV ns 4 % m).toNat) (fun i σ H' => ∃ l h t c10 c11 c12 c13 c14 c15, σ = [some (.ref a), some (.int fl), some (.int th), some (.int fo), some (.ref x), some (.ref x2), some (.int l), some (.int h), some (.int t), some (.ref dn), c10, c11, c12, c13, c14, c15] ∧ LInv C H x r x2 r2 dn fl th i l h t H')
      ⟨0, fl, th, none, none, none, none, none, none, rfl, [], [], sH5, se1''.same s5, se2''.same s5, s5 _ _ edn, .nil, by omega, f0, by omega, t0, by omega, by show 0 ≤ 0; omega⟩ ?_ ?_
    · rintro i σ H6 hii ⟨l, h, t, c10, c11, c12, c13, c14, c15, rfl, ds, ws, s6, se, so, ed, hP, l0, lh, hf, tt0, tt1, hw⟩
      generalize hk : 0 + (i : Int) = k
      refine ⟨_, rfl, _, rfl, _, _, rfl, rfl, a, ns, 5 + k, rfl, s6.seq hS, by omega, _, rfl, _, rfl, _, _, rfl, rfl, a, ns, 5 + k, rfl, s6.seq hS, by omega, _, _, rfl, rfl, (by show (0 : Int) < 5; decide), _, _, rfl, rfl, _, rfl, _, _, rfl, rfl, .inr ⟨_, rfl, _, _, rfl, rfl, cmul_b _, _, _, rfl, rfl, ?_⟩⟩
      dsimp only
      generalize cellV ns (5 + k) + (3 - cellV ns (5 + k) % 5) * (if decide (20 < k) = true then (1 : Int) else 0) = ce
      obtain ⟨dsx, us, ex, er, hu⟩ := id se
      obtain ⟨dsx2, us2, ex2', er2', hu2⟩ := id so
      have eR : PyData.eqv (.list [.bool false, .bool false, .bool true, .bool false, .bool true]) (.list [.bool false, .bool false, .bool true, .bool false, .bool true]) = true := by
        simp [PyData.eqv, PyData.eqvAll]
      have shl : sm (h - l) := sm_small (by omega) (by omega)
      have st : sm t := sm_small (by omega) (by omega)
      refine ⟨_, rfl, _, _, rfl, rfl, (by show (0 : Int) < 5; decide), rfl, _, rfl, ?_⟩
      refine ite2 (fun c1 => iteT ?a1) (fun c1 => ?g1)
      case' g1 =>
        refine ⟨_, rfl, rfl, _, rfl, ?_⟩
        refine ite2 (fun c2 => iteT ?a2) (fun c2 => ?g2)
      case' g2 =>
        refine ⟨_, rfl, _, rfl, rfl, _, rfl, ?_⟩
        refine ite2 (fun c3 => ?a3) (fun c3 => ?g3)
      case a1 | a2 | a3 =>
        refine ⟨_, rfl, _, _, rfl, rfl, ⟨by decide, by decide⟩, _, rfl, _, rfl, _, rfl, ce / 5, l, h, t, rfl, l0, lh, by omega, tt0, fun g H7 s7 sg bad => ?_⟩
        refine ⟨_, rfl, _, rfl, _, rfl, _, _, rfl, rfl, (by show (0 : Int) < 3; decide), rfl, x, r, l, h, t, g, 0, _, ws, rfl, se.same s7, sg, by omega, shl, st, .inl ⟨rfl, fun z => by omega, fun H8 y s8 ey => ?_⟩⟩
        refine ⟨by show 5 ≤ sizeLine; decide, fun lq hlq => ?_⟩
        have s9 := same_upd hlq (.lst nfL)
        refine ⟨_, _, dat_nf (s9 _ _ ey), dat_nf upd_same, rfl, rfl, _, rfl, ?_⟩
        rw [show (if true = true then !PyData.eqv (.list [.bool false, .bool false, .bool true, .bool false, .bool true]) (.list [.bool false, .bool false, .bool true, .bool false, .bool true]) else PyData.eqv (.list [.bool false, .bool false, .bool true, .bool false, .bool true]) (.list [.bool false, .bool false, .bool true, .bool false, .bool true])) = false by rw [if_pos rfl, eR]; rfl]
        have s69 := s7.trans (s8.trans s9)
        refine iteF ⟨_, rfl, _, rfl, _, rfl, _, rfl, _, rfl, x, r, dn, l, h, t, ds, ws, rfl, se.same s69, s69 _ _ ed, hP.tups s69.tups, l0, lh, by omega, tt0, by omega, by omega, fun H10 s10 => ⟨_, rfl, iteF ?_⟩⟩
        have s610 := s69.trans s10
        exact ⟨l, h, t, _, _, _, _, _, _, rfl, ds, ws, s6.trans s610, se.same s610, so.same s610, s610 _ _ ed, hP.tups s610.tups, l0, lh, hf, tt0, tt1, by omega⟩
      have c2' : t ≠ 0 := fun z => c2 (decide_eq_true (by rw [z]))
      have c3' : l < h := by
        have : l ≠ h := fun z => c3 (decide_eq_true (by rw [z]))
        omega
      have ck : COk 1000 (h - l) t := ⟨by omega, by omega, by omega, by omega, .inr (by omega)⟩
      refine ⟨_, rfl, _, _, rfl, rfl, _, rfl, _, _, rfl, rfl, ⟨by decide, by decide⟩, _, rfl, _, rfl, _, _, rfl, rfl, _, _, rfl, rfl, (by show 0 < h - l; omega), _, rfl, _, _, rfl, rfl, .inr ⟨_, rfl, _, _, rfl, rfl, cmul_b _, _, _, rfl, rfl, ?_⟩⟩
      dsimp only
      generalize hd : l + 1 + ce / 5 % (h - l) * (if decide (k ≤ 20) = true then (1 : Int) else 0) = d
      have hdd : l < d ∧ d ≤ h := by
        have m0' := Int.emod_nonneg (ce / 5) (by omega : h - l ≠ 0)
        have m1' := Int.emod_lt_of_pos (ce / 5) (by omega : 0 < h - l)
        generalize ce / 5 % (h - l) = mm at hd m0' m1'
        split at hd <;> omega
      clear hd
      refine ⟨_, rfl, _, _, rfl, rfl, (by show (0 : Int) < 5; decide), _, _, rfl, rfl, _, rfl, ?_⟩
      have fa := first_facts (f := (h - l).toNat) (t := t.toNat) (by omega) (by omega)
      refine ite2 (fun c4 => ?n1) (fun c4 => ?n2)
      case' n1 =>
        refine ⟨_, rfl, x, dsx, _, rfl, ex, rfl, x, r, l, h, t, ws, rfl, se, shl, st, fun _ => ⟨fun z => absurd z (by omega), fun _ H7 a7 s7 e7 => ?_⟩, fun z => absurd ck z⟩
        obtain ⟨v7, hv7, hc7⟩ := pick2 ce (.int (l + (lo (h - l).toNat t.toNat : Nat))) (.int (l + (hi (h - l).toNat t.toNat : Nat)))
        obtain ⟨d, rfl, hdd, ad⟩ : ∃ d : Int, v7 = .int d ∧ (l < d ∧ d ≤ h) ∧ (ce % 5 < 2 → lo (h - l).toNat t.toNat ≤ (d - l).toNat ∧ (d - l).toNat ≤ hi (h - l).toNat t.toNat) := by
          rcases hc7 with rfl | rfl
          · exact ⟨_, rfl, by omega, fun _ => by omega⟩
          · exact ⟨_, rfl, by omega, fun _ => by omega⟩
        refine ⟨_, rfl, _, _, rfl, rfl, (by show (0 : Int) < 2; decide), a7, _, _, .int d, rfl, rfl, SqT.of e7, hv7, ?_⟩
      case' n2 =>
        have s7 : Same H6 H6 := Same.refl _
        have ad : ce % 5 < 2 → lo (h - l).toNat t.toNat ≤ (d - l).toNat ∧ (d - l).toNat ≤ hi (h - l).toNat t.toNat := fun z => absurd (decide_eq_true z) c4
      all_goals
        have hle : (d - l).toNat ≤ (h - l).toNat := by omega
        have less : ce % 5 < 2 → (0 < t.toNat - 1 ∨ (d - l).toNat - 1 = 0 → few ((d - l).toNat - 1) (t.toNat - 1) < few (h - l).toNat t.toNat) ∧ few ((h - l).toNat - (d - l).toNat) t.toNat < few (h - l).toNat t.toNat := fun z => adv_less (by omega) (by omega) hle (by show (h - l).toNat < 1000000; omega) (ad z)
        refine ⟨_, rfl, _, rfl, _, _, rfl, rfl, _, rfl, h - l, t, rfl, shl, st, fun _ => ?_, fun z => absurd ck z⟩
        refine ⟨_, rfl, x, dsx, _, rfl, s7 _ _ ex, rfl, _, rfl, _, rfl, _, rfl, _, _, rfl, rfl, x, r, l, h, t, d, _, ws, rfl, se.same s7, sm_small (by omega) (by omega), by omega, fun _ H8 se8 fr8 => ?_, fun z => absurd ⟨c2', hdd⟩ z⟩
        have ed7 := s7 _ _ ed
        have ed8 := fr8 _ _ ed7 (ne_of ed7 (s7 _ _ ex) (by intro z; cases z)) ndr
        have hlen := hP.len
        refine ⟨_, rfl, .inl ⟨rfl, _, SqL.of ed8⟩, _, rfl, _, rfl, _, rfl, _, _, rfl, rfl, by show 2 ≤ sizeLine; decide, fun p9 hp9 => ⟨dn, ds, _, rfl, rfl, same_upd hp9 _ _ _ ed8, lt_size (by omega), ?_⟩⟩
        obtain ⟨dx8, us8, ex8, er8, hP8⟩ := id se8
        have s9 := same_upd hp9 (.tup [.int d, .bl (decide (fo < d))])
        have nxd : x ≠ dn := ne_of ex ed (by intro z; cases z)
        have tt : TupS H6 (upd (upd H8 p9 (.tup [.int d, .bl (decide (fo < d))])) dn (.lst (ds ++ [.ref p9]))) := fun c ys z => by
          rw [upd_ne (ne_of z ed (by intro y; cases y))]
          exact s9 _ _ (fr8 _ _ (s7 _ _ z) (ne_of z ex (by intro y; cases y)) (ne_of z er (by intro y; cases y)))
        have tt8 : TupS H8 (upd (upd H8 p9 (.tup [.int d, .bl (decide (fo < d))])) dn (.lst (ds ++ [.ref p9]))) := fun c ys z => by
          rw [upd_ne (ne_of z ed8 (by intro y; cases y))]
          exact s9 _ _ z
        have sT : Same H (upd (upd H8 p9 (.tup [.int d, .bl (decide (fo < d))])) dn (.lst (ds ++ [.ref p9]))) := fun b o e => by
          rw [upd_ne (ne_of_none e hdn0)]
          exact s9 _ _ (fr8 _ _ (s7 _ _ (s6 _ _ e)) (ne_of_none e hx) (ne_of_none e hr0))
        have se10 : SeAt C (upd (upd H8 p9 (.tup [.int d, .bl (decide (fo < d))])) dn (.lst (ds ++ [.ref p9]))) x r _ _ _ _ := ⟨dx8, us8, by rw [upd_ne nxd]; exact s9 _ _ ex8, by rw [upd_ne (Ne.symm ndr)]; exact s9 _ _ er8, hP8.tups tt8⟩
        have so10 : SeAt C (upd (upd H8 p9 (.tup [.int d, .bl (decide (fo < d))])) dn (.lst (ds ++ [.ref p9]))) x2 r2 0 fl th [] := ⟨dsx2, us2, by rw [upd_ne (ne_of ex2' ed (by intro z; cases z))]; exact s9 _ _ (fr8 _ _ (s7 _ _ ex2') (Ne.symm nxx) (ne_of ex2' er (by intro z; cases z))), by rw [upd_ne (Ne.symm ndr2)]; exact s9 _ _ (fr8 _ _ (s7 _ _ er2') (ne_of er2' ex (by intro z; cases z)) (Ne.symm nrr)), hu2.tups tt⟩
        have ed10 : (upd (upd H8 p9 (.tup [.int d, .bl (decide (fo < d))])) dn (.lst (ds ++ [.ref p9]))) dn = some (.lst (ds ++ [.ref p9])) := upd_same
        have hP10 : PairsV (upd (upd H8 p9 (.tup [.int d, .bl (decide (fo < d))])) dn (.lst (ds ++ [.ref p9]))) (ds ++ [.ref p9]) (ws ++ [(d, decide (fo < d))]) := (hP.tups tt).snoc (by rw [upd_ne (Ne.symm (ne_of_none ed8 hp9))]; exact upd_same)
        generalize upd (upd H8 p9 (.tup [.int d, .bl (decide (fo < d))])) dn (.lst (ds ++ [.ref p9])) = H10 at sT se10 so10 ed10 hP10 ⊢
        clear tt tt8
        have hlw : (ws ++ [(d, decide (fo < d))]).length = ws.length + 1 := by rw [List.length_append]; rfl
        refine ⟨_, rfl, _, rfl, _, rfl, iteF ?_⟩
        refine ⟨_, rfl, _, rfl, dn, _, rfl, .inl (SqL.of ed10), rfl, _, rfl, ite2 (fun c => absurd c (by simp [hlen])) fun _ => ?_⟩
        refine ⟨_, rfl, _, rfl, _, _, rfl, rfl, _, rfl, ite2 (fun c5 => ?_) (fun c5 => ?_)⟩
        · have c5' : decide (fo < d) = true := c5
          rw [c5'] at se10 hP10 hlw
          have se' : SeAt C H10 x r l (d - 1) (t - 1) (ws ++ [(d, true)]) := se10
          have hP' := hP10
          refine ⟨_, rfl, _, _, rfl, rfl, _, rfl, _, _, rfl, rfl, ?_⟩
          dsimp only
          refine ⟨_, rfl, _, _, rfl, rfl, (by show (0 : Int) < 5; decide), _, _, rfl, rfl, _, rfl, ?_⟩
          apply ite_rst
          case h2 =>
            intro _ kk
            exact iteF kk
          case h1 =>
            intro c6 kk
            have c6' : ce % 5 < 2 := of_decide_eq_true c6
            have ls := less c6'
            have C1 : 0 < (t - 1) ∨ l = (d - 1) → ((few ((d - 1) - l).toNat ((t - 1)).toNat : Nat) : Int) < (few (h - l).toNat t.toNat : Nat) := fun z => by
              have y := ls.1 (by omega)
              rw [show (d - 1 - l).toNat = (d - l).toNat - 1 by omega, show (t - 1).toNat = t.toNat - 1 by omega]
              omega
            have ckz : 0 < (t - 1) ∨ l = (d - 1) → COk 1000 ((d - 1) - l) (t - 1) := fun z => ⟨by omega, by omega, by omega, by omega, by omega⟩
            refine ⟨_, rfl, _, _, rfl, rfl, _, rfl, ite2 (fun c7 => iteT ?_) (fun c7 => ?_)⟩
            · have z : 0 < (t - 1) ∨ l = (d - 1) := .inl (of_decide_eq_true c7)
              refine ⟨_, rfl, _, rfl, _, _, rfl, rfl, _, rfl, (d - 1) - l, (t - 1), rfl, sm_small (by omega) (by omega), sm_small (by omega) (by omega), fun _ => ⟨_, rfl, _, _, rfl, rfl, _, rfl, ?_⟩, fun y => absurd (ckz z) y⟩
              rw [decide_eq_false (by have := C1 z; omega)]
              exact iteF kk
            · refine ⟨_, rfl, _, rfl, rfl, _, rfl, ite2 (fun c8 => ?_) (fun c8 => iteF kk)⟩
              have z : 0 < (t - 1) ∨ l = (d - 1) := .inr (by
                have y : V.int (l) = V.int ((d - 1)) := of_decide_eq_true c8
                injection y)
              refine ⟨_, rfl, _, rfl, _, _, rfl, rfl, _, rfl, (d - 1) - l, (t - 1), rfl, sm_small (by omega) (by omega), sm_small (by omega) (by omega), fun _ => ⟨_, rfl, _, _, rfl, rfl, _, rfl, ?_⟩, fun y => absurd (ckz z) y⟩
              rw [decide_eq_false (by have := C1 z; omega)]
              exact iteF kk
          case hR =>
            refine ⟨_, rfl, _, rfl, _, rfl, _, rfl, _, rfl, x, r, dn, l, (d - 1), (t - 1), _, _, rfl, se', ed10, hP', by omega, by omega, by omega, by omega, by omega, by omega, fun H11 s11 => ⟨_, rfl, iteF ?_⟩⟩
            exact ⟨l, (d - 1), (t - 1), _, _, _, _, _, _, rfl, _, _, sT.trans s11, se'.same s11, so10.same s11, s11 _ _ ed10, hP'.tups s11.tups, by omega, by omega, by omega, by omega, by omega, by omega⟩
        · have c5' : decide (fo < d) = false := (Bool.not_eq_true _).mp c5
          rw [c5'] at se10 hP10 hlw
          have se' : SeAt C H10 x r d h t (ws ++ [(d, false)]) := se10
          have hP' := hP10
          refine ⟨_, rfl, ?_⟩
          refine ⟨_, rfl, _, _, rfl, rfl, (by show (0 : Int) < 5; decide), _, _, rfl, rfl, _, rfl, ?_⟩
          apply ite_rst
          case h2 =>
            intro _ kk
            exact iteF kk
          case h1 =>
            intro c6 kk
            have c6' : ce % 5 < 2 := of_decide_eq_true c6
            have ls := less c6'
            have C1 : 0 < t ∨ d = h → ((few (h - d).toNat (t).toNat : Nat) : Int) < (few (h - l).toNat t.toNat : Nat) := fun z => by
              have y := ls.2
              rw [show (h - d).toNat = (h - l).toNat - (d - l).toNat by omega]
              omega
            have ckz : 0 < t ∨ d = h → COk 1000 (h - d) t := fun z => ⟨by omega, by omega, by omega, by omega, by omega⟩
            refine ⟨_, rfl, _, _, rfl, rfl, _, rfl, ite2 (fun c7 => iteT ?_) (fun c7 => ?_)⟩
            · have z : 0 < t ∨ d = h := .inl (of_decide_eq_true c7)
              refine ⟨_, rfl, _, rfl, _, _, rfl, rfl, _, rfl, h - d, t, rfl, sm_small (by omega) (by omega), sm_small (by omega) (by omega), fun _ => ⟨_, rfl, _, _, rfl, rfl, _, rfl, ?_⟩, fun y => absurd (ckz z) y⟩
              rw [decide_eq_false (by have := C1 z; omega)]
              exact iteF kk
            · refine ⟨_, rfl, _, rfl, rfl, _, rfl, ite2 (fun c8 => ?_) (fun c8 => iteF kk)⟩
              have z : 0 < t ∨ d = h := .inr (by
                have y : V.int (d) = V.int (h) := of_decide_eq_true c8
                injection y)
              refine ⟨_, rfl, _, rfl, _, _, rfl, rfl, _, rfl, h - d, t, rfl, sm_small (by omega) (by omega), sm_small (by omega) (by omega), fun _ => ⟨_, rfl, _, _, rfl, rfl, _, rfl, ?_⟩, fun y => absurd (ckz z) y⟩
              rw [decide_eq_false (by have := C1 z; omega)]
              exact iteF kk
          case hR =>
            refine ⟨_, rfl, _, rfl, _, rfl, _, rfl, _, rfl, x, r, dn, d, h, t, _, _, rfl, se', ed10, hP', by omega, by omega, by omega, by omega, by omega, by omega, fun H11 s11 => ⟨_, rfl, iteF ?_⟩⟩
            exact ⟨d, h, t, _, _, _, _, _, _, rfl, _, _, sT.trans s11, se'.same s11, so10.same s11, s11 _ _ ed10, hP'.tups s11.tups, by omega, by omega, by omega, by omega, by omega, by omega⟩
    · rintro σ H6 ⟨l, h, t, c10, c11, c12, c13, c14, c15, rfl, ds, ws, s6, se, so, ed, hP, l0, lh, hf, tt0, tt1, hw⟩
      refine ⟨_, rfl, _, rfl, _, rfl, by show 0 ≤ sizeLine; decide, fun le hle => ?_⟩
      have s7 := same_upd hle (.lst [])
      exact ⟨x2, r2, le, 0, fl, th, [], [], rfl, so.same s7, upd_same, .nil, by omega, f0, f1', t0, t1, by show 0 ≤ 1000; omega, fun H' _ => q H'⟩
end
theorem all_mk {l : PySem.W.OpenLaw} {w : World} {K : PySem.W.Frag} {h : Heap} {mg : Str → Option Value} {fa f1 f2 f3 f4 f5 f6 f7 f8 f9 f10 f11 f12 f13 f14 f15 : Addr} (X : K.In h) (G : h.Ns mainGlobals mg) (hfa : mg "law" = some (.ref fa))
    {od1 an1 od2 an2 od3 an3 od4 an4 od5 an5 od6 an6 od7 an7 od8 an8 od9 an9 od10 an10 od11 an11 od12 an12 od13 an13 od14 an14 od15 an15 : Option Addr} {sl1 sl2 sl3 sl4 sl5 sl6 sl7 sl8 sl9 sl10 sl11 sl12 sl13 sl14 sl15 : Array (Option Value)} {oc1 kV1 dc1 pm1 cd1 ct1 oc2 kV2 dc2 pm2 cd2 ct2 oc3 kV3 dc3 pm3 cd3 ct3 oc4 kV4 dc4 pm4 cd4 ct4 oc5 kV5 dc5 pm5 cd5 ct5 oc6 kV6 dc6 pm6 cd6 ct6 oc7 kV7 dc7 pm7 cd7 ct7 oc8 kV8 dc8 pm8 cd8 ct8 oc9 kV9 dc9 pm9 cd9 ct9 oc10 kV10 dc10 pm10 cd10 ct10 oc11 kV11 dc11 pm11 cd11 ct11 oc12 kV12 dc12 pm12 cd12 ct12 oc13 kV13 dc13 pm13 cd13 ct13 oc14 kV14 dc14 pm14 cd14 ct14 oc15 kV15 dc15 pm15 cd15 ct15 : Value}
    {tk_MOST_THINGS tk_MOST_FLOORS  : Tok}
    {c_Search f_Search___init__ f_Search_dropped f_Search_check_drop f_Search_span f_Search_left f_Search_drops f_Search_need f_Search_advice : Addr} {mod_0 man_0 mod_1 man_1 mod_2 man_2 mod_3 man_3 mod_4 man_4 mod_5 man_5 mod_6 man_6 mod_7 man_7 : Option Addr} {msl_0 msl_1 msl_2 msl_3 msl_4 msl_5 msl_6 msl_7 : Array (Option Value)} {moc_0 mkV_0 mdc_0 mpm_0 mcd_0 mct_0 moc_1 mkV_1 mdc_1 mpm_1 mcd_1 mct_1 moc_2 mkV_2 mdc_2 mpm_2 mcd_2 mct_2 moc_3 mkV_3 mdc_3 mpm_3 mcd_3 mct_3 moc_4 mkV_4 mdc_4 mpm_4 mcd_4 mct_4 moc_5 mkV_5 mdc_5 mpm_5 mcd_5 mct_5 moc_6 mkV_6 mdc_6 mpm_6 mcd_6 mct_6 moc_7 mkV_7 mdc_7 mpm_7 mcd_7 mct_7 : Value}
    {c_FloorError c_NoCase c_NoPlan c_NoFloor c_BadLine : Addr}
    (a1 : PySem.W.nsIn K mainGlobals "check_things" = some (some (.ref f1))) (l1 : K.lookup f1 = some ⟨oc1, od1, .func (PySem.W.fnOf "check_things" "check_things" (defArgs s_check_things) (defBody s_check_things) (defScope s_check_things) .none kV1 dc1 pm1 an1 cd1 ct1), sl1⟩) (c1 : PySem.W.codeIn K cd1 "check_things" = true) (k1 : PySem.W.keepIn K (.ref f1) = true)
    (a2 : PySem.W.nsIn K mainGlobals "check_case" = some (some (.ref f2))) (l2 : K.lookup f2 = some ⟨oc2, od2, .func (PySem.W.fnOf "check_case" "check_case" (defArgs s_check_case) (defBody s_check_case) (defScope s_check_case) .none kV2 dc2 pm2 an2 cd2 ct2), sl2⟩) (c2 : PySem.W.codeIn K cd2 "check_case" = true) (k2 : PySem.W.keepIn K (.ref f2) = true)
    (a3 : PySem.W.nsIn K mainGlobals "check_house" = some (some (.ref f3))) (l3 : K.lookup f3 = some ⟨oc3, od3, .func (PySem.W.fnOf "check_house" "check_house" (defArgs s_check_house) (defBody s_check_house) (defScope s_check_house) .none kV3 dc3 pm3 an3 cd3 ct3), sl3⟩) (c3 : PySem.W.codeIn K cd3 "check_house" = true) (k3 : PySem.W.keepIn K (.ref f3) = true)
    (a4 : PySem.W.nsIn K mainGlobals "fewest" = some (some (.ref f4))) (l4 : K.lookup f4 = some ⟨oc4, od4, .func (PySem.W.fnOf "fewest" "fewest" (defArgs s_fewest) (defBody s_fewest) (defScope s_fewest) .none kV4 dc4 pm4 an4 cd4 ct4), sl4⟩) (c4 : PySem.W.codeIn K cd4 "fewest" = true) (k4 : PySem.W.keepIn K (.ref f4) = true)
    (a5 : PySem.W.nsIn K mainGlobals "choices" = some (some (.ref f5))) (l5 : K.lookup f5 = some ⟨oc5, od5, .func (PySem.W.fnOf "choices" "choices" (defArgs s_choices) (defBody s_choices) (defScope s_choices) .none kV5 dc5 pm5 an5 cd5 ct5), sl5⟩) (c5 : PySem.W.codeIn K cd5 "choices" = true) (k5 : PySem.W.keepIn K (.ref f5) = true)
    (a6 : PySem.W.nsIn K mainGlobals "floors_reached" = some (some (.ref f6))) (l6 : K.lookup f6 = some ⟨oc6, od6, .func (PySem.W.fnOf "floors_reached" "floors_reached" (defArgs s_floors_reached) (defBody s_floors_reached) (defScope s_floors_reached) .none kV6 dc6 pm6 an6 cd6 ct6), sl6⟩) (c6 : PySem.W.codeIn K cd6 "floors_reached" = true) (k6 : PySem.W.keepIn K (.ref f6) = true)
    (a7 : PySem.W.nsIn K mainGlobals "fewest_drops" = some (some (.ref f7))) (l7 : K.lookup f7 = some ⟨oc7, od7, .func (PySem.W.fnOf "fewest_drops" "fewest_drops" (defArgs s_fewest_drops) (defBody s_fewest_drops) (defScope s_fewest_drops) .none kV7 dc7 pm7 an7 cd7 ct7), sl7⟩) (c7 : PySem.W.codeIn K cd7 "fewest_drops" = true) (k7 : PySem.W.keepIn K (.ref f7) = true)
    (a8 : PySem.W.nsIn K mainGlobals "_law_cell_at" = some (some (.ref f8))) (l8 : K.lookup f8 = some ⟨oc8, od8, .func (PySem.W.fnOf "_law_cell_at" "_law_cell_at" (defArgs s__law_cell_at) (defBody s__law_cell_at) (defScope s__law_cell_at) .none kV8 dc8 pm8 an8 cd8 ct8), sl8⟩) (c8 : PySem.W.codeIn K cd8 "_law_cell_at" = true) (k8 : PySem.W.keepIn K (.ref f8) = true)
    (a9 : PySem.W.nsIn K mainGlobals "_law_whole" = some (some (.ref f9))) (l9 : K.lookup f9 = some ⟨oc9, od9, .func (PySem.W.fnOf "_law_whole" "_law_whole" (defArgs s__law_whole) (defBody s__law_whole) (defScope s__law_whole) .none kV9 dc9 pm9 an9 cd9 ct9), sl9⟩) (c9 : PySem.W.codeIn K cd9 "_law_whole" = true) (k9 : PySem.W.keepIn K (.ref f9) = true)
    (a10 : PySem.W.nsIn K mainGlobals "_law_pair" = some (some (.ref f10))) (l10 : K.lookup f10 = some ⟨oc10, od10, .func (PySem.W.fnOf "_law_pair" "_law_pair" (defArgs s__law_pair) (defBody s__law_pair) (defScope s__law_pair) .none kV10 dc10 pm10 an10 cd10 ct10), sl10⟩) (c10 : PySem.W.codeIn K cd10 "_law_pair" = true) (k10 : PySem.W.keepIn K (.ref f10) = true)
    (a11 : PySem.W.nsIn K mainGlobals "_law_which" = some (some (.ref f11))) (l11 : K.lookup f11 = some ⟨oc11, od11, .func (PySem.W.fnOf "_law_which" "_law_which" (defArgs s__law_which) (defBody s__law_which) (defScope s__law_which) .none kV11 dc11 pm11 an11 cd11 ct11), sl11⟩) (c11 : PySem.W.codeIn K cd11 "_law_which" = true) (k11 : PySem.W.keepIn K (.ref f11) = true)
    (a12 : PySem.W.nsIn K mainGlobals "_law_gone" = some (some (.ref f12))) (l12 : K.lookup f12 = some ⟨oc12, od12, .func (PySem.W.fnOf "_law_gone" "_law_gone" (defArgs s__law_gone) (defBody s__law_gone) (defScope s__law_gone) .none kV12 dc12 pm12 an12 cd12 ct12), sl12⟩) (c12 : PySem.W.codeIn K cd12 "_law_gone" = true) (k12 : PySem.W.keepIn K (.ref f12) = true)
    (a13 : PySem.W.nsIn K mainGlobals "_law_refused" = some (some (.ref f13))) (l13 : K.lookup f13 = some ⟨oc13, od13, .func (PySem.W.fnOf "_law_refused" "_law_refused" (defArgs s__law_refused) (defBody s__law_refused) (defScope s__law_refused) .none kV13 dc13 pm13 an13 cd13 ct13), sl13⟩) (c13 : PySem.W.codeIn K cd13 "_law_refused" = true) (k13 : PySem.W.keepIn K (.ref f13) = true)
    (a14 : PySem.W.nsIn K mainGlobals "_law_stands" = some (some (.ref f14))) (l14 : K.lookup f14 = some ⟨oc14, od14, .func (PySem.W.fnOf "_law_stands" "_law_stands" (defArgs s__law_stands) (defBody s__law_stands) (defScope s__law_stands) .none kV14 dc14 pm14 an14 cd14 ct14), sl14⟩) (c14 : PySem.W.codeIn K cd14 "_law_stands" = true) (k14 : PySem.W.keepIn K (.ref f14) = true)
    (a15 : PySem.W.nsIn K mainGlobals "law" = some (some (.ref f15))) (l15 : K.lookup f15 = some ⟨oc15, od15, .func (PySem.W.fnOf "law" "law" (defArgs s_law) (defBody s_law) (defScope s_law) .none kV15 dc15 pm15 an15 cd15 ct15), sl15⟩) (c15 : PySem.W.codeIn K cd15 "law" = true) (k15 : PySem.W.keepIn K (.ref f15) = true)
    (z_range : PySem.W.nsIn K mainGlobals "range" = some none)
    (z_max : PySem.W.nsIn K mainGlobals "max" = some none)
    (z_len : PySem.W.nsIn K mainGlobals "len" = some none)
    (z_isinstance : PySem.W.nsIn K mainGlobals "isinstance" = some none)
    (z_int : PySem.W.nsIn K mainGlobals "int" = some none)
    (z_bool : PySem.W.nsIn K mainGlobals "bool" = some none)
    (z_tuple : PySem.W.nsIn K mainGlobals "tuple" = some none)
    (z_list : PySem.W.nsIn K mainGlobals "list" = some none)
    (z_ValueError : PySem.W.nsIn K mainGlobals "ValueError" = some none)
    (v_MOST_THINGS : PySem.W.nsIn K mainGlobals "MOST_THINGS" = some (some (.int 12 tk_MOST_THINGS)))
    (v_MOST_FLOORS : PySem.W.nsIn K mainGlobals "MOST_FLOORS" = some (some (.int 1000 tk_MOST_FLOORS)))
    (q_int_int : PySem.W.kitOne K (.type "int") (.type "int") = some true)
    (q_int_bool : PySem.W.kitOne K (.type "int") (.type "bool") = some false)
    (q_tuple_tuple : PySem.W.kitOne K (.type "tuple") (.type "tuple") = some true)
    (y_Search : PySem.W.nsIn K mainGlobals "Search" = some (some (.ref c_Search)))
    (emk_Search : PySem.W.makesIn K c_Search = true)
    (ekp_Search : PySem.W.keepIn K (.ref c_Search) = true)
    (epg_Search : PySem.W.plainGet K c_Search Str.empty = true)
    (ehd_Search : PySem.W.hasDictIn K c_Search = true)
    (epo_Search : PySem.W.plainOver K c_Search = true)
    (esa_Search : PySem.W.findIn K (.ref c_Search) "__setattr__" = some (some (.builtin "object.__setattr__")))
    (zma0 : PySem.W.findIn K (.ref c_Search) "__init__" = some (some (.ref f_Search___init__))) (zmb0 : K.lookup f_Search___init__ = some ⟨moc_0, mod_0, .func (PySem.W.fnOf "__init__" "Search.__init__" (defArgs s_Search___init__) (defBody s_Search___init__) (defScope s_Search___init__) .none mkV_0 mdc_0 mpm_0 man_0 mcd_0 mct_0), msl_0⟩) (zmc0 : PySem.W.codeIn K mcd_0 "Search.__init__" = true) (zmd0 : PySem.W.keepIn K (.ref f_Search___init__) = true) (nme0 : PySem.W.isFn K (.ref f_Search___init__) = true)
    (zma1 : PySem.W.findIn K (.ref c_Search) "dropped" = some (some (.ref f_Search_dropped))) (zmb1 : K.lookup f_Search_dropped = some ⟨moc_1, mod_1, .func (PySem.W.fnOf "dropped" "Search.dropped" (defArgs s_Search_dropped) (defBody s_Search_dropped) (defScope s_Search_dropped) .none mkV_1 mdc_1 mpm_1 man_1 mcd_1 mct_1), msl_1⟩) (zmc1 : PySem.W.codeIn K mcd_1 "Search.dropped" = true) (zmd1 : PySem.W.keepIn K (.ref f_Search_dropped) = true) (nme1 : PySem.W.isFn K (.ref f_Search_dropped) = true)
    (zma2 : PySem.W.findIn K (.ref c_Search) "check_drop" = some (some (.ref f_Search_check_drop))) (zmb2 : K.lookup f_Search_check_drop = some ⟨moc_2, mod_2, .func (PySem.W.fnOf "check_drop" "Search.check_drop" (defArgs s_Search_check_drop) (defBody s_Search_check_drop) (defScope s_Search_check_drop) .none mkV_2 mdc_2 mpm_2 man_2 mcd_2 mct_2), msl_2⟩) (zmc2 : PySem.W.codeIn K mcd_2 "Search.check_drop" = true) (zmd2 : PySem.W.keepIn K (.ref f_Search_check_drop) = true) (nme2 : PySem.W.isFn K (.ref f_Search_check_drop) = true)
    (zma3 : PySem.W.findIn K (.ref c_Search) "span" = some (some (.ref f_Search_span))) (zmb3 : K.lookup f_Search_span = some ⟨moc_3, mod_3, .func (PySem.W.fnOf "span" "Search.span" (defArgs s_Search_span) (defBody s_Search_span) (defScope s_Search_span) .none mkV_3 mdc_3 mpm_3 man_3 mcd_3 mct_3), msl_3⟩) (zmc3 : PySem.W.codeIn K mcd_3 "Search.span" = true) (zmd3 : PySem.W.keepIn K (.ref f_Search_span) = true) (nme3 : PySem.W.isFn K (.ref f_Search_span) = true)
    (zma4 : PySem.W.findIn K (.ref c_Search) "left" = some (some (.ref f_Search_left))) (zmb4 : K.lookup f_Search_left = some ⟨moc_4, mod_4, .func (PySem.W.fnOf "left" "Search.left" (defArgs s_Search_left) (defBody s_Search_left) (defScope s_Search_left) .none mkV_4 mdc_4 mpm_4 man_4 mcd_4 mct_4), msl_4⟩) (zmc4 : PySem.W.codeIn K mcd_4 "Search.left" = true) (zmd4 : PySem.W.keepIn K (.ref f_Search_left) = true) (nme4 : PySem.W.isFn K (.ref f_Search_left) = true)
    (zma5 : PySem.W.findIn K (.ref c_Search) "drops" = some (some (.ref f_Search_drops))) (zmb5 : K.lookup f_Search_drops = some ⟨moc_5, mod_5, .func (PySem.W.fnOf "drops" "Search.drops" (defArgs s_Search_drops) (defBody s_Search_drops) (defScope s_Search_drops) .none mkV_5 mdc_5 mpm_5 man_5 mcd_5 mct_5), msl_5⟩) (zmc5 : PySem.W.codeIn K mcd_5 "Search.drops" = true) (zmd5 : PySem.W.keepIn K (.ref f_Search_drops) = true) (nme5 : PySem.W.isFn K (.ref f_Search_drops) = true)
    (zma6 : PySem.W.findIn K (.ref c_Search) "need" = some (some (.ref f_Search_need))) (zmb6 : K.lookup f_Search_need = some ⟨moc_6, mod_6, .func (PySem.W.fnOf "need" "Search.need" (defArgs s_Search_need) (defBody s_Search_need) (defScope s_Search_need) .none mkV_6 mdc_6 mpm_6 man_6 mcd_6 mct_6), msl_6⟩) (zmc6 : PySem.W.codeIn K mcd_6 "Search.need" = true) (zmd6 : PySem.W.keepIn K (.ref f_Search_need) = true) (nme6 : PySem.W.isFn K (.ref f_Search_need) = true)
    (zma7 : PySem.W.findIn K (.ref c_Search) "advice" = some (some (.ref f_Search_advice))) (zmb7 : K.lookup f_Search_advice = some ⟨moc_7, mod_7, .func (PySem.W.fnOf "advice" "Search.advice" (defArgs s_Search_advice) (defBody s_Search_advice) (defScope s_Search_advice) .none mkV_7 mdc_7 mpm_7 man_7 mcd_7 mct_7), msl_7⟩) (zmc7 : PySem.W.codeIn K mcd_7 "Search.advice" = true) (zmd7 : PySem.W.keepIn K (.ref f_Search_advice) = true) (nme7 : PySem.W.isFn K (.ref f_Search_advice) = true)
    (efl_least : PySem.W.findIn K (.ref c_Search) "least" = some none)
    (efl_greatest : PySem.W.findIn K (.ref c_Search) "greatest" = some none)
    (efl_things : PySem.W.findIn K (.ref c_Search) "things" = some none)
    (efl_record : PySem.W.findIn K (.ref c_Search) "record" = some none)
    (y_FloorError : PySem.W.nsIn K mainGlobals "FloorError" = some (some (.ref c_FloorError)))
    (y_NoCase : PySem.W.nsIn K mainGlobals "NoCase" = some (some (.ref c_NoCase)))
    (y_NoPlan : PySem.W.nsIn K mainGlobals "NoPlan" = some (some (.ref c_NoPlan)))
    (y_NoFloor : PySem.W.nsIn K mainGlobals "NoFloor" = some (some (.ref c_NoFloor)))
    (y_BadLine : PySem.W.nsIn K mainGlobals "BadLine" = some (some (.ref c_BadLine)))
    (eex_FloorError : PySem.W.excIn K c_FloorError [.type "ValueError", .type "Exception", .type "BaseException", .type "object"] "ValueError.__new__" = true)
    (esu_FloorError : PySem.W.mroIn K c_FloorError (.ref c_FloorError) = some true)
    (eex_NoCase : PySem.W.excIn K c_NoCase [.type "ValueError", .type "Exception", .type "BaseException", .type "object"] "ValueError.__new__" = true)
    (esu_NoCase : PySem.W.mroIn K c_NoCase (.ref c_FloorError) = some true)
    (ega_NoCase : PySem.W.findIn K (.ref c_NoCase) "__getattribute__" = some (some (.builtin "BaseException.__getattribute__")))
    (egt_NoCase : PySem.W.findIn K (.ref c_NoCase) "__getattr__" = some none)
    (eca_NoCase : PySem.W.findIn K (.ref c_NoCase) "__class__" = some (some (.builtin "object.__class__")))
    (emo_NoCase : PySem.W.mroIn K c_NoCase (.type "object") = some true)
    (emb_NoCase : PySem.W.mroIn K c_NoCase (.type "BaseException") = some true)
    (ecl_NoCase : (PySem.W.clsIn K c_NoCase).isSome = true)
    (ekv_NoCase : PySem.W.kitOne K (.ref c_NoCase) (.type "ValueError") = some true)
    (ek_NoCase_NoCase : PySem.W.kitOne K (.ref c_NoCase) (.ref c_NoCase) = some true)
    (ek_NoPlan_NoCase : PySem.W.kitOne K (.ref c_NoCase) (.ref c_NoPlan) = some false)
    (ek_NoFloor_NoCase : PySem.W.kitOne K (.ref c_NoCase) (.ref c_NoFloor) = some false)
    (ek_BadLine_NoCase : PySem.W.kitOne K (.ref c_NoCase) (.ref c_BadLine) = some false)
    (eex_NoPlan : PySem.W.excIn K c_NoPlan [.type "ValueError", .type "Exception", .type "BaseException", .type "object"] "ValueError.__new__" = true)
    (esu_NoPlan : PySem.W.mroIn K c_NoPlan (.ref c_FloorError) = some true)
    (ega_NoPlan : PySem.W.findIn K (.ref c_NoPlan) "__getattribute__" = some (some (.builtin "BaseException.__getattribute__")))
    (egt_NoPlan : PySem.W.findIn K (.ref c_NoPlan) "__getattr__" = some none)
    (eca_NoPlan : PySem.W.findIn K (.ref c_NoPlan) "__class__" = some (some (.builtin "object.__class__")))
    (emo_NoPlan : PySem.W.mroIn K c_NoPlan (.type "object") = some true)
    (emb_NoPlan : PySem.W.mroIn K c_NoPlan (.type "BaseException") = some true)
    (ecl_NoPlan : (PySem.W.clsIn K c_NoPlan).isSome = true)
    (ekv_NoPlan : PySem.W.kitOne K (.ref c_NoPlan) (.type "ValueError") = some true)
    (ek_NoCase_NoPlan : PySem.W.kitOne K (.ref c_NoPlan) (.ref c_NoCase) = some false)
    (ek_NoPlan_NoPlan : PySem.W.kitOne K (.ref c_NoPlan) (.ref c_NoPlan) = some true)
    (ek_NoFloor_NoPlan : PySem.W.kitOne K (.ref c_NoPlan) (.ref c_NoFloor) = some false)
    (ek_BadLine_NoPlan : PySem.W.kitOne K (.ref c_NoPlan) (.ref c_BadLine) = some false)
    (eex_NoFloor : PySem.W.excIn K c_NoFloor [.type "ValueError", .type "Exception", .type "BaseException", .type "object"] "ValueError.__new__" = true)
    (esu_NoFloor : PySem.W.mroIn K c_NoFloor (.ref c_FloorError) = some true)
    (ega_NoFloor : PySem.W.findIn K (.ref c_NoFloor) "__getattribute__" = some (some (.builtin "BaseException.__getattribute__")))
    (egt_NoFloor : PySem.W.findIn K (.ref c_NoFloor) "__getattr__" = some none)
    (eca_NoFloor : PySem.W.findIn K (.ref c_NoFloor) "__class__" = some (some (.builtin "object.__class__")))
    (emo_NoFloor : PySem.W.mroIn K c_NoFloor (.type "object") = some true)
    (emb_NoFloor : PySem.W.mroIn K c_NoFloor (.type "BaseException") = some true)
    (ecl_NoFloor : (PySem.W.clsIn K c_NoFloor).isSome = true)
    (ekv_NoFloor : PySem.W.kitOne K (.ref c_NoFloor) (.type "ValueError") = some true)
    (ek_NoCase_NoFloor : PySem.W.kitOne K (.ref c_NoFloor) (.ref c_NoCase) = some false)
    (ek_NoPlan_NoFloor : PySem.W.kitOne K (.ref c_NoFloor) (.ref c_NoPlan) = some false)
    (ek_NoFloor_NoFloor : PySem.W.kitOne K (.ref c_NoFloor) (.ref c_NoFloor) = some true)
    (ek_BadLine_NoFloor : PySem.W.kitOne K (.ref c_NoFloor) (.ref c_BadLine) = some false)
    (eex_BadLine : PySem.W.excIn K c_BadLine [.type "ValueError", .type "Exception", .type "BaseException", .type "object"] "ValueError.__new__" = true)
    (esu_BadLine : PySem.W.mroIn K c_BadLine (.ref c_FloorError) = some true)
    (ega_BadLine : PySem.W.findIn K (.ref c_BadLine) "__getattribute__" = some (some (.builtin "BaseException.__getattribute__")))
    (egt_BadLine : PySem.W.findIn K (.ref c_BadLine) "__getattr__" = some none)
    (eca_BadLine : PySem.W.findIn K (.ref c_BadLine) "__class__" = some (some (.builtin "object.__class__")))
    (emo_BadLine : PySem.W.mroIn K c_BadLine (.type "object") = some true)
    (emb_BadLine : PySem.W.mroIn K c_BadLine (.type "BaseException") = some true)
    (ecl_BadLine : (PySem.W.clsIn K c_BadLine).isSome = true)
    (ekv_BadLine : PySem.W.kitOne K (.ref c_BadLine) (.type "ValueError") = some true)
    (ek_NoCase_BadLine : PySem.W.kitOne K (.ref c_BadLine) (.ref c_NoCase) = some false)
    (ek_NoPlan_BadLine : PySem.W.kitOne K (.ref c_BadLine) (.ref c_NoPlan) = some false)
    (ek_NoFloor_BadLine : PySem.W.kitOne K (.ref c_BadLine) (.ref c_NoFloor) = some false)
    (ek_BadLine_BadLine : PySem.W.kitOne K (.ref c_BadLine) (.ref c_BadLine) = some true)
    (xcg : PySem.W.specialIn K (.builtin "object.__class__") "__get__" = some (some (.builtin "getset_descriptor.__get__")))
    (xct : PySem.W.takesIn K (.builtin "object.__class__") = some true)
    : ∃ fd : FuncData, (∀ (s : Shared) (v : Value), BindsTo s fd ⟨[v], []⟩ [("script", v)]) ∧ ∀ base : Heap, K.In base → base.Ns mainGlobals mg → FnOk l.prog w K mg base CX0 9 fa fd ["script"] (spLaw K) := by
  have e := hfa.symm.trans (PySem.W.mg_of X G a15)
  cases e
  have F_check_things := fun_mk (st := s_check_things) l1 c1 k1
  have D_check_things : DefAt K mg "check_things" s_check_things ["things"] := ⟨_, _, F_check_things, PySem.W.mg_of X G a1, F_check_things.binds (ps := ["things"]) fun _ _ _ _ _ _ us hl => match us, hl with | [_], _ => rfl⟩
  have F_check_case := fun_mk (st := s_check_case) l2 c2 k2
  have D_check_case : DefAt K mg "check_case" s_check_case ["floors", "things"] := ⟨_, _, F_check_case, PySem.W.mg_of X G a2, F_check_case.binds (ps := ["floors", "things"]) fun _ _ _ _ _ _ us hl => match us, hl with | [_, _], _ => rfl⟩
  have F_check_house := fun_mk (st := s_check_house) l3 c3 k3
  have D_check_house : DefAt K mg "check_house" s_check_house ["floors", "things", "most"] := ⟨_, _, F_check_house, PySem.W.mg_of X G a3, F_check_house.binds (ps := ["floors", "things", "most"]) fun _ _ _ _ _ _ us hl => match us, hl with | [_, _, _], _ => rfl⟩
  have F_fewest := fun_mk (st := s_fewest) l4 c4 k4
  have D_fewest : DefAt K mg "fewest" s_fewest ["floors", "things"] := ⟨_, _, F_fewest, PySem.W.mg_of X G a4, F_fewest.binds (ps := ["floors", "things"]) fun _ _ _ _ _ _ us hl => match us, hl with | [_, _], _ => rfl⟩
  have F_choices := fun_mk (st := s_choices) l5 c5 k5
  have D_choices : DefAt K mg "choices" s_choices ["floors", "things"] := ⟨_, _, F_choices, PySem.W.mg_of X G a5, F_choices.binds (ps := ["floors", "things"]) fun _ _ _ _ _ _ us hl => match us, hl with | [_, _], _ => rfl⟩
  have F_floors_reached := fun_mk (st := s_floors_reached) l6 c6 k6
  have D_floors_reached : DefAt K mg "floors_reached" s_floors_reached ["things", "drops"] := ⟨_, _, F_floors_reached, PySem.W.mg_of X G a6, F_floors_reached.binds (ps := ["things", "drops"]) fun _ _ _ _ _ _ us hl => match us, hl with | [_, _], _ => rfl⟩
  have F_fewest_drops := fun_mk (st := s_fewest_drops) l7 c7 k7
  have D_fewest_drops : DefAt K mg "fewest_drops" s_fewest_drops ["floors", "things"] := ⟨_, _, F_fewest_drops, PySem.W.mg_of X G a7, F_fewest_drops.binds (ps := ["floors", "things"]) fun _ _ _ _ _ _ us hl => match us, hl with | [_, _], _ => rfl⟩
  have F__law_cell_at := fun_mk (st := s__law_cell_at) l8 c8 k8
  have D__law_cell_at : DefAt K mg "_law_cell_at" s__law_cell_at ["script", "k"] := ⟨_, _, F__law_cell_at, PySem.W.mg_of X G a8, F__law_cell_at.binds (ps := ["script", "k"]) fun _ _ _ _ _ _ us hl => match us, hl with | [_, _], _ => rfl⟩
  have F__law_whole := fun_mk (st := s__law_whole) l9 c9 k9
  have D__law_whole : DefAt K mg "_law_whole" s__law_whole ["found"] := ⟨_, _, F__law_whole, PySem.W.mg_of X G a9, F__law_whole.binds (ps := ["found"]) fun _ _ _ _ _ _ us hl => match us, hl with | [_], _ => rfl⟩
  have F__law_pair := fun_mk (st := s__law_pair) l10 c10 k10
  have D__law_pair : DefAt K mg "_law_pair" s__law_pair ["found"] := ⟨_, _, F__law_pair, PySem.W.mg_of X G a10, F__law_pair.binds (ps := ["found"]) fun _ _ _ _ _ _ us hl => match us, hl with | [_], _ => rfl⟩
  have F__law_which := fun_mk (st := s__law_which) l11 c11 k11
  have D__law_which : DefAt K mg "_law_which" s__law_which ["e"] := ⟨_, _, F__law_which, PySem.W.mg_of X G a11, F__law_which.binds (ps := ["e"]) fun _ _ _ _ _ _ us hl => match us, hl with | [_], _ => rfl⟩
  have F__law_gone := fun_mk (st := s__law_gone) l12 c12 k12
  have D__law_gone : DefAt K mg "_law_gone" s__law_gone ["cell", "low", "high", "left"] := ⟨_, _, F__law_gone, PySem.W.mg_of X G a12, F__law_gone.binds (ps := ["cell", "low", "high", "left"]) fun _ _ _ _ _ _ us hl => match us, hl with | [_, _, _, _], _ => rfl⟩
  have F__law_refused := fun_mk (st := s__law_refused) l13 c13 k13
  have D__law_refused : DefAt K mg "_law_refused" s__law_refused ["search", "way", "floor", "broken"] := ⟨_, _, F__law_refused, PySem.W.mg_of X G a13, F__law_refused.binds (ps := ["search", "way", "floor", "broken"]) fun _ _ _ _ _ _ us hl => match us, hl with | [_, _, _, _], _ => rfl⟩
  have F__law_stands := fun_mk (st := s__law_stands) l14 c14 k14
  have D__law_stands : DefAt K mg "_law_stands" s__law_stands ["search", "low", "high", "things", "done"] := ⟨_, _, F__law_stands, PySem.W.mg_of X G a14, F__law_stands.binds (ps := ["search", "low", "high", "things", "done"]) fun _ _ _ _ _ _ us hl => match us, hl with | [_, _, _, _, _], _ => rfl⟩
  have F_law := fun_mk (st := s_law) l15 c15 k15
  have M_range := PySem.W.mg_none_of X G z_range
  have M_max := PySem.W.mg_none_of X G z_max
  have M_len := PySem.W.mg_none_of X G z_len
  have M_isinstance := PySem.W.mg_none_of X G z_isinstance
  have M_int := PySem.W.mg_none_of X G z_int
  have M_bool := PySem.W.mg_none_of X G z_bool
  have M_tuple := PySem.W.mg_none_of X G z_tuple
  have M_list := PySem.W.mg_none_of X G z_list
  have M_ValueError := PySem.W.mg_none_of X G z_ValueError
  have M_MOST_THINGS := PySem.W.mg_of X G v_MOST_THINGS
  have M_MOST_FLOORS := PySem.W.mg_of X G v_MOST_FLOORS
  have M_Search := PySem.W.mg_of X G y_Search
  have C_Search : Cls K c_Search := ⟨epg_Search, ehd_Search, epo_Search, esa_Search⟩
  have F_Search___init__ := fun_mk (st := s_Search___init__) zmb0 zmc0 zmd0
  have b_Search___init__ := F_Search___init__.binds (ps := ["self", "floors", "things"]) fun _ _ _ _ _ _ us hl => match us, hl with | [_, _, _], _ => rfl
  have H_Search___init__ : Meth K c_Search "__init__" f_Search___init__ := ⟨zma0, nme0, zmd0⟩
  have K_Search : Mk K c_Search f_Search___init__ := ⟨emk_Search, zma0, nme0, ekp_Search⟩
  have F_Search_dropped := fun_mk (st := s_Search_dropped) zmb1 zmc1 zmd1
  have b_Search_dropped := F_Search_dropped.binds (ps := ["self", "floor", "broken"]) fun _ _ _ _ _ _ us hl => match us, hl with | [_, _, _], _ => rfl
  have H_Search_dropped : Meth K c_Search "dropped" f_Search_dropped := ⟨zma1, nme1, zmd1⟩
  have F_Search_check_drop := fun_mk (st := s_Search_check_drop) zmb2 zmc2 zmd2
  have b_Search_check_drop := F_Search_check_drop.binds (ps := ["self", "floor"]) fun _ _ _ _ _ _ us hl => match us, hl with | [_, _], _ => rfl
  have H_Search_check_drop : Meth K c_Search "check_drop" f_Search_check_drop := ⟨zma2, nme2, zmd2⟩
  have F_Search_span := fun_mk (st := s_Search_span) zmb3 zmc3 zmd3
  have b_Search_span := F_Search_span.binds (ps := ["self"]) fun _ _ _ _ _ _ us hl => match us, hl with | [_], _ => rfl
  have H_Search_span : Meth K c_Search "span" f_Search_span := ⟨zma3, nme3, zmd3⟩
  have F_Search_left := fun_mk (st := s_Search_left) zmb4 zmc4 zmd4
  have b_Search_left := F_Search_left.binds (ps := ["self"]) fun _ _ _ _ _ _ us hl => match us, hl with | [_], _ => rfl
  have H_Search_left : Meth K c_Search "left" f_Search_left := ⟨zma4, nme4, zmd4⟩
  have F_Search_drops := fun_mk (st := s_Search_drops) zmb5 zmc5 zmd5
  have b_Search_drops := F_Search_drops.binds (ps := ["self"]) fun _ _ _ _ _ _ us hl => match us, hl with | [_], _ => rfl
  have H_Search_drops : Meth K c_Search "drops" f_Search_drops := ⟨zma5, nme5, zmd5⟩
  have F_Search_need := fun_mk (st := s_Search_need) zmb6 zmc6 zmd6
  have b_Search_need := F_Search_need.binds (ps := ["self"]) fun _ _ _ _ _ _ us hl => match us, hl with | [_], _ => rfl
  have H_Search_need : Meth K c_Search "need" f_Search_need := ⟨zma6, nme6, zmd6⟩
  have F_Search_advice := fun_mk (st := s_Search_advice) zmb7 zmc7 zmd7
  have b_Search_advice := F_Search_advice.binds (ps := ["self"]) fun _ _ _ _ _ _ us hl => match us, hl with | [_], _ => rfl
  have H_Search_advice : Meth K c_Search "advice" f_Search_advice := ⟨zma7, nme7, zmd7⟩
  have M_FloorError := PySem.W.mg_of X G y_FloorError
  have K_FloorError : XKind K c_FloorError c_FloorError := ⟨eex_FloorError, esu_FloorError⟩
  have M_NoCase := PySem.W.mg_of X G y_NoCase
  have K_NoCase : XKind K c_FloorError c_NoCase := ⟨eex_NoCase, esu_NoCase⟩
  have X_NoCase : XCls K c_NoCase := ⟨ega_NoCase, egt_NoCase, eca_NoCase, xcg, xct, emo_NoCase, emb_NoCase, ecl_NoCase⟩
  have M_NoPlan := PySem.W.mg_of X G y_NoPlan
  have K_NoPlan : XKind K c_FloorError c_NoPlan := ⟨eex_NoPlan, esu_NoPlan⟩
  have X_NoPlan : XCls K c_NoPlan := ⟨ega_NoPlan, egt_NoPlan, eca_NoPlan, xcg, xct, emo_NoPlan, emb_NoPlan, ecl_NoPlan⟩
  have M_NoFloor := PySem.W.mg_of X G y_NoFloor
  have K_NoFloor : XKind K c_FloorError c_NoFloor := ⟨eex_NoFloor, esu_NoFloor⟩
  have X_NoFloor : XCls K c_NoFloor := ⟨ega_NoFloor, egt_NoFloor, eca_NoFloor, xcg, xct, emo_NoFloor, emb_NoFloor, ecl_NoFloor⟩
  have M_BadLine := PySem.W.mg_of X G y_BadLine
  have K_BadLine : XKind K c_FloorError c_BadLine := ⟨eex_BadLine, esu_BadLine⟩
  have X_BadLine : XCls K c_BadLine := ⟨ega_BadLine, egt_BadLine, eca_BadLine, xcg, xct, emo_BadLine, emb_BadLine, ecl_BadLine⟩
  refine ⟨PySem.W.fnOf "law" "law" (defArgs s_law) (defBody s_law) (defScope s_law) .none kV15 dc15 pm15 an15 cd15 ct15, fun s v => .of_eq rfl, fun base _ _ => ?_⟩
  have T : STxt K c_Search := ⟨C_Search, efl_least, efl_greatest, efl_things, efl_record⟩
  have O1 := ok_floors_reached (P := l.prog) (w := w) (base := base) D_floors_reached M_range
  have O3 := okx_things (P := l.prog) (w := w) (base := base) D_check_things M_MOST_THINGS M_NoCase eex_NoCase
  have O6 := ok_cell (P := l.prog) (w := w) (base := base) D__law_cell_at M_len
  have O7 := ok_whole (P := l.prog) (w := w) (base := base) D__law_whole M_isinstance M_int M_bool q_int_int q_int_bool
  have O8 := okx_house D_check_house M_NoCase eex_NoCase O3
  have O9 := okx_case D_check_case M_MOST_FLOORS O8
  have O10 := ok_fewest_drops D_fewest_drops O1
  have O11 := okx_fewest2 D_fewest O9 O10
  have O12 := okx_choices2 D_choices O9 O10 O1
  have O13 := ok_pair D__law_pair M_isinstance M_len M_tuple O7 q_tuple_tuple
  have S0 := ok_init T F_Search___init__ O9
  have S1 := ok_ck (P := l.prog) (w := w) (base := base) T F_Search_check_drop M_NoFloor eex_NoFloor
  have S2 := ok_drp T F_Search_dropped M_len H_Search_check_drop S1 b_Search_check_drop
  have S3 := ok_span (P := l.prog) (w := w) (mg := mg) (base := base) T F_Search_span
  have S4 := ok_left (P := l.prog) (w := w) (mg := mg) (base := base) T F_Search_left
  have S5 := ok_drops (P := l.prog) (w := w) (base := base) T F_Search_drops M_list
  have S6 := ok_need T F_Search_need O11
  have S7 := ok_adv T F_Search_advice O12
  have O21 := ok_which (P := l.prog) (w := w) (base := base) D__law_which M_isinstance M_ValueError M_NoCase M_NoPlan M_NoFloor M_BadLine
  have O22 := ok_gone (P := l.prog) (w := w) (base := base) D__law_gone
  have O23 := ok_refused D__law_refused T M_FloorError K_FloorError K_NoCase X_NoCase K_NoFloor X_NoFloor ek_NoCase_NoCase ek_NoPlan_NoCase ek_NoFloor_NoCase ek_BadLine_NoCase ekv_NoCase ek_NoCase_NoFloor ek_NoPlan_NoFloor ek_NoFloor_NoFloor ek_BadLine_NoFloor ekv_NoFloor H_Search_dropped S2 b_Search_dropped H_Search_need S6 b_Search_need H_Search_advice S7 b_Search_advice O21
  have O24 := ok_stands D__law_stands T O13 O7 O23 H_Search_span S3 b_Search_span H_Search_left S4 b_Search_left H_Search_drops S5 b_Search_drops H_Search_need S6 b_Search_need H_Search_advice S7 b_Search_advice O11 O12
  exact ok_law F_law T M_range M_max M_len M_int M_Search K_Search b_Search___init__ S0 O6 O7 O22 O23 O24 O11 H_Search_dropped S2 b_Search_dropped H_Search_advice S7 b_Search_advice
theorem walk {l : PySem.W.OpenLaw} {q : Program} {loose : List Str} {XP : (Str → Option Value) → Heap → Prop} {YP : World → Heap → Prop} {d : DefRec} {K : Params → PySem.W.Frag} (hn : l.most = some 63) (hdf : d.params.defaults = [])
    (hY : ∀ (w : World) (h : Heap), YP w h → (K w.params).In h)
    (F : ∀ (w : World) (mg : Str → Option Value) (fa : Addr) (h : Heap), (K w.params).In h → h.Ns mainGlobals mg → mg d.name = some (.ref fa) →
      ∃ fd : FuncData, (∀ (s : Shared) (u : Value), BindsTo s fd ⟨[u], []⟩ [("script", u)]) ∧ ∀ base : Heap, (K w.params).In base → base.Ns mainGlobals mg → FnOk l.prog w (K w.params) mg base CX0 9 fa fd ["script"] (spLaw (K w.params))) :
    PySem.W.WalkO q loose XP YP l.row.toRowW d [] (fun f vs => PySem.call f vs) :=
  L2.walk_of (n := 63) (k := 9) (x := "script") (CX := fun _ => CX0) (sp := fun w => spLaw (K w.params)) hn (by decide) hdf ⟨rfl, by decide, by decide⟩ hY F (fun _ _ a ns hl _ hS => ⟨a, ns, rfl, hS, hl, fun _ => rfl⟩) fun _ _ _ _ _ z => z
end Egg
open PySem PySem.W PyProof.Rows
set_option maxRecDepth 100000 in
set_option maxHeartbeats 0 in
theorem PySem.Challenge.cw_eggfloors_k10_whole_search_holds : PySem.Challenge.rw_eggfloors_k10_whole_search.Holds := by
  w_on; o_law; k_head; (case hw => w_witness2)
  k_fill
  refine Egg.walk (l := PySem.Challenge.rw_eggfloors_k10_whole_search) rfl rfl (fun w h Y => PySem.W.kIn_of Y) ?F
  case F =>
    intro w mg fa h KX G hmg
    refine' Egg.all_mk KX G hmg ?a1 ?l1 ?c1 ?k1 ?a2 ?l2 ?c2 ?k2 ?a3 ?l3 ?c3 ?k3 ?a4 ?l4 ?c4 ?k4 ?a5 ?l5 ?c5 ?k5 ?a6 ?l6 ?c6 ?k6 ?a7 ?l7 ?c7 ?k7 ?a8 ?l8 ?c8 ?k8 ?a9 ?l9 ?c9 ?k9 ?a10 ?l10 ?c10 ?k10 ?a11 ?l11 ?c11 ?k11 ?a12 ?l12 ?c12 ?k12 ?a13 ?l13 ?c13 ?k13 ?a14 ?l14 ?c14 ?k14 ?a15 ?l15 ?c15 ?k15 ?z_range ?z_max ?z_len ?z_isinstance ?z_int ?z_bool ?z_tuple ?z_list ?z_ValueError ?v_MOST_THINGS ?v_MOST_FLOORS ?q_int_int ?q_int_bool ?q_tuple_tuple ?y_Search ?emk_Search ?ekp_Search ?epg_Search ?ehd_Search ?epo_Search ?esa_Search ?zma0 ?zmb0 ?zmc0 ?zmd0 ?nme0 ?zma1 ?zmb1 ?zmc1 ?zmd1 ?nme1 ?zma2 ?zmb2 ?zmc2 ?zmd2 ?nme2 ?zma3 ?zmb3 ?zmc3 ?zmd3 ?nme3 ?zma4 ?zmb4 ?zmc4 ?zmd4 ?nme4 ?zma5 ?zmb5 ?zmc5 ?zmd5 ?nme5 ?zma6 ?zmb6 ?zmc6 ?zmd6 ?nme6 ?zma7 ?zmb7 ?zmc7 ?zmd7 ?nme7 ?efl_least ?efl_greatest ?efl_things ?efl_record ?y_FloorError ?y_NoCase ?y_NoPlan ?y_NoFloor ?y_BadLine ?eex_FloorError ?esu_FloorError ?eex_NoCase ?esu_NoCase ?ega_NoCase ?egt_NoCase ?eca_NoCase ?emo_NoCase ?emb_NoCase ?ecl_NoCase ?ekv_NoCase ?ek_NoCase_NoCase ?ek_NoPlan_NoCase ?ek_NoFloor_NoCase ?ek_BadLine_NoCase ?eex_NoPlan ?esu_NoPlan ?ega_NoPlan ?egt_NoPlan ?eca_NoPlan ?emo_NoPlan ?emb_NoPlan ?ecl_NoPlan ?ekv_NoPlan ?ek_NoCase_NoPlan ?ek_NoPlan_NoPlan ?ek_NoFloor_NoPlan ?ek_BadLine_NoPlan ?eex_NoFloor ?esu_NoFloor ?ega_NoFloor ?egt_NoFloor ?eca_NoFloor ?emo_NoFloor ?emb_NoFloor ?ecl_NoFloor ?ekv_NoFloor ?ek_NoCase_NoFloor ?ek_NoPlan_NoFloor ?ek_NoFloor_NoFloor ?ek_BadLine_NoFloor ?eex_BadLine ?esu_BadLine ?ega_BadLine ?egt_BadLine ?eca_BadLine ?emo_BadLine ?emb_BadLine ?ecl_BadLine ?ekv_BadLine ?ek_NoCase_BadLine ?ek_NoPlan_BadLine ?ek_NoFloor_BadLine ?ek_BadLine_BadLine ?xcg ?xct
    (case a1 => k_is)
    (case l1 => k_is)
    (case c1 => k_is)
    (case k1 => k_is)
    (case a2 => k_is)
    (case l2 => k_is)
    (case c2 => k_is)
    (case k2 => k_is)
    (case a3 => k_is)
    (case l3 => k_is)
    (case c3 => k_is)
    (case k3 => k_is)
    (case a4 => k_is)
    (case l4 => k_is)
    (case c4 => k_is)
    (case k4 => k_is)
    (case a5 => k_is)
    (case l5 => k_is)
    (case c5 => k_is)
    (case k5 => k_is)
    (case a6 => k_is)
    (case l6 => k_is)
    (case c6 => k_is)
    (case k6 => k_is)
    (case a7 => k_is)
    (case l7 => k_is)
    (case c7 => k_is)
    (case k7 => k_is)
    (case a8 => k_is)
    (case l8 => k_is)
    (case c8 => k_is)
    (case k8 => k_is)
    (case a9 => k_is)
    (case l9 => k_is)
    (case c9 => k_is)
    (case k9 => k_is)
    (case a10 => k_is)
    (case l10 => k_is)
    (case c10 => k_is)
    (case k10 => k_is)
    (case a11 => k_is)
    (case l11 => k_is)
    (case c11 => k_is)
    (case k11 => k_is)
    (case a12 => k_is)
    (case l12 => k_is)
    (case c12 => k_is)
    (case k12 => k_is)
    (case a13 => k_is)
    (case l13 => k_is)
    (case c13 => k_is)
    (case k13 => k_is)
    (case a14 => k_is)
    (case l14 => k_is)
    (case c14 => k_is)
    (case k14 => k_is)
    (case a15 => k_is)
    (case l15 => k_is)
    (case c15 => k_is)
    (case k15 => k_is)
    (case z_range => k_is)
    (case z_max => k_is)
    (case z_len => k_is)
    (case z_isinstance => k_is)
    (case z_int => k_is)
    (case z_bool => k_is)
    (case z_tuple => k_is)
    (case z_list => k_is)
    (case z_ValueError => k_is)
    (case v_MOST_THINGS => k_is)
    (case v_MOST_FLOORS => k_is)
    (case q_int_int => first | k_is | rfl | decide)
    (case q_int_bool => first | k_is | rfl | decide)
    (case q_tuple_tuple => first | k_is | rfl | decide)
    (case y_Search => k_is)
    (case emk_Search => first | k_is | rfl | decide)
    (case ekp_Search => first | k_is | rfl | decide)
    (case epg_Search => first | k_is | rfl | decide)
    (case ehd_Search => first | k_is | rfl | decide)
    (case epo_Search => first | k_is | rfl | decide)
    (case esa_Search => first | k_is | rfl | decide)
    (case zma0 => k_is)
    (case zmb0 => k_is)
    (case zmc0 => k_is)
    (case zmd0 => k_is)
    (case nme0 => first | k_is | rfl | decide)
    (case zma1 => k_is)
    (case zmb1 => k_is)
    (case zmc1 => k_is)
    (case zmd1 => k_is)
    (case nme1 => first | k_is | rfl | decide)
    (case zma2 => k_is)
    (case zmb2 => k_is)
    (case zmc2 => k_is)
    (case zmd2 => k_is)
    (case nme2 => first | k_is | rfl | decide)
    (case zma3 => k_is)
    (case zmb3 => k_is)
    (case zmc3 => k_is)
    (case zmd3 => k_is)
    (case nme3 => first | k_is | rfl | decide)
    (case zma4 => k_is)
    (case zmb4 => k_is)
    (case zmc4 => k_is)
    (case zmd4 => k_is)
    (case nme4 => first | k_is | rfl | decide)
    (case zma5 => k_is)
    (case zmb5 => k_is)
    (case zmc5 => k_is)
    (case zmd5 => k_is)
    (case nme5 => first | k_is | rfl | decide)
    (case zma6 => k_is)
    (case zmb6 => k_is)
    (case zmc6 => k_is)
    (case zmd6 => k_is)
    (case nme6 => first | k_is | rfl | decide)
    (case zma7 => k_is)
    (case zmb7 => k_is)
    (case zmc7 => k_is)
    (case zmd7 => k_is)
    (case nme7 => first | k_is | rfl | decide)
    (case efl_least => first | k_is | rfl | decide)
    (case efl_greatest => first | k_is | rfl | decide)
    (case efl_things => first | k_is | rfl | decide)
    (case efl_record => first | k_is | rfl | decide)
    (case y_FloorError => k_is)
    (case y_NoCase => k_is)
    (case y_NoPlan => k_is)
    (case y_NoFloor => k_is)
    (case y_BadLine => k_is)
    (case eex_FloorError => k_exc)
    (case esu_FloorError => first | k_is | rfl | decide)
    (case eex_NoCase => k_exc)
    (case esu_NoCase => first | k_is | rfl | decide)
    (case ega_NoCase => first | k_is | rfl | decide)
    (case egt_NoCase => first | k_is | rfl | decide)
    (case eca_NoCase => first | k_is | rfl | decide)
    (case emo_NoCase => first | k_is | rfl | decide)
    (case emb_NoCase => first | k_is | rfl | decide)
    (case ecl_NoCase => first | k_is | rfl | decide)
    (case ekv_NoCase => first | k_is | rfl | decide)
    (case ek_NoCase_NoCase => first | k_is | rfl | decide)
    (case ek_NoPlan_NoCase => first | k_is | rfl | decide)
    (case ek_NoFloor_NoCase => first | k_is | rfl | decide)
    (case ek_BadLine_NoCase => first | k_is | rfl | decide)
    (case eex_NoPlan => k_exc)
    (case esu_NoPlan => first | k_is | rfl | decide)
    (case ega_NoPlan => first | k_is | rfl | decide)
    (case egt_NoPlan => first | k_is | rfl | decide)
    (case eca_NoPlan => first | k_is | rfl | decide)
    (case emo_NoPlan => first | k_is | rfl | decide)
    (case emb_NoPlan => first | k_is | rfl | decide)
    (case ecl_NoPlan => first | k_is | rfl | decide)
    (case ekv_NoPlan => first | k_is | rfl | decide)
    (case ek_NoCase_NoPlan => first | k_is | rfl | decide)
    (case ek_NoPlan_NoPlan => first | k_is | rfl | decide)
    (case ek_NoFloor_NoPlan => first | k_is | rfl | decide)
    (case ek_BadLine_NoPlan => first | k_is | rfl | decide)
    (case eex_NoFloor => k_exc)
    (case esu_NoFloor => first | k_is | rfl | decide)
    (case ega_NoFloor => first | k_is | rfl | decide)
    (case egt_NoFloor => first | k_is | rfl | decide)
    (case eca_NoFloor => first | k_is | rfl | decide)
    (case emo_NoFloor => first | k_is | rfl | decide)
    (case emb_NoFloor => first | k_is | rfl | decide)
    (case ecl_NoFloor => first | k_is | rfl | decide)
    (case ekv_NoFloor => first | k_is | rfl | decide)
    (case ek_NoCase_NoFloor => first | k_is | rfl | decide)
    (case ek_NoPlan_NoFloor => first | k_is | rfl | decide)
    (case ek_NoFloor_NoFloor => first | k_is | rfl | decide)
    (case ek_BadLine_NoFloor => first | k_is | rfl | decide)
    (case eex_BadLine => k_exc)
    (case esu_BadLine => first | k_is | rfl | decide)
    (case ega_BadLine => first | k_is | rfl | decide)
    (case egt_BadLine => first | k_is | rfl | decide)
    (case eca_BadLine => first | k_is | rfl | decide)
    (case emo_BadLine => first | k_is | rfl | decide)
    (case emb_BadLine => first | k_is | rfl | decide)
    (case ecl_BadLine => first | k_is | rfl | decide)
    (case ekv_BadLine => first | k_is | rfl | decide)
    (case ek_NoCase_BadLine => first | k_is | rfl | decide)
    (case ek_NoPlan_BadLine => first | k_is | rfl | decide)
    (case ek_NoFloor_BadLine => first | k_is | rfl | decide)
    (case ek_BadLine_BadLine => first | k_is | rfl | decide)
    (case xcg => first | k_is | rfl | decide)
    (case xct => first | k_is | rfl | decide)
