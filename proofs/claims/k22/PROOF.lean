import PyProof.Rows.All
import Wide.All
import KE.KDictOf
import KE.KFromBytes
import KE.KIntText
import KE.KItemsList
import KE.KRevIter
import KE.KSortTup
import KE.KTryMore
import KE.LcSums
import Wide.FinOn
import Lean
import PyProof.EqAt
import PyProof.EqKinds
import PyProof.TupleCall
import PySem.Challenge.RW_tieseek_k22_one_step_fits
set_option Elab.async false
set_option linter.all false
set_option maxRecDepth 100000
set_option Elab.async false
set_option linter.all false
set_option maxRecDepth 100000
/-! THE HAND LAYER, for ints, bools, texts, own classes, LISTS and tuples (index, slices, in, append, pop ..), calls, loops. Paste it whole ahead of your own text; what your proof does not reach may be deleted. -/
namespace L2
open PySem PySem.Spec PyProof.Rows

/-- a key: an int or a str -/
abbrev Key := Sum Int Str
def keyIs : Key → Value → Bool
  | .inl k, v => Value.isInt k v
  | .inr x, v => Value.isStrOf x v
def keyH (w : World) : Key → Int
  | .inl k => hashInt k
  | .inr x => hashStr w x
theorem keyIs_shape : ∀ {k : Key} {v : Value}, keyIs k v = true → (∃ i t, k = Sum.inl i ∧ v = Value.int i t) ∨ (∃ x t, k = Sum.inr x ∧ v = Value.str x t)
  | .inl i, v, h => by
    obtain ⟨t, e⟩ := Value.isInt_shape (k := i) (v := v) h
    exact .inl ⟨i, t, rfl, e⟩
  | .inr x, v, h => by
    obtain ⟨t, e⟩ := Value.isStrOf_shape (x := x) (v := v) h
    exact .inr ⟨x, t, rfl, e⟩
theorem key_ll (a b : Int) : decide ((Sum.inl a : Key) = Sum.inl b) = (a == b) := by
  by_cases e : a = b
  · subst e; simp
  · have h : ¬ (Sum.inl a : Key) = Sum.inl b := fun q => e (Sum.inl.inj q)
    rw [decide_eq_false h]
    exact (beq_eq_false_iff_ne.mpr e).symm
theorem key_rr (a b : Str) : decide ((Sum.inr a : Key) = Sum.inr b) = decide (a = b) := by
  by_cases e : a = b
  · subst e; simp
  · have h : ¬ (Sum.inr a : Key) = Sum.inr b := fun q => e (Sum.inr.inj q)
    rw [decide_eq_false h, decide_eq_false e]
theorem key_lr (a : Int) (b : Str) : decide ((Sum.inl a : Key) = Sum.inr b) = false := decide_eq_false (fun q => nomatch q)
theorem key_rl (a : Str) (b : Int) : decide ((Sum.inr a : Key) = Sum.inl b) = false := decide_eq_false (fun q => nomatch q)

def mixKind (prog : Program) (w : World) : PySem.KeyKind prog w Key where
  is := keyIs
  hash := keyH w
  inj := fun v a b ha hb => by
    rcases keyIs_shape ha with ⟨i, t, rfl, rfl⟩ | ⟨x, t, rfl, rfl⟩
    · rcases keyIs_shape hb with ⟨j, u, rfl, e⟩ | ⟨y, u, rfl, e⟩
      · injection e with e1 _; rw [e1]
      · exact nomatch e
    · rcases keyIs_shape hb with ⟨j, u, rfl, e⟩ | ⟨y, u, rfl, e⟩
      · exact nomatch e
      · injection e with e1 _; rw [e1]
  byValue := fun k v h => by
    rcases keyIs_shape h with ⟨i, t, rfl, rfl⟩ | ⟨x, t, rfl, rfl⟩ <;> rfl
  pyHash := fun hv h => by
    rcases keyIs_shape hv with ⟨i, t, rfl, rfl⟩ | ⟨x, t, rfl, rfl⟩
    · exact wpAny_pyHash_int h
    · exact wpAny_pyHash_str h
  eqBool := fun hu hv h => by
    rcases keyIs_shape hu with ⟨i, t, rfl, rfl⟩ | ⟨x, t, rfl, rfl⟩
    · rcases keyIs_shape hv with ⟨j, u, rfl, rfl⟩ | ⟨y, u, rfl, rfl⟩
      · rw [key_ll] at h; exact wpAny_eqBool_int h
      · rw [key_lr] at h; exact SeqAt.EqAt.int_str i t y u _ _ _ _ h
    · rcases keyIs_shape hv with ⟨j, u, rfl, rfl⟩ | ⟨y, u, rfl, rfl⟩
      · rw [key_rl] at h; exact SeqAt.EqAt.str_int x t j u _ _ _ _ h
      · rw [key_rr] at h; exact wpAny_eqBool_str h
  «strs» := fun k x t v h => by
    rcases keyIs_shape h with ⟨i, u, rfl, e⟩ | ⟨y, u, rfl, e⟩
    · exact nomatch e
    · injection e with e1 _
      subst e1
      cases v <;> rfl

end L2

namespace L2
open PySem PySem.Spec PyProof.Rows

/-- a value, without the heap -/
inductive V where
  | non | bl (b : Bool) | int (i : Int) | str (x : Str) | byt (b : Array UInt8) | flt (b : UInt64) | ref (a : Addr) | ty (n : String)
  deriving DecidableEq

def RelV : V → Value → Prop
  | .non, u => u = Value.none
  | .bl b, u => u = Value.bool b
  | .int i, u => ∃ t, u = Value.int i t
  | .str x, u => ∃ t, u = Value.str x t
  | .byt b, u => ∃ t, u = Value.bytes b t
  | .flt b, u => ∃ t, u = Value.float b t
  | .ref a, u => u = Value.ref a
  | .ty n, u => u = Value.type n

abbrev Vals : List V → List Value → Prop := Paired RelV
theorem Vals.length {xs : List V} {us : List Value} (r : Vals xs us) : xs.length = us.length := Paired.length r
theorem Vals.get : ∀ {xs : List V} {us : List Value} {i : Nat} {x : V}, Vals xs us → xs[i]? = some x → ∃ u, us[i]? = some u ∧ RelV x u
  | _, _, _, _, .nil, e => by simp at e
  | _, _, 0, _, .cons r _, e => by simp at e; subst e; exact ⟨_, rfl, r⟩
  | _, _, i + 1, x, .cons _ t, e => by
    obtain ⟨u, h1, h2⟩ := Vals.get (i := i) (x := x) t (by simpa using e)
    exact ⟨u, by simpa using h1, h2⟩
theorem Vals.set {x : V} {u : Value} (r : RelV x u) : ∀ {xs : List V} {us : List Value} (i : Nat), Vals xs us → Vals (xs.set i x) (us.set i u)
  | _, _, _, .nil => .nil
  | _, _, 0, .cons _ t => .cons r t
  | _, _, i + 1, .cons q t => .cons q (Vals.set r i t)
theorem Vals.append : ∀ {xs ys : List V} {us ws : List Value}, Vals xs us → Vals ys ws → Vals (xs ++ ys) (us ++ ws)
  | _, _, _, _, .nil, s => s
  | _, _, _, _, .cons r t, s => .cons r (Vals.append t s)
theorem Vals.take : ∀ {xs : List V} {us : List Value} (n : Nat), Vals xs us → Vals (xs.take n) (us.take n)
  | _, _, 0, _ => .nil
  | _, _, _ + 1, .nil => .nil
  | _, _, n + 1, .cons r t => .cons r (Vals.take n t)
theorem Vals.drop : ∀ {xs : List V} {us : List Value} (n : Nat), Vals xs us → Vals (xs.drop n) (us.drop n)
  | _, _, 0, r => r
  | _, _, _ + 1, .nil => .nil
  | _, _, n + 1, .cons _ t => Vals.drop n t
theorem Vals.none_of : ∀ {xs : List V} {us : List Value} {i : Nat}, Vals xs us → xs[i]? = none → us[i]? = none := fun {xs us i} r e => by
  have h1 := r.length
  have h2 : xs.length ≤ i := List.getElem?_eq_none_iff.mp e
  exact List.getElem?_eq_none_iff.mpr (by omega)

def RelO : Option V → Option Value → Prop
  | some v, some u => RelV v u
  | none, none => True
  | _, _ => False
def KV {κ : Type} : List (κ × V) → List (κ × Value) → Prop := Paired fun (p : κ × V) (q : κ × Value) => p.1 = q.1 ∧ RelV p.2 q.2

/-- a key of a dict (00_mix): an int or a text -/
def kV : Key → V
  | .inl i => .int i
  | .inr x => .str x

/-- what stands at a tracked address -/
inductive HO where
  /-- a list -/
  | lst (xs : List V)
  /-- a tuple (never changes) -/
  | tup (xs : List V)
  /-- a dict whose keys are ints and texts; one whose keys are tuples of ints and texts (the empty one is both) -/
  | dK (kvs : List (Key × V)) | dT (kvs : List (List Key × V))
  /-- a set of ints: its members, its size -/
  | set (S : Int → Bool) (n : Nat)
  /-- an instance of the class at C, its dict at dx, its attributes -/
  | ins (C dx : Addr) (fs : List (Str × V))
  /-- the dict of the instance at x -/
  | own (x : Addr)
  /-- the dict of an exception -/
  | xd (fs : List (Str × V))
  /-- a bound method, f of x -/
  | met (f x : Addr)
  /-- a range object lo, lo + 1, .. below hi -/
  | rng (lo hi : Int)
  /-- a thing that is known to the object (the script; a dict while a loop walks it): read, never written while it is so -/
  | frz (o : Obj) (u : HO)
  /-- a code object's table -/
  | tbl (ps : Array Value)
  /-- any other thing, by what is true of its one object (a def of one's own: SetO a S n := HO.ext fun h => ..) -/
  | ext (φ : Heap → Prop)

abbrev Hp := Addr → Option HO
def upd (H : Hp) (a : Addr) (o : HO) : Hp := fun b => if b = a then some o else H b
theorem upd_same {H : Hp} {a : Addr} {o : HO} : upd H a o a = some o := by unfold upd; rw [if_pos rfl]
theorem upd_ne {H : Hp} {a b : Addr} {o : HO} (h : b ≠ a) : upd H a o b = H b := by unfold upd; rw [if_neg h]
/-- two objects of different content stand apart -/
theorem ne_of {H : Hp} {a b : Addr} {o u : HO} (h : H a = some o) (h' : H b = some u) (d : o ≠ u) : a ≠ b := by
  intro e; subst e; rw [h] at h'; exact d (Option.some.inj h')
theorem ne_of_none {H : Hp} {a b : Addr} {o : HO} (h : H a = some o) (h' : H b = none) : a ≠ b := by
  intro e; subst e; rw [h] at h'; cases h'

section
variable (P : Program) (w : World)
def ObjOk (H : Hp) (h : Heap) (a : Addr) : HO → Prop
  | .lst xs => xs.length ≤ sizeLine ∧ ∃ (its : List Value) (n : Nat), Vals xs its ∧ h.get? a = some { cls := .type "list", data := .seq its.toArray n }
  | .tup xs => xs.length ≤ sizeLine ∧ ∃ its : List Value, Vals xs its ∧ IsTup h a its.toArray
  | .dK kvs => kvs.length ≤ sizeLine ∧ (a == sysModules) = false ∧ ∃ vs, KV kvs vs ∧ h.DictOf (mixKind P w) a vs
  | .dT kvs => kvs.length ≤ sizeLine ∧ (a == sysModules) = false ∧ ∃ xs : List (List Key × Addr × Value),
      Paired (fun (p : List Key × V) (q : List Key × Addr × Value) => p.1 = q.1 ∧ H q.2.1 = some (.tup (p.1.map kV)) ∧ RelV p.2 q.2.2) kvs xs ∧
      ∃ o es ep, h.get? a = some o ∧ o.ExactDict ∧ o.data = .dict es ep ∧ es.toList = xs.map (entryOfKey (tupleKind (mixKind P w))) ∧ (xs.map (·.1)).Nodup
  | .set S n => h.SetOf (intKind P w) a S n
  | .ins C dx fs => H dx = some (.own a) ∧ fs.length ≤ 1000 ∧ dx ≠ a ∧ h.get? a = some (PySem.W.instObj C dx) ∧
      ∃ mA, h.Ns1 dx mA ∧ (∀ f, RelO (fs.lookup f) (mA f)) ∧ PySem.Within mA (fs.map (·.1))
  | .own _ => ∃ o, h.get? a = some o
  | .xd fs => ∃ mA, h.Ns1 a mA ∧ ∀ f, RelO (fs.lookup f) (mA f)
  | .rng lo hi => ∃ t u v, h.get? a = some { cls := .type "range", data := .fields #[.int lo t, .int hi u, .int 1 v] }
  | .frz o u => h.get? a = some o ∧ ObjOk H h a u
  | .tbl ps => h.get? a = some { cls := .none, data := .fields ps }
  | .met f x => h.get? a = some (PySem.W.methodObj (.ref f) (.ref x))
  | .ext φ => φ h ∧ (∃ o, h.get? a = some o) ∧ ∀ h1 h2 : Heap, φ h1 → (∀ o, h1.get? a = some o → h2.get? a = some o) → φ h2
/-- the abstract heap is held -/
def HOk (H : Hp) (h : Heap) : Prop := ∀ a o, H a = some o → ObjOk P w H h a o
end

section
variable {P : Program} {w : World} {H H' : Hp} {h h' : Heap} {a : Addr} {o : HO}
theorem ObjOk.lt (x : ObjOk P w H h a o) : a < h.objs.size := by
  cases o with
  | lst xs => obtain ⟨_, _, _, _, e⟩ := x; exact Heap.lt_size e
  | tup xs => obtain ⟨_, _, _, p⟩ := x; exact p.lt
  | dK kvs => obtain ⟨_, _, _, _, o, _, _, e, _⟩ := x; exact Heap.lt_size e
  | dT kvs => obtain ⟨_, _, _, _, o, _, _, e, _⟩ := x; exact Heap.lt_size e
  | set S n => obtain ⟨o, _, _, _, e, _⟩ := x; exact Heap.lt_size e
  | ins C dx fs => obtain ⟨_, _, _, e, _⟩ := x; exact Heap.lt_size e
  | own y => obtain ⟨_, e⟩ := x; exact Heap.lt_size e
  | xd fs => obtain ⟨_, ⟨_, _, _, e, _⟩, _⟩ := x; exact Heap.lt_size e
  | rng lo hi => obtain ⟨_, _, _, e⟩ := x; exact Heap.lt_size e
  | frz ob u => obtain ⟨e, _⟩ := x; exact Heap.lt_size e
  | tbl ps => exact Heap.lt_size (show h.get? a = some _ from x)
  | met f y => exact Heap.lt_size (show h.get? a = some _ from x)
  | ext φ => obtain ⟨_, ⟨_, e⟩, _⟩ := x; exact Heap.lt_size e
theorem Paired.mapP {α β : Type} {F G : α → β → Prop} : ∀ {l₁ : List α} {l₂ : List β}, Paired F l₁ l₂ → (∀ a b, F a b → G a b) → Paired G l₁ l₂
  | _, _, .nil, _ => .nil
  | _, _, .cons r t, f => .cons (f _ _ r) (Paired.mapP t f)
/-- what an object's description leans on: its own object, its own dict, the tuples -/
theorem ObjOk.stay (x : ObjOk P w H h a o) (k : ∀ b u, (b = a ∨ H b = some (.own a)) → h.get? b = some u → h'.get? b = some u)
    (ho : ∀ b, H b = some (.own a) → H' b = some (.own a)) (ht : ∀ b xs, H b = some (.tup xs) → H' b = some (.tup xs)) : ObjOk P w H' h' a o := by
  induction o with
  | lst xs => obtain ⟨z, its, n, r, e⟩ := x; exact ⟨z, its, n, r, k _ _ (.inl rfl) e⟩
  | tup xs => obtain ⟨z, its, r, ob, e, c⟩ := x; exact ⟨z, its, r, ob, k _ _ (.inl rfl) e, c⟩
  | dK kvs => obtain ⟨z, y, vs, r, ob, es, ep, e, c⟩ := x; exact ⟨z, y, vs, r, ob, es, ep, k _ _ (.inl rfl) e, c⟩
  | dT kvs =>
    obtain ⟨z, y, xs, r, ob, es, ep, e, c⟩ := x
    exact ⟨z, y, xs, Paired.mapP r fun p q z => ⟨z.1, ht _ _ z.2.1, z.2.2⟩, ob, es, ep, k _ _ (.inl rfl) e, c⟩
  | set S n => obtain ⟨ob, es, ep, t, e, c⟩ := x; exact ⟨ob, es, ep, t, k _ _ (.inl rfl) e, c⟩
  | ins C dx fs =>
    obtain ⟨d, z, ne, e, mA, ⟨od, es, ep, e2, c⟩, r⟩ := x
    exact ⟨ho _ d, z, ne, k _ _ (.inl rfl) e, mA, ⟨od, es, ep, k _ _ (.inr d) e2, c⟩, r⟩
  | own y => obtain ⟨ob, e⟩ := x; exact ⟨ob, k _ _ (.inl rfl) e⟩
  | xd fs => obtain ⟨mA, ⟨od, es, ep, e, c⟩, r⟩ := x; exact ⟨mA, ⟨od, es, ep, k _ _ (.inl rfl) e, c⟩, r⟩
  | rng lo hi => obtain ⟨t, u, v, e⟩ := x; exact ⟨t, u, v, k _ _ (.inl rfl) e⟩
  | frz ob u ih => obtain ⟨e, q⟩ := x; exact ⟨k _ _ (.inl rfl) e, ih q⟩
  | tbl ps =>
    have e : h.get? a = some { cls := .none, data := .fields ps } := x
    show h'.get? a = some { cls := .none, data := .fields ps }
    exact k a _ (.inl rfl) e
  | met f y =>
    have e : h.get? a = some (PySem.W.methodObj (.ref f) (.ref y)) := x
    show h'.get? a = some (PySem.W.methodObj (.ref f) (.ref y))
    exact k a _ (.inl rfl) e
  | ext φ => obtain ⟨p, ⟨o, e⟩, st⟩ := x; exact ⟨st _ _ p fun o q => k _ _ (.inl rfl) q, ⟨o, k _ _ (.inl rfl) e⟩, st⟩
theorem HOk.lt (x : HOk P w H h) (e : H a = some o) : a < h.objs.size := (x a o e).lt
theorem HOk.fresh (x : HOk P w H h) (e : h.objs.size ≤ a) : H a = none := by
  cases q : H a with
  | none => rfl
  | some u => exact absurd (Nat.lt_of_lt_of_le (x.lt q) e) (Nat.lt_irrefl _)
/-- every object of the heap is kept -/
theorem HOk.kept (x : HOk P w H h) (k : ∀ b u, h.get? b = some u → h'.get? b = some u) : HOk P w H h' := fun a o e =>
  (x a o e).stay (fun b u _ q => k b u q) (fun _ q => q) fun _ _ q => q
/-- a new object is laid and tracked -/
theorem HOk.laid (x : HOk P w H h) (k : ∀ b u, h.get? b = some u → h'.get? b = some u) (hp : h.objs.size ≤ a) (new : ObjOk P w (upd H a o) h' a o) : HOk P w (upd H a o) h' := fun b u e => by
  have hn := x.fresh hp
  by_cases hb : b = a
  · subst hb; rw [upd_same] at e; cases e; exact new
  · rw [upd_ne hb] at e
    exact (x b u e).stay (fun c v _ q => k c v q) (fun c q => by rw [upd_ne (ne_of_none q hn)]; exact q) fun c xs q => by rw [upd_ne (ne_of_none q hn)]; exact q
end

/-- what may be read as u: it is u, or a known u -/
def Rd (H : Hp) (a : Addr) (u : HO) : Prop := H a = some u ∨ ∃ o, H a = some (.frz o u)
theorem Rd.of {H : Hp} {a : Addr} {u : HO} (h : H a = some u) : Rd H a u := .inl h
theorem Rd.ok {P : Program} {w : World} {H : Hp} {h : Heap} {a : Addr} {u : HO} (r : Rd H a u) (x : HOk P w H h) : ObjOk P w H h a u := by
  rcases r with r | ⟨o, r⟩
  · exact x a u r
  · obtain ⟨_, q⟩ := x a _ r
    exact q
/-- what may be written -/
def Mut : Option HO → Prop
  | some (.lst _) => True
  | some (.dK _) => True
  | some (.dT _) => True
  | some (.set _ _) => True
  | some (.ins _ _ _) => True
  | some (.ext _) => True
  | _ => False
section
variable {P : Program} {w : World} {H : Hp} {h h' : Heap} {x e : Addr} {o' : HO}
/-- the object at e is changed: x itself, or the dict of the instance x -/
theorem HOk.write (ok : HOk P w H h) (mu : Mut (H x)) (he : e = x ∨ H e = some (.own x)) (k : ∀ b u, b ≠ e → h.get? b = some u → h'.get? b = some u) (heo : ∃ u, h'.get? e = some u)
    (new : ObjOk P w (upd H x o') h' x o') : HOk P w (upd H x o') h' := fun b u q => by
  have nown : ∀ c y, H c = some (.own y) → c ≠ x := fun c y r z => by subst z; rw [r] at mu; exact mu
  have ntup : ∀ c xs, H c = some (.tup xs) → c ≠ x := fun c xs r z => by subst z; rw [r] at mu; exact mu
  by_cases hb : b = x
  · subst hb; rw [upd_same] at q; cases q; exact new
  · rw [upd_ne hb] at q
    by_cases hbe : b = e
    · have q' : H b = some (.own x) := by
        rcases he with z | z
        · exact absurd (hbe.trans z) hb
        · rw [hbe]; exact z
      rw [q] at q'; cases q'
      obtain ⟨v, hv⟩ := heo
      exact ⟨v, by rw [hbe]; exact hv⟩
    · refine (ok b u q).stay (fun c v hc r => k c v ?_ r) (fun c r => by rw [upd_ne (nown c b r)]; exact r) fun c xs r => by rw [upd_ne (ntup c xs r)]; exact r
      rcases hc with rfl | hc
      · exact hbe
      · rintro rfl
        rcases he with z | z
        · exact nown c b hc z
        · rw [hc] at z; cases z; exact hb rfl
end

/-! ### kept unless tracked; of the frames at fs (the callers') the slots may change (an exception that passes writes there); of the records at ex (iterators) nothing is said -/
structure Un (fs ex : List Addr) (H H' : Hp) (h h' : Heap) : Prop where
  keep : ∀ b o, h.get? b = some o → H b = none → b ∉ fs → b ∉ ex → h'.get? b = some o
  slot : ∀ b o, h.get? b = some o → H b = none → b ∈ fs → b ∉ ex → ∃ sl, h'.get? b = some { o with slots := sl }
  free : ∀ b o, h.get? b = some o → H b = none → b ∉ ex → H' b = none
  there : ∀ b o, h.get? b = some o → b ∉ ex → ∃ o', h'.get? b = some o'
  tups : ∀ b xs, H b = some (.tup xs) → H' b = some (.tup xs)
  frzs : ∀ b o u, H b = some (.frz o u) → H' b = some (.frz o u)
  tbls : ∀ b ps, H b = some (.tbl ps) → ∃ more, H' b = some (.tbl (ps ++ more))
section
variable {fs fs' ex ex' : List Addr} {H H1 H2 : Hp} {h h1 h2 h' : Heap} {a x e : Addr} {o : HO}
theorem Un.any (u : Un fs ex H H1 h h1) {b : Addr} {ob : Obj} (q : h.get? b = some ob) (n : H b = none) (hx : b ∉ ex) : ∃ sl, h1.get? b = some { ob with slots := sl } := by
  by_cases hb : b ∈ fs
  · exact u.slot b ob q n hb hx
  · exact ⟨ob.slots, u.keep b ob q n hb hx⟩
theorem Un.trans (a : Un fs ex H H1 h h1) (b : Un fs ex H1 H2 h1 h2) : Un fs ex H H2 h h2 where
  keep := fun c ob q n hc hx => b.keep c ob (a.keep c ob q n hc hx) (a.free c ob q n hx) hc hx
  slot := fun c ob q n hc hx => by
    obtain ⟨sl, e1⟩ := a.slot c ob q n hc hx
    obtain ⟨sl', e2⟩ := b.slot c _ e1 (a.free c ob q n hx) hc hx
    exact ⟨sl', e2⟩
  free := fun c ob q n hx => by
    obtain ⟨o', e1⟩ := a.there c ob q hx
    exact b.free c o' e1 (a.free c ob q n hx) hx
  there := fun c ob q hx => by
    obtain ⟨o', e1⟩ := a.there c ob q hx
    exact b.there c o' e1 hx
  tups := fun c xs q => b.tups c xs (a.tups c xs q)
  frzs := fun c ob xs q => b.frzs c ob xs (a.frzs c ob xs q)
  tbls := fun c ps q => by
    obtain ⟨m1, e1⟩ := a.tbls c ps q
    obtain ⟨m2, e2⟩ := b.tbls c _ e1
    exact ⟨m1 ++ m2, by rw [e2, Array.append_assoc]⟩
theorem Un.kept (k : ∀ b u, h.get? b = some u → h'.get? b = some u) : Un fs ex H H h h' :=
  ⟨fun b ob q _ _ _ => k b ob q, fun b ob q _ _ _ => ⟨ob.slots, k b ob q⟩, fun _ _ _ n _ => n, fun b ob q _ => ⟨ob, k b ob q⟩, fun _ _ q => q, fun _ _ _ q => q, fun _ ps q => ⟨#[], by rw [q]; simp⟩⟩
theorem Un.refl : Un fs ex H H h h := Un.kept fun _ _ q => q
theorem Un.laid (k : ∀ b u, h.get? b = some u → h'.get? b = some u) (hp : h.objs.size ≤ a) (hn : H a = none) : Un fs ex H (upd H a o) h h' where
  keep := fun b u q _ _ _ => k b u q
  slot := fun b u q _ _ _ => ⟨u.slots, k b u q⟩
  free := fun b u q n _ => by rw [upd_ne (Nat.ne_of_lt (Nat.lt_of_lt_of_le (Heap.lt_size q) hp))]; exact n
  there := fun b u q _ => ⟨u, k b u q⟩
  tups := fun b xs q => by rw [upd_ne (ne_of_none q hn)]; exact q
  frzs := fun b u xs q => by rw [upd_ne (ne_of_none q hn)]; exact q
  tbls := fun b ps q => ⟨#[], by rw [upd_ne (ne_of_none q hn), q]; simp⟩
theorem Un.write (mu : Mut (H x)) (he : e = x ∨ H e = some (.own x)) (k : ∀ b u, b ≠ e → h.get? b = some u → h'.get? b = some u) (heo : ∃ u, h'.get? e = some u) : Un fs ex H (upd H x o) h h' := by
  have hx : ∀ b, H b = none → b ≠ x := fun b n z => by subst z; rw [n] at mu; exact mu
  have hb : ∀ b, H b = none → b ≠ e := fun b n z => by
    subst z
    rcases he with r | r
    · exact hx b n r
    · rw [n] at r; cases r
  have hm : ∀ b u, H b = some u → ¬ Mut (some u) → b ≠ x := fun b u q nm z => by subst z; rw [q] at mu; exact nm mu
  refine ⟨fun b u q n _ _ => k b u (hb b n) q, fun b u q n _ _ => ⟨u.slots, k b u (hb b n) q⟩, fun b u q n _ => by rw [upd_ne (hx b n)]; exact n, fun b u q _ => ?_,
    fun b xs q => by rw [upd_ne (hm b _ q fun z => z)]; exact q, fun b u xs q => by rw [upd_ne (hm b _ q fun z => z)]; exact q, fun b ps q => ⟨#[], by rw [upd_ne (hm b _ q fun z => z), q]; simp⟩⟩
  by_cases hbe : b = e
  · subst hbe; exact heo
  · exact ⟨u, k b u hbe q⟩
theorem Un.mono (u : Un fs ex H H1 h h1) (hs : ∀ b ∈ fs, b ∈ fs') (hx : ∀ b ∈ ex, b ∈ ex') : Un fs' ex' H H1 h h1 :=
  ⟨fun b ob q n hb he => u.keep b ob q n (fun z => hb (hs b z)) fun z => he (hx b z), fun _ _ q n _ he => u.any q n fun z => he (hx _ z), fun b ob q n he => u.free b ob q n fun z => he (hx b z), fun b ob q he => u.there b ob q fun z => he (hx b z), u.tups, u.frzs, u.tbls⟩
end

/-! ### the heap without what is tracked -/
def trk (h : Heap) (H : Hp) : List Addr := (List.range h.objs.size).filter fun a => (H a).isSome
def hidT (h : Heap) (H : Hp) : Heap := PySem.W.hideAll h (trk h H)
theorem hidT_size (h : Heap) (H : Hp) : (hidT h H).objs.size = h.objs.size := PySem.W.hideAll_size _ _
theorem hidT_get {h : Heap} {H : Hp} {b : Addr} {o : Obj} (e : h.get? b = some o) (n : H b = none) : (hidT h H).get? b = some o :=
  PySem.W.hideAll_get _ e fun hm => by
    have q : (H b).isSome = true := (List.mem_filter.mp hm).2
    rw [n] at q; simp at q
theorem of_hidT {h : Heap} {H : Hp} {b : Addr} {o : Obj} (e : (hidT h H).get? b = some o) : h.get? b = some o ∧ H b = none := by
  have e' : h.get? b = some o := PySem.W.of_hideAll (trk h H) e
  refine ⟨e', ?_⟩
  cases q : H b with
  | none => rfl
  | some x =>
    have hm : b ∈ trk h H := List.mem_filter.mpr ⟨List.mem_range.mpr (Heap.lt_size e'), by simp [q]⟩
    have z : (hidT h H).get? b = none := PySem.W.hideAll_none (trk h H) hm
    rw [z] at e; cases e

/-! ### OpenK's ledger, filled with every new object but one -/
def allNews (g h : Heap) (L : Addr) : List (Addr × Obj) := (List.range h.objs.size).filterMap fun a => if a = L ∨ (g.get? a).isSome = true then none else (h.get? a).map fun o => (a, o)
def rest (g h : Heap) (L d : Addr) : List (Addr × Obj) := (allNews g h L).filter fun p => decide (p.1 ≠ d)
end L2

namespace L2
open PySem PySem.Spec PyProof.Rows

/-- the module's facts, over the base: the heap at the law's entry without what is tracked there -/
structure Mod (K : PySem.W.Frag) (mg : Str → Option Value) (base : Heap) : Prop where
  kin : K.In base
  glob : base.Ns mainGlobals mg
  blt : ∃ mb, base.Ns builtinsNs mb ∧ ∀ x : Str, x ≠ "__name__" → mb x = bootBuiltins x
  nolimit : base.NoLimit

/-- the context: a def's body (or a comprehension's block) running. base: fixed through the whole law; s₀, H₀: the entry; outer: the frames whose slots others may change (a def's callers); stack: all frames that run;
   ex: iterators that were made ahead of the entry and are walked here (a comprehension's); fn: the names whose cells were made at the entry (a def: all; a comprehension's block: its own); calm: not within an except suite; pn: pins that every state bears; xe: what is wanted of an exception that leaves the code -/
structure Cx where
  prog : Program
  w : World
  K : PySem.W.Frag
  mg : Str → Option Value
  base : Heap
  A : Around
  N : List Str
  s₀ : Shared
  H₀ : Hp
  env : Env
  outer : List Env
  stack : List Env
  ex : List Addr
  fn : Str → Bool
  calm : Bool
  pn : List (Addr × Obj)
  xe : Value → Shared → Prop
/-- the callers' frames -/
def frs (l : List Env) : List Addr := l.filterMap (·.frame)
abbrev Cx.fs (X : Cx) : List Addr := frs X.outer

def Vis (sc : Scope) (x : Str) : Prop := sc.names.lookup x = some .local ∨ sc.names.lookup x = some .cell ∨ sc.names.lookup x = some .free
def Loc (sc : Scope) (x : Str) : Prop := sc.names.lookup x = some .local ∨ sc.names.lookup x = some .cell
def Look (env : Env) (h : Heap) (m : Str → Option Value) (x : Str) (u : Value) : Prop :=
  (env.kindOf x = some .local ∧ m x = some u) ∨ ((env.kindOf x = some .cell ∨ env.kindOf x = some .free) ∧ ∃ c, env.cells.lookup x = some c ∧ h.IsCell c (some u))

structure Cx.Ok (X : Cx) : Prop where
  mod : Mod X.K X.mg X.base
  kind : X.env.scope.kind = .function
  glob : X.env.globals = mainGlobals
  blt : X.env.builtins = builtinsNs
  above : X.s₀.heap.objs.size ≤ X.env.locals
  inj : ∀ x y c, X.env.cells.lookup x = some c → X.env.cells.lookup y = some c → x = y
  has : ∀ x, (X.env.kindOf x = some .cell ∨ X.env.kindOf x = some .free) → ∃ c, X.env.cells.lookup x = some c
  cab : ∀ x c, X.fn x = true → X.env.cells.lookup x = some c → X.s₀.heap.objs.size ≤ c
  hd : X.calm = true → X.A.handled = none
  frames : X.A.frames = some X.stack
  stk : X.stack = X.outer ∨ (X.stack = X.env :: X.outer ∧ X.env.frame = some X.env.locals)
  exf : ∀ b ∈ X.ex, b ≠ X.env.locals ∧ ∀ x c, X.env.cells.lookup x = some c → c ≠ b
  bs : ∀ b o, X.base.get? b = some o → X.s₀.heap.get? b = some o ∧ X.H₀ b = none
  bsz : X.base.objs.size ≤ X.s₀.heap.objs.size
  noex : ∀ b o, X.base.get? b = some o → b ∉ X.ex
  exfs : ∀ b ∈ X.ex, b ∉ X.fs
  funs : X.s₀.heap.FunFrames X.base X.outer
  frf : ∀ b ∈ X.fs, X.H₀ b = none

structure Inv (X : Cx) (pins : List (Addr × Obj)) (σ : List (Option V)) (H : Hp) (s : Shared) : Prop where
  ok : X.Ok
  os : s.os = X.s₀.os
  bare : AllBare s.gens
  base : Un X.fs X.ex X.H₀ H X.s₀.heap s.heap
  loc : ∃ m, s.heap.Ns X.env.locals m ∧ ∀ (i : Nat) (x : Str) (v : V), X.N[i]? = some x → σ[i]? = some (some v) → Vis X.env.scope x → ∃ u, RelV v u ∧ Look X.env s.heap m x u
  cell : ∀ x c, X.env.cells.lookup x = some c → ∃ v, s.heap.IsCell c v
  free : H X.env.locals = none
  freeC : ∀ x c, X.env.cells.lookup x = some c → H c = none
  pin : ∀ p ∈ X.pn ++ pins, s.heap.get? p.1 = some p.2 ∧ H p.1 = none ∧ p.1 ≠ X.env.locals ∧ p.1 ∉ X.fs ∧ ∀ v, p.2.data ≠ .cell v
  hok : HOk X.prog X.w H s.heap
  len : σ.length = X.N.length

section
variable {X : Cx} {pins : List (Addr × Obj)} {σ : List (Option V)} {H H' : Hp} {s : Shared} {h' : Heap}

theorem Cx.Ok.nofr (ok : X.Ok) {b : Addr} {o : Obj} (e : X.base.get? b = some o) : b ∉ X.fs := fun hb => by
  have := (ok.funs.mem hb).1
  rw [e] at this; cases this
theorem Inv.bs (I : Inv X pins σ H s) : ∀ b o, X.base.get? b = some o → s.heap.get? b = some o ∧ H b = none := fun b o e =>
  ⟨I.base.keep b o (I.ok.bs b o e).1 (I.ok.bs b o e).2 (I.ok.nofr e) (I.ok.noex b o e), I.base.free b o (I.ok.bs b o e).1 (I.ok.bs b o e).2 (I.ok.noex b o e)⟩
theorem Inv.bk (I : Inv X pins σ H s) : ∀ b o, X.base.get? b = some o → s.heap.get? b = some o := fun b o e => (I.bs b o e).1
theorem Inv.mod (I : Inv X pins σ H s) : Mod X.K X.mg X.base := I.ok.mod
theorem Inv.kIn (I : Inv X pins σ H s) : X.K.In s.heap := I.ok.mod.kin.keeps I.bk
theorem Inv.nolimit (I : Inv X pins σ H s) : s.heap.NoLimit := I.ok.mod.nolimit.keeps I.bk
/-- the frame over the base: for OpenK's rules (K.In X.base is I.mod.kin) -/
theorem Inv.fr (I : Inv X pins σ H s) : ∃ m, Fr X.base X.env.locals s.heap m :=
  let ⟨m, hn, _⟩ := I.loc
  ⟨m, hn, I.bk, Nat.le_trans I.ok.bsz I.ok.above⟩
theorem Inv.lt (I : Inv X pins σ H s) : X.env.locals < s.heap.objs.size := let ⟨_, hn, _⟩ := I.loc; hn.lt
theorem Inv.sz (I : Inv X pins σ H s) : X.s₀.heap.objs.size ≤ s.heap.objs.size := Nat.le_trans I.ok.above (Nat.le_of_lt I.lt)
theorem Inv.nofs (I : Inv X pins σ H s) {a : Addr} (h : s.heap.objs.size ≤ a) : a ∉ X.fs := fun hb => by
  obtain ⟨_, o, ho, _⟩ := I.ok.funs.mem hb
  exact absurd (Nat.lt_of_lt_of_le (Heap.lt_size ho) (Nat.le_trans I.sz h)) (Nat.lt_irrefl _)
theorem Inv.cne (I : Inv X pins σ H s) : ∀ x c, X.env.cells.lookup x = some c → c ≠ X.env.locals := fun x c e z => by
  obtain ⟨v, o, ho, hd⟩ := I.cell x c e
  obtain ⟨m, ⟨o', es, ep, ho', hd', _⟩, _⟩ := I.loc
  rw [z, ho'] at ho; cases ho; rw [hd'] at hd; cases hd
theorem Inv.funs (I : Inv X pins σ H s) : s.heap.FunFrames X.base X.outer := by
  have all : ∀ (l : List Env), (∀ b ∈ frs l, b ∈ X.fs) → X.s₀.heap.FunFrames X.base l → s.heap.FunFrames X.base l := by
    intro l
    induction l with
    | nil => intro _ _; trivial
    | cons env r ih =>
      intro hs hl
      obtain ⟨hk, ⟨L, o, hf, hn, ho, hd⟩, hr⟩ := hl
      have hL : L ∈ X.fs := hs L (by unfold frs; rw [List.filterMap_cons, hf]; exact List.mem_cons_self)
      obtain ⟨sl, e⟩ := I.base.slot L o ho (I.ok.frf L hL) hL fun z => I.ok.exfs L z hL
      exact ⟨hk, ⟨L, _, hf, hn, e, hd⟩, ih (fun b hb => hs b (by unfold frs; rw [List.filterMap_cons, hf]; exact List.mem_cons_of_mem _ hb)) hr⟩
  exact all X.outer (fun _ hb => hb) I.ok.funs

/-- the frames that run, for a call -/
theorem Inv.stack (I : Inv X pins σ H s) : s.heap.FunFrames X.base X.stack := by
  rcases I.ok.stk with e | ⟨e, hf⟩
  · rw [e]; exact I.funs
  · rw [e]
    obtain ⟨m, hn, _⟩ := I.loc
    refine .cons (by rw [I.ok.kind]; decide) hf hn ?_ I.funs
    exact Heap.get?_none_of_le (Nat.le_trans I.ok.bsz I.ok.above)
theorem Inv.stkSub (I : Inv X pins σ H s) : ∀ b ∈ frs X.stack, b ∈ X.env.locals :: X.fs := fun b hb => by
  rcases I.ok.stk with e | ⟨e, hf⟩
  · rw [e] at hb; exact List.mem_cons_of_mem _ hb
  · rw [e] at hb
    unfold frs at hb
    rw [List.filterMap_cons, hf] at hb
    exact hb
theorem Inv.stkFree (I : Inv X pins σ H s) : ∀ b ∈ frs X.stack, H b = none := fun b hb => by
  rcases List.mem_cons.mp (I.stkSub b hb) with e | hb
  · rw [e]; exact I.free
  · obtain ⟨_, o, ho, _⟩ := I.ok.funs.mem hb
    exact I.base.free b o ho (I.ok.frf b hb) fun z => I.ok.exfs b z hb

/-- THE STEP: the untracked objects but the frame and the records at ch are kept (the callers' frames up to slots), the frame's map is kept, the new abstract heap is held -/
theorem Inv.step {g' : Array GenState} {t' : Nat} {d' : Drawn} {ch : List Addr} (I : Inv X pins σ H s)
    (hch : ∀ b ∈ ch, (b ∈ X.ex ∨ X.s₀.heap.objs.size ≤ b) ∧ b ≠ X.env.locals ∧ (∀ x c, X.env.cells.lookup x = some c → c ≠ b) ∧ ∀ p ∈ X.pn ++ pins, p.1 ≠ b)
    (keep : ∀ b o, b ≠ X.env.locals → b ∉ X.fs → b ∉ ch → s.heap.get? b = some o → H b = none → h'.get? b = some o)
    (slot : ∀ b o, b ≠ X.env.locals → b ∈ X.fs → b ∉ ch → s.heap.get? b = some o → H b = none → ∃ sl, h'.get? b = some { o with slots := sl }) (free : ∀ b o, b ∉ ch → s.heap.get? b = some o → H b = none → H' b = none)
    (there : ∀ b o, b ∉ ch → s.heap.get? b = some o → ∃ o', h'.get? b = some o')
    (tups : ∀ b xs, H b = some (.tup xs) → H' b = some (.tup xs)) (frzs : ∀ b o u, H b = some (.frz o u) → H' b = some (.frz o u)) (tbls : ∀ b ps, H b = some (.tbl ps) → ∃ more, H' b = some (.tbl (ps ++ more)))
    (ns : ∀ m, s.heap.Ns X.env.locals m → h'.Ns X.env.locals m) (hok : HOk X.prog X.w H' h') (hg : AllBare g') :
    Inv X pins σ H' { s with heap := h', gens := g', drawn := d', toks := t' } := by
  have neL : ∀ b o, X.s₀.heap.get? b = some o → b ≠ X.env.locals := fun b o e => Nat.ne_of_lt (Nat.lt_of_lt_of_le (Heap.lt_size e) I.ok.above)
  have neC : ∀ b o, X.s₀.heap.get? b = some o → b ∉ X.ex → b ∉ ch := fun b o e hx hb => by
    rcases (hch b hb).1 with z | z
    · exact hx z
    · exact absurd (Nat.lt_of_lt_of_le (Heap.lt_size e) z) (Nat.lt_irrefl _)
  have cellK : ∀ x c, X.env.cells.lookup x = some c → ∀ v, s.heap.IsCell c v → h'.IsCell c v := fun x c e v ⟨o, ho, hd⟩ => by
    have nch : c ∉ ch := fun z => (hch c z).2.2.1 x c e rfl
    by_cases hc : c ∈ X.fs
    · obtain ⟨sl, q⟩ := slot c o (I.cne x c e) hc nch ho (I.freeC x c e)
      exact ⟨_, q, hd⟩
    · exact ⟨o, keep c o (I.cne x c e) hc nch ho (I.freeC x c e), hd⟩
  refine ⟨I.ok, I.os, hg, ⟨fun b o e n hb hx => ?_, fun b o e n hb hx => ?_, fun b o e n hx => ?_, fun b o e hx => ?_, fun b xs e => tups b xs (I.base.tups b xs e), fun b o xs e => frzs b o xs (I.base.frzs b o xs e), fun b ps e => ?_⟩, ?_, fun x c e => ?_, ?_, fun x c e => ?_, fun p hp => ?_, hok, I.len⟩
  · exact keep b o (neL b o e) hb (neC b o e hx) (I.base.keep b o e n hb hx) (I.base.free b o e n hx)
  · obtain ⟨sl, e1⟩ := I.base.slot b o e n hb hx
    obtain ⟨sl', e2⟩ := slot b _ (neL b o e) hb (neC b o e hx) e1 (I.base.free b o e n hx)
    exact ⟨sl', e2⟩
  · obtain ⟨o', e1⟩ := I.base.there b o e hx
    exact free b o' (neC b o e hx) e1 (I.base.free b o e n hx)
  · obtain ⟨o', e1⟩ := I.base.there b o e hx
    exact there b o' (neC b o e hx) e1
  · obtain ⟨m1, e1⟩ := I.base.tbls b ps e
    obtain ⟨m2, e2⟩ := tbls b _ e1
    exact ⟨m1 ++ m2, by rw [e2, Array.append_assoc]⟩
  · obtain ⟨m, hn, hl⟩ := I.loc
    refine ⟨m, ns m hn, fun i x v e1 e2 e3 => ?_⟩
    obtain ⟨u, r, l⟩ := hl i x v e1 e2 e3
    refine ⟨u, r, ?_⟩
    rcases l with l | ⟨k, c, e, z⟩
    · exact .inl l
    · exact .inr ⟨k, c, e, cellK x c e _ z⟩
  · obtain ⟨v, z⟩ := I.cell x c e
    exact ⟨v, cellK x c e v z⟩
  · obtain ⟨m, ⟨o, _, _, ho, _⟩, _⟩ := I.loc
    exact free _ o (fun z => (hch _ z).2.1 rfl) ho I.free
  · obtain ⟨v, o, ho, hd⟩ := I.cell x c e
    exact free c o (fun z => (hch c z).2.2.1 x c e rfl) ho (I.freeC x c e)
  · obtain ⟨e, n, ne, nf, d⟩ := I.pin p hp
    have nch : p.1 ∉ ch := fun z => (hch p.1 z).2.2.2 p hp rfl
    exact ⟨keep p.1 p.2 ne nf nch e n, free p.1 p.2 nch e n, ne, nf, d⟩
/-- .. where the frame's own object is kept too -/
theorem Inv.un {t' : Nat} (I : Inv X pins σ H s) (u : Un X.fs [] H H' s.heap h') (hok : HOk X.prog X.w H' h') : Inv X pins σ H' { s with heap := h', toks := t' } := by
  obtain ⟨m, ⟨o, es, ep, ho, r⟩, _⟩ := id I.loc
  obtain ⟨sl, hL⟩ := u.any ho I.free (by simp)
  exact I.step (g' := s.gens) (d' := s.drawn) (ch := []) (fun _ z => nomatch z) (fun b o _ hb _ e n => u.keep b o e n hb (by simp)) (fun b o _ hb _ e n => u.slot b o e n hb (by simp)) (fun b o _ e n => u.free b o e n (by simp)) (fun b o _ e => u.there b o e (by simp)) u.tups u.frzs u.tbls (fun m' hm => by
    obtain ⟨o', es', ep', ho', r'⟩ := hm
    rw [ho] at ho'; cases ho'
    exact ⟨_, es', ep', hL, r'⟩) hok I.bare
/-- behind a call (or a comprehension's block): the slots of this frame may have changed too, the records at ch may have turned -/
theorem Inv.call {g' : Array GenState} {t' : Nat} {d' : Drawn} {ch : List Addr} (I : Inv X pins σ H s) (u : Un (frs X.stack) ch H H' s.heap h') (hok : HOk X.prog X.w H' h') (hg : AllBare g')
    (hch : ∀ b ∈ ch, (b ∈ X.ex ∨ X.s₀.heap.objs.size ≤ b) ∧ b ≠ X.env.locals ∧ (∀ x c, X.env.cells.lookup x = some c → c ≠ b) ∧ ∀ p ∈ X.pn ++ pins, p.1 ≠ b) :
    Inv X pins σ H' { s with heap := h', gens := g', drawn := d', toks := t' } := by
  obtain ⟨m, ⟨o, es, ep, ho, r⟩, _⟩ := id I.loc
  obtain ⟨sl, hL⟩ := u.any ho I.free fun z => (hch _ z).2.1 rfl
  exact I.step (ch := ch) hch (fun b o hL hb hc e n => u.keep b o e n (fun z => (List.mem_cons.mp (I.stkSub b z)).elim hL hb) hc) (fun b o _ _ hc e n => u.any e n hc) (fun b o hc e n => u.free b o e n hc) (fun b o hc e => u.there b o e hc) u.tups u.frzs u.tbls (fun m' hm => by
    obtain ⟨o', es', ep', ho', r'⟩ := hm
    rw [ho] at ho'; cases ho'
    exact ⟨_, es', ep', hL, r'⟩) hok hg
/-- an untracked record of ours (an iterator) has turned -/
theorem Inv.turned {t' : Nat} {it : Addr} (I : Inv X pins σ H s) (k : ∀ b o, b ≠ it → s.heap.get? b = some o → h'.get? b = some o) (hn : H it = none) (hL : it ≠ X.env.locals)
    (h1 : it ∈ X.ex ∨ X.s₀.heap.objs.size ≤ it) (h2 : ∀ x c, X.env.cells.lookup x = some c → c ≠ it) (h3 : ∀ p ∈ X.pn ++ pins, p.1 ≠ it) : Inv X pins σ H { s with heap := h', toks := t' } := by
  have nit : ∀ b u, H b = some u → b ≠ it := fun b u e z => by rw [z, hn] at e; cases e
  refine I.step (g' := s.gens) (d' := s.drawn) (ch := [it]) (fun b hb => ?_) (fun b o _ _ hc e _ => k b o (fun z => hc (by simp [z])) e) (fun b o _ _ hc e _ => ⟨o.slots, k b o (fun z => hc (by simp [z])) e⟩) (fun _ _ _ _ n => n)
    (fun b o hc e => ⟨o, k b o (fun z => hc (by simp [z])) e⟩) (fun _ _ e => e) (fun _ _ _ e => e) (fun b ps e => ⟨#[], by rw [e]; simp⟩) (fun m hm => ?_) (fun b u e => ?_) I.bare
  · have e : b = it := by simpa using hb
    subst e
    exact ⟨h1, hL, h2, h3⟩
  · obtain ⟨o, es, ep, ho, r⟩ := hm
    exact ⟨o, es, ep, k _ o (Ne.symm hL) ho, r⟩
  · refine (I.hok b u e).stay (fun c v hc q => k c v ?_ q) (fun _ q => q) fun _ _ q => q
    rcases hc with z | z
    · rw [z]; exact nit b u e
    · exact nit c _ z
theorem Inv.tok (I : Inv X pins σ H s) (t : Nat) : Inv X pins σ H { s with toks := t } := I.un (h' := s.heap) (t' := t) Un.refl I.hok
/-- all objects kept -/
theorem Inv.kept {t' : Nat} (I : Inv X pins σ H s) (k : ∀ b u, s.heap.get? b = some u → h'.get? b = some u) : Inv X pins σ H { s with heap := h', toks := t' } := I.un (Un.kept k) (I.hok.kept k)
/-- a new object laid and tracked -/
theorem Inv.laid {a : Addr} {o : HO} {t' : Nat} (I : Inv X pins σ H s) (k : ∀ b u, s.heap.get? b = some u → h'.get? b = some u) (hp : s.heap.objs.size ≤ a) (new : ObjOk X.prog X.w (upd H a o) h' a o) :
    Inv X pins σ (upd H a o) { s with heap := h', toks := t' } := I.un (Un.laid k hp (I.hok.fresh hp)) (I.hok.laid k hp new)
/-- an object written -/
theorem Inv.write {x e : Addr} {o : HO} {t' : Nat} (I : Inv X pins σ H s) (mu : Mut (H x)) (he : e = x ∨ H e = some (.own x)) (k : ∀ b u, b ≠ e → s.heap.get? b = some u → h'.get? b = some u) (heo : ∃ u, h'.get? e = some u)
    (new : ObjOk X.prog X.w (upd H x o) h' x o) : Inv X pins σ (upd H x o) { s with heap := h', toks := t' } := I.un (Un.write mu he k heo) (I.hok.write mu he k heo new)
/-- forgetting slots, pins -/
theorem Inv.weak {σ' : List (Option V)} (I : Inv X pins σ H s) (hl : σ'.length = σ.length) (w : ∀ (i : Nat) v, σ'[i]? = some (some v) → σ[i]? = some (some v)) : Inv X pins σ' H s :=
  ⟨I.ok, I.os, I.bare, I.base, let ⟨m, hn, hl'⟩ := I.loc; ⟨m, hn, fun i x v e1 e2 e3 => hl' i x v e1 (w i v e2) e3⟩, I.cell, I.free, I.freeC, I.pin, I.hok, hl.trans I.len⟩
theorem Inv.pins_of {pins' : List (Addr × Obj)} (I : Inv X pins σ H s) (h : ∀ p ∈ pins', s.heap.get? p.1 = some p.2 ∧ H p.1 = none ∧ p.1 ≠ X.env.locals ∧ p.1 ∉ X.fs ∧ ∀ v, p.2.data ≠ .cell v) : Inv X pins' σ H s :=
  ⟨I.ok, I.os, I.bare, I.base, I.loc, I.cell, I.free, I.freeC, fun p hp => (List.mem_append.mp hp).elim (fun z => I.pin p (List.mem_append_left _ z)) (h p), I.hok, I.len⟩

theorem nodup_ix {N : List Str} (hN : N.Nodup) {i j : Nat} {x : Str} (a : N[i]? = some x) (b : N[j]? = some x) : i = j := by
  obtain ⟨h1, e1⟩ := List.getElem?_eq_some_iff.mp a
  obtain ⟨h2, e2⟩ := List.getElem?_eq_some_iff.mp b
  exact (List.getElem_inj hN).mp (e1.trans e2.symm)

/-- a name is stored; what changed -/
theorem store_ok2 {M : Model} {A : Around} {E : Value → Shared → Prop} {i : Nat} {x : Str} {v : V} {u : Value} {Q : Unit → Shared → Prop} (I : Inv X pins σ H s) (hN : X.N.Nodup) (hi : X.N[i]? = some x) (hx : Loc X.env.scope x) (r : RelV v u)
    (h : ∀ s', Inv X pins (σ.set i (some v)) H s' → (∃ a, Heap.SameBut a s.heap s'.heap ∧ (a = X.env.locals ∨ X.env.cells.lookup x = some a)) → Q () s') (hf : X.fn x = true ∨ X.env.scope.names.lookup x = some .local := by first | exact .inl rfl | exact .inr rfl | assumption) : wpAny M A (storeName X.env x u) Q E s := by
  obtain ⟨m, hn, hl⟩ := id I.loc
  have hcls : (X.env.scope.kind == .class || (X.env.scope.kind == .module && X.env.locals != X.env.globals)) = false := by rw [I.ok.kind]; rfl
  have hiσ : i < σ.length := by rw [I.len]; exact (List.getElem?_eq_some_iff.mp hi).1
  have cne := I.cne
  have tracked : ∀ {a : Addr} {h' : Heap}, (∃ o, s.heap.get? a = some o ∧ H a = none) → Heap.SameBut a s.heap h' → HOk X.prog X.w H h' := fun {a h'} ha hs b ob e => by
    obtain ⟨_, _, hfree⟩ := ha
    refine (I.hok b ob e).stay (fun c w' hc q => (hs.2 c ?_).trans q) (fun _ q => q) fun _ _ q => q
    rintro rfl
    rcases hc with rfl | hc
    · rw [hfree] at e; cases e
    · rw [hfree] at hc; cases hc
  rcases hx with hk | hk
  · refine wpAny_storeName_local hk hn (fun h' hn' hs => ?_) hcls
    obtain ⟨oL, _, _, hoL, _⟩ := id hn
    refine h _ ⟨I.ok, I.os, I.bare, ⟨fun b o e n hb hx => ?_, fun b o e n hb hx => ?_, I.base.free, fun b o e hx => ?_, I.base.tups, I.base.frzs, I.base.tbls⟩, ⟨_, hn', fun j y v' e1 e2 e3 => ?_⟩, fun y c e => ?_, I.free, I.freeC, fun p hp => ?_, tracked ⟨oL, hoL, I.free⟩ hs, by simpa using I.len⟩ ⟨_, hs, .inl rfl⟩
    · exact (hs.2 b (Nat.ne_of_lt (Nat.lt_of_lt_of_le (Heap.lt_size e) I.ok.above))).trans (I.base.keep b o e n hb hx)
    · obtain ⟨sl, e1⟩ := I.base.slot b o e n hb hx
      exact ⟨sl, (hs.2 b (Nat.ne_of_lt (Nat.lt_of_lt_of_le (Heap.lt_size e) I.ok.above))).trans e1⟩
    · obtain ⟨o', e1⟩ := I.base.there b o e hx
      exact ⟨o', (hs.2 b (Nat.ne_of_lt (Nat.lt_of_lt_of_le (Heap.lt_size e) I.ok.above))).trans e1⟩
    · by_cases hj : j = i
      · subst hj
        rw [hi] at e1; cases e1
        rw [List.getElem?_set_self hiσ] at e2
        cases e2
        exact ⟨u, r, .inl ⟨hk, by simp⟩⟩
      · rw [List.getElem?_set_ne (Ne.symm hj)] at e2
        obtain ⟨u', r', q⟩ := hl j y v' e1 e2 e3
        refine ⟨u', r', ?_⟩
        rcases q with ⟨k, e⟩ | ⟨k, c, e, z⟩
        · refine .inl ⟨k, ?_⟩
          have : y ≠ x := fun e => hj (nodup_ix hN e1 (e ▸ hi))
          simp [this, e]
        · exact .inr ⟨k, c, e, z.sameBut hs (cne y c e)⟩
    · obtain ⟨w', z⟩ := I.cell y c e
      exact ⟨w', z.sameBut hs (cne y c e)⟩
    · obtain ⟨e, n, ne, nf, d⟩ := I.pin p hp
      exact ⟨(hs.2 p.1 ne).trans e, n, ne, nf, d⟩
  · have hfn : X.fn x = true := by
      rcases hf with z | z
      · exact z
      · rw [z] at hk; cases hk
    obtain ⟨c, hc⟩ := I.ok.has x (.inl hk)
    obtain ⟨w', z⟩ := I.cell x c hc
    refine wpAny_storeName_cell I.ok.kind hk hc z (fun h' hc' hs => ?_)
    obtain ⟨oc, hoc, hocd⟩ := id z
    refine h { s with heap := h' } ⟨I.ok, I.os, I.bare, ⟨fun b o e n hb hx => ?_, fun b o e n hb hx => ?_, I.base.free, fun b o e hx => ?_, I.base.tups, I.base.frzs, I.base.tbls⟩, ⟨m, hn.sameBut hs (Ne.symm (cne x c hc)), fun j y v' e1 e2 e3 => ?_⟩, fun y c' e => ?_, I.free, I.freeC, fun p hp => ?_, tracked ⟨oc, hoc, I.freeC x c hc⟩ hs, by simpa using I.len⟩ ⟨c, hs, .inr hc⟩
    · exact (hs.2 b (Nat.ne_of_lt (Nat.lt_of_lt_of_le (Heap.lt_size e) (I.ok.cab x c hfn hc)))).trans (I.base.keep b o e n hb hx)
    · obtain ⟨sl, e1⟩ := I.base.slot b o e n hb hx
      exact ⟨sl, (hs.2 b (Nat.ne_of_lt (Nat.lt_of_lt_of_le (Heap.lt_size e) (I.ok.cab x c hfn hc)))).trans e1⟩
    · obtain ⟨o', e1⟩ := I.base.there b o e hx
      exact ⟨o', (hs.2 b (Nat.ne_of_lt (Nat.lt_of_lt_of_le (Heap.lt_size e) (I.ok.cab x c hfn hc)))).trans e1⟩
    · by_cases hj : j = i
      · subst hj
        rw [hi] at e1; cases e1
        rw [List.getElem?_set_self hiσ] at e2
        cases e2
        exact ⟨u, r, .inr ⟨.inl hk, c, hc, hc'⟩⟩
      · rw [List.getElem?_set_ne (Ne.symm hj)] at e2
        obtain ⟨u', r', q⟩ := hl j y v' e1 e2 e3
        refine ⟨u', r', ?_⟩
        rcases q with q | ⟨k, c', e, z'⟩
        · exact .inl q
        · refine .inr ⟨k, c', e, z'.sameBut hs ?_⟩
          rintro rfl
          exact hj (nodup_ix hN e1 (I.ok.inj _ _ _ e hc ▸ hi))
    · by_cases hcc : c' = c
      · subst hcc; exact ⟨_, hc'⟩
      · obtain ⟨w2, z2⟩ := I.cell y c' e
        exact ⟨w2, z2.sameBut hs hcc⟩
    · obtain ⟨e, n, ne, nf, d⟩ := I.pin p hp
      refine ⟨(hs.2 p.1 ?_).trans e, n, ne, nf, d⟩
      intro q
      rw [q, hoc] at e
      have q' : oc = p.2 := Option.some.inj e
      exact d w' (by rw [← q']; exact hocd)
theorem store_ok {M : Model} {A : Around} {E : Value → Shared → Prop} {i : Nat} {x : Str} {v : V} {u : Value} {Q : Unit → Shared → Prop} (I : Inv X pins σ H s) (hN : X.N.Nodup) (hi : X.N[i]? = some x) (hx : Loc X.env.scope x) (r : RelV v u)
    (h : ∀ s', Inv X pins (σ.set i (some v)) H s' → Q () s') (hf : X.fn x = true ∨ X.env.scope.names.lookup x = some .local := by first | exact .inl rfl | exact .inr rfl | assumption) : wpAny M A (storeName X.env x u) Q E s :=
  store_ok2 I hN hi hx r (fun s' I' _ => h s' I') hf
/-- behind a call or a block, the state as it is -/
theorem Inv.call' {s' : Shared} {ch : List Addr} (I : Inv X pins σ H s) (ho : s'.os = s.os) (u : Un (frs X.stack) ch H H' s.heap s'.heap) (hok : HOk X.prog X.w H' s'.heap) (hg : AllBare s'.gens)
    (hch : ∀ b ∈ ch, (b ∈ X.ex ∨ X.s₀.heap.objs.size ≤ b) ∧ b ≠ X.env.locals ∧ (∀ x c, X.env.cells.lookup x = some c → c ≠ b) ∧ ∀ p ∈ X.pn ++ pins, p.1 ≠ b) : Inv X pins σ H' s' := by
  obtain ⟨h', g', d', t', o'⟩ := s'
  have e : o' = s.os := ho
  subst e
  exact I.call (g' := g') (t' := t') (d' := d') u hok hg hch
end

/-! ### the judgements -/
/-- an exception: its class, its own dict's address (where it has one), the abstract heap behind it -/
abbrev XK := Value → Option Addr → Hp → Prop
abbrev St := List (Option V)
abbrev VK := V → Hp → Prop
/-- an expression's reading; a test's; an argument list's -/
abbrev TE := St → Hp → VK → Prop
abbrev TT := St → Hp → (Bool → Hp → Prop) → Prop
abbrev TA := St → Hp → (List V → Hp → Prop) → Prop
/-- what is wanted behind a statement -/
structure Ends where
  nx : St → Hp → Prop
  rt : VK
  bk : St → Hp → Prop := fun _ _ => False
  ct : St → Hp → Prop := fun _ _ => False
abbrev TS := Ends → St → Hp → Prop

def EP (X : Cx) (pins : List (Addr × Obj)) (σ : St) (Q : VK) (u : Value) (s' : Shared) : Prop := ∃ v H', Inv X pins σ H' s' ∧ RelV v u ∧ Q v H'
def TP (X : Cx) (pins : List (Addr × Obj)) (σ : St) (Q : Bool → Hp → Prop) (b : Bool) (s' : Shared) : Prop := ∃ H', Inv X pins σ H' s' ∧ Q b H'
def AP (X : Cx) (pins : List (Addr × Obj)) (σ : St) (Q : List V → Hp → Prop) (us : List Value) (s' : Shared) : Prop := ∃ vs H', Inv X pins σ H' s' ∧ Vals vs us ∧ Q vs H'
def SP (X : Cx) (pins : List (Addr × Obj)) (D : Ends) (f : Flow) (s' : Shared) : Prop :=
  match f with
  | .next => ∃ σ' H', Inv X pins σ' H' s' ∧ D.nx σ' H'
  | .brk => ∃ σ' H', Inv X pins σ' H' s' ∧ D.bk σ' H'
  | .cont => ∃ σ' H', Inv X pins σ' H' s' ∧ D.ct σ' H'
  | .ret u => ∃ v σ' H', Inv X pins σ' H' s' ∧ RelV v u ∧ D.rt v H'

def PE (X : Cx) (e : Expr) (t : TE) : Prop :=
  ∀ (pins : List (Addr × Obj)) (s : Shared) (σ : St) (H : Hp) (Q : VK), Inv X pins σ H s → t σ H Q → wpAny (model X.prog X.w) X.A (eval e X.env) (EP X pins σ Q) X.xe s
def PT (X : Cx) (e : Expr) (t : TT) : Prop :=
  ∀ (pins : List (Addr × Obj)) (s : Shared) (σ : St) (H : Hp) (Q : Bool → Hp → Prop), Inv X pins σ H s → t σ H Q → wpAny (model X.prog X.w) X.A (isTrue e X.env (eval e X.env)) (TP X pins σ Q) X.xe s
/-- a test whatever its 'whole' is (and, or) -/
def PW (X : Cx) (e : Expr) (t : TT) : Prop :=
  ∀ (whole : Sem Value) (pins : List (Addr × Obj)) (s : Shared) (σ : St) (H : Hp) (Q : Bool → Hp → Prop), Inv X pins σ H s → t σ H Q → wpAny (model X.prog X.w) X.A (isTrue e X.env whole) (TP X pins σ Q) X.xe s
theorem PW.pt {X : Cx} {e : Expr} {t : TT} (h : PW X e t) : PT X e t := h _
/-- an argument list (no star), from the left -/
def PA (X : Cx) (es : List Expr) (t : TA) : Prop :=
  ∀ (pos : Pos) (pins : List (Addr × Obj)) (s : Shared) (σ : St) (H : Hp) (Q : List V → Hp → Prop), Inv X pins σ H s → t σ H Q → wpAny (model X.prog X.w) X.A (spliced (backTo pos (starEach es X.env))) (AP X pins σ Q) X.xe s
def PS (X : Cx) (st : Stmt) (t : TS) : Prop :=
  ∀ (pins : List (Addr × Obj)) (s : Shared) (σ : St) (H : Hp) (D : Ends), Inv X pins σ H s → t D σ H → wpAny (model X.prog X.w) X.A (exec st X.env) (SP X pins D) X.xe s
def PSs (X : Cx) (st : List Stmt) (t : TS) : Prop :=
  ∀ (pins : List (Addr × Obj)) (s : Shared) (σ : St) (H : Hp) (D : Ends), Inv X pins σ H s → t D σ H → wpAny (model X.prog X.w) X.A (execs st X.env) (SP X pins D) X.xe s
/-- weaken the end -/
theorem thn {α : Type} {t : Sem α} {Q Q' : α → Shared → Prop} {M : Model} {A : Around} {E : Value → Shared → Prop} {s : Shared} (h : wpAny M A t Q E s) (hQ : ∀ a s, Q a s → Q' a s) : wpAny M A t Q' E s := wpAny_mono h hQ fun _ _ x => x
end L2

namespace L2
open PySem PySem.Spec PyProof.Rows
section
variable {X : Cx}

/-! ### names and constants -/
def tVar (i : Nat) : TE := fun σ H Q => ∃ v, σ[i]? = some (some v) ∧ Q v H
def tC (v : V) : TE := fun _ H Q => Q v H
theorem pe_var {i : Nat} {x : Str} {pos : Pos} (hN : X.N[i]? = some x) (hv : Vis X.env.scope x) (hd : (x == ("__debug__" : Str)) = false := by decide) (hcd : (x == ("__classdict__" : Str)) = false := by decide) : PE X (.Name x pos) (tVar i) := by
  intro pins s σ H Q I h
  obtain ⟨v, e, h⟩ := h
  obtain ⟨m, hn, hl⟩ := I.loc
  obtain ⟨u, r, l⟩ := hl i x v hN e hv
  have fin : EP X pins σ Q u s := ⟨v, H, I, r, h⟩
  rcases l with ⟨hk, hm⟩ | ⟨hk, c, hc, hcell⟩
  · exact wpAny_Name (wpAny_loadName_local I.ok.kind hk hn hm fin) hd
  · rcases hk with hk | hk
    · exact wpAny_Name (wpAny_loadName_cell I.ok.kind hk hc hcell fin) hd
    · exact wpAny_Name (wpAny_loadName_free I.ok.kind hk hc hcell fin hcd) hd
theorem pe_int {i j pos} : PE X (.Constant (.int i) j pos) (tC (.int i)) := fun _ _ _ H _ I h => wpAny_Constant_int ⟨.int i, H, I.tok _, ⟨_, rfl⟩, h⟩
theorem pe_bl {b j pos} : PE X (.Constant (.bool b) j pos) (tC (.bl b)) := fun _ _ _ H _ I h => Constant_bool ⟨.bl b, H, I, rfl, h⟩
theorem pe_str {x j pos} : PE X (.Constant (.str x) j pos) (tC (.str x)) := fun _ _ _ H _ I h => Calls.Constant_str ⟨.str x, H, I.tok _, ⟨_, rfl⟩, h⟩

/-- a global name of the def -/
def Gl (X : Cx) (x : Str) : Prop := X.env.kindOf x = some .globalImplicit
theorem ld_glob {E : Value → Shared → Prop} {pins : List (Addr × Obj)} {s : Shared} {σ : St} {H : Hp} {x : Str} {u : Value} {pos : Pos} {Q : Value → Shared → Prop} (I : Inv X pins σ H s) (hg : Gl X x) (hm : X.mg x = some u) (h : Q u s)
    (hd : (x == ("__debug__" : Str)) = false := by decide) : wpAny (model X.prog X.w) X.A (eval (.Name x pos) X.env) Q E s :=
  Calls.Name_function_global I.ok.kind hg (Calls.loadGlobal_global (by rw [I.ok.glob]; exact I.mod.glob.keeps I.bk) hm h) hd
theorem ld_blt {E : Value → Shared → Prop} {pins : List (Addr × Obj)} {s : Shared} {σ : St} {H : Hp} {x : Str} {u : Value} {pos : Pos} {Q : Value → Shared → Prop} (I : Inv X pins σ H s) (hg : Gl X x) (hm : X.mg x = none) (hv : bootBuiltins x = some u) (h : Q u s)
    (hn : x ≠ "__name__" := by decide) (hd : (x == ("__debug__" : Str)) = false := by decide) : wpAny (model X.prog X.w) X.A (eval (.Name x pos) X.env) Q E s := by
  obtain ⟨mb, h1, h2⟩ := I.mod.blt
  exact Calls.Name_function_global I.ok.kind hg (Calls.loadGlobal_builtin (by rw [I.ok.glob]; exact I.mod.glob.keeps I.bk) hm (by rw [I.ok.blt]; exact h1.keeps I.bk) ((h2 x hn).trans hv) h) hd
/-- a module's constant, a class, a function, as a value -/
theorem pe_glob {x : Str} {v : V} {u : Value} {pos : Pos} (hg : Gl X x) (hm : X.mg x = some u) (r : RelV v u) (hd : (x == ("__debug__" : Str)) = false := by decide) : PE X (.Name x pos) (tC v) :=
  fun _ _ _ H _ I h => ld_glob I hg hm ⟨v, H, I, r, h⟩ hd
theorem pe_bltn {x : Str} {v : V} {u : Value} {pos : Pos} (hg : Gl X x) (hm : X.mg x = none) (hv : bootBuiltins x = some u) (r : RelV v u) (hn : x ≠ "__name__" := by decide) (hd : (x == ("__debug__" : Str)) = false := by decide) : PE X (.Name x pos) (tC v) :=
  fun _ _ _ H _ I h => ld_blt I hg hm hv ⟨v, H, I, r, h⟩ hn hd

/-! ### arithmetic -/
/-- two ints -/
def t2I (ta tb : TE) (k : Int → Int → Hp → Prop) : St → Hp → Prop := fun σ H => ta σ H fun x H1 => tb σ H1 fun y H2 => ∃ i j, x = .int i ∧ y = .int j ∧ k i j H2
def tAdd (ta tb : TE) : TE := fun σ H Q => t2I ta tb (fun i j H2 => Q (.int (i + j)) H2) σ H
def tSub (ta tb : TE) : TE := fun σ H Q => t2I ta tb (fun i j H2 => Q (.int (i - j)) H2) σ H
/-- the left factor below 2^64 -/
def tMul (ta tb : TE) : TE := fun σ H Q => t2I ta tb (fun i j H2 => (-(2 ^ 64) < i ∧ i < 2 ^ 64) ∧ Q (.int (i * j)) H2) σ H
variable {a b : Expr} {ta tb : TE} {pos : Pos}
/-! ### comparisons -/
def PC (X : Cx) (op : CmpOp) (a b : Expr) (t : TE) : Prop :=
  ∀ (pins : List (Addr × Obj)) (s : Shared) (σ : St) (H : Hp) (Q : VK), Inv X pins σ H s → t σ H Q →
    wpAny (model X.prog X.w) X.A (eval a X.env) (fun v s₁ => wpAny (model X.prog X.w) X.A (eval b X.env) (fun u s₂ => wpAny (model X.prog X.w) X.A (compareOp op v u) (EP X pins σ Q) X.xe s₂) X.xe s₁) X.xe s
def tCmp (p : Int → Int → Bool) (ta tb : TE) : TE := fun σ H Q => t2I ta tb (fun i j H2 => Q (.bl (p i j)) H2) σ H
abbrev tLt : TE → TE → TE := tCmp fun i j => decide (i < j)
abbrev tLe : TE → TE → TE := tCmp fun i j => decide (i ≤ j)
abbrev tGt : TE → TE → TE := tCmp fun i j => decide (j < i)
abbrev tGe : TE → TE → TE := tCmp fun i j => decide (j ≤ i)
abbrev tEqI : TE → TE → TE := tCmp fun i j => decide (i = j)
abbrev tNeI : TE → TE → TE := tCmp fun i j => !decide (i = j)
/-- is None -/
def tIsN (ta : TE) : TE := fun σ H Q => ta σ H fun x H1 => Q (.bl (decide (x = .non))) H1
def tNotN (ta : TE) : TE := fun σ H Q => ta σ H fun x H1 => Q (.bl (!decide (x = .non))) H1
/-- a comparison as a value, as a test -/
def tB (t : TE) : TT := fun σ H Q => t σ H fun x H1 => ∃ c, x = .bl c ∧ Q c H1
/-- an expression whose value is a bool, as a test -/
theorem pt_val {e : Expr} {t : TE} (h : PE X e t) (he : ∀ whole, isTrue e X.env whole = (do let v ← whole; standAt e.pos; holding [v] (truthy v)) := by intro _; rfl) : PT X e (tB t) := by
  intro pins s σ H Q I hw
  refine isTrue_plain (thn (h pins s σ H _ I hw) fun v s1 ⟨x, H1, I1, r1, q1⟩ => ?_) (he _)
  obtain ⟨d, rfl, q⟩ := q1
  cases r1
  exact wpAny_truthy_bool ⟨H1, I1, q⟩

/-! ### and, or, not -/
variable {tA tB' : TT} {rest : List Expr}
def tAnd (t u : TT) : TT := fun σ H Q => t σ H fun c H1 => if c = true then u σ H1 Q else Q false H1
def tOr (t u : TT) : TT := fun σ H Q => t σ H fun c H1 => if c = true then Q true H1 else u σ H1 Q
def tNot (t : TT) : TT := fun σ H Q => t σ H fun c H1 => Q (!c) H1
theorem pw_and1 (ha : PT X a tA) : PW X (.BoolOp .And [a] pos) tA := by
  intro wh pins s σ H Q I h
  refine isTrue_and (thn (ha pins s σ H Q I h) fun c s1 e => ?_)
  cases c with
  | true => exact isTrue_and_nil e
  | false => exact e
theorem pw_or1 (ha : PT X a tA) : PW X (.BoolOp .Or [a] pos) tA := by
  intro wh pins s σ H Q I h
  refine isTrue_or (thn (ha pins s σ H Q I h) fun c s1 e => ?_)
  cases c with
  | false => exact isTrue_or_nil e
  | true => exact e
theorem pw_and (ha : PT X a tA) (hb : PW X (.BoolOp .And (b :: rest) pos) tB') : PW X (.BoolOp .And (a :: b :: rest) pos) (tAnd tA tB') := by
  intro wh pins s σ H Q I h
  refine isTrue_and (thn (ha pins s σ H _ I h) fun c s1 ⟨H1, I1, q1⟩ => ?_)
  cases c with
  | true => exact hb wh pins s1 σ H1 Q I1 q1
  | false => exact ⟨H1, I1, q1⟩
theorem pw_or (ha : PT X a tA) (hb : PW X (.BoolOp .Or (b :: rest) pos) tB') : PW X (.BoolOp .Or (a :: b :: rest) pos) (tOr tA tB') := by
  intro wh pins s σ H Q I h
  refine isTrue_or (thn (ha pins s σ H _ I h) fun c s1 ⟨H1, I1, q1⟩ => ?_)
  cases c with
  | true => exact ⟨H1, I1, q1⟩
  | false => exact hb wh pins s1 σ H1 Q I1 q1
theorem pt_not (ha : PT X a tA) : PT X (.UnaryOp .Not a pos) (tNot tA) := by
  intro pins s σ H Q I h
  exact isTrue_not (ha pins s σ H (fun c H1 => Q (!c) H1) I h)
/-- .. as values (bools) -/
def tAndV (ta tb : TE) : TE := fun σ H Q => ta σ H fun x H1 => ∃ c, x = .bl c ∧ if c = true then tb σ H1 Q else Q (.bl false) H1
def tOrV (ta tb : TE) : TE := fun σ H Q => ta σ H fun x H1 => ∃ c, x = .bl c ∧ if c = true then Q (.bl true) H1 else tb σ H1 Q
def tNotV (ta : TE) : TE := fun σ H Q => ta σ H fun x H1 => ∃ c, x = .bl c ∧ Q (.bl (!c)) H1
theorem pe_one {op} {t : TE} (h : PE X a t) : PE X (.BoolOp op [a] pos) t := fun pins s σ H Q I hw => BoolOp_one (h pins s σ H Q I hw)
theorem pe_and (ha : PE X a ta) (hb : PE X (.BoolOp .And (b :: rest) pos) tb) : PE X (.BoolOp .And (a :: b :: rest) pos) (tAndV ta tb) := by
  intro pins s σ H Q I h
  refine BoolOp_and (thn (ha pins s σ H _ I h) fun v s1 ⟨x, H1, I1, r1, q1⟩ => ?_)
  obtain ⟨c, rfl, q1⟩ := q1
  cases r1
  refine wpAny_truthy_bool ?_
  cases c with
  | true => exact hb pins s1 σ H1 Q I1 q1
  | false => exact ⟨.bl false, H1, I1, rfl, q1⟩
theorem pe_or (ha : PE X a ta) (hb : PE X (.BoolOp .Or (b :: rest) pos) tb) : PE X (.BoolOp .Or (a :: b :: rest) pos) (tOrV ta tb) := by
  intro pins s σ H Q I h
  refine BoolOp_or (thn (ha pins s σ H _ I h) fun v s1 ⟨x, H1, I1, r1, q1⟩ => ?_)
  obtain ⟨c, rfl, q1⟩ := q1
  cases r1
  refine wpAny_truthy_bool ?_
  cases c with
  | false => exact hb pins s1 σ H1 Q I1 q1
  | true => exact ⟨.bl true, H1, I1, rfl, q1⟩
theorem pe_not (ha : PE X a ta) : PE X (.UnaryOp .Not a pos) (tNotV ta) := by
  intro pins s σ H Q I h
  refine UnaryOp_ (thn (ha pins s σ H _ I h) fun v s1 ⟨x, H1, I1, r1, q1⟩ => ?_)
  obtain ⟨c, rfl, q1⟩ := q1
  cases r1
  exact not_of (wpAny_truthy_bool ⟨.bl (!c), H1, I1, rfl, q1⟩)
/-- a if t else b -/
def tIf (t : TT) (ta tb : TE) : TE := fun σ H Q => t σ H fun c H1 => if c = true then ta σ H1 Q else tb σ H1 Q
end
end L2

namespace L2
open PySem PySem.Spec PyProof.Rows

/-! ### a list, a tuple that is read: tracked, frozen, or an object of the module -/
def SqL (K : PySem.W.Frag) (H : Hp) (a : Addr) (xs : List V) : Prop :=
  Rd H a (.lst xs) ∨
    ∃ (o : Obj) (its : Array Value) (n : Nat), K.lookup a = some o ∧ o.cls = .type "list" ∧ o.dict = none ∧ o.data = .seq its n ∧ its.size ≤ sizeLine ∧ Vals xs its.toList
def SqT (K : PySem.W.Frag) (H : Hp) (a : Addr) (xs : List V) : Prop :=
  Rd H a (.tup xs) ∨
    ∃ (o : Obj) (its : Array Value) (n : Nat), K.lookup a = some o ∧ o.cls = .type "tuple" ∧ o.data = .seq its n ∧ its.size ≤ sizeLine ∧ Vals xs its.toList
def absV : Value → Option V
  | .none => some .non
  | .bool b => some (.bl b)
  | .int i _ => some (.int i)
  | .str x _ => some (.str x)
  | .bytes b _ => some (.byt b)
  | .float b _ => some (.flt b)
  | .ref a => some (.ref a)
  | .type n => some (.ty n)
  | _ => none
theorem RelV.abs {x : V} {u : Value} (r : RelV x u) : absV u = some x := by
  cases x with
  | non => cases r; rfl
  | bl _ => cases r; rfl
  | int _ => obtain ⟨t, rfl⟩ := r; rfl
  | str _ => obtain ⟨t, rfl⟩ := r; rfl
  | byt _ => obtain ⟨t, rfl⟩ := r; rfl
  | flt _ => obtain ⟨t, rfl⟩ := r; rfl
  | ref _ => cases r; rfl
  | ty _ => cases r; rfl
theorem RelV.inj {x y : V} {u : Value} (r : RelV x u) (q : RelV y u) : x = y := Option.some.inj (r.abs.symm.trans q.abs)
theorem Vals.inj : ∀ {xs ys : List V} {us : List Value}, Vals xs us → Vals ys us → xs = ys
  | _, _, _, .nil, .nil => rfl
  | _, _, _, .cons r t, .cons r' t' => by rw [r.inj r', Vals.inj t t']
section
variable {X : Cx} {pins : List (Addr × Obj)} {σ : St} {H : Hp} {s : Shared} {a : Addr} {xs ys : List V}
theorem SqL.of {K : PySem.W.Frag} (h : H a = some (.lst xs)) : SqL K H a xs := .inl (.inl h)
theorem SqT.of {K : PySem.W.Frag} (h : H a = some (.tup xs)) : SqT K H a xs := .inl (.inl h)
theorem Inv.list (I : Inv X pins σ H s) (h : SqL X.K H a xs) : ∃ its : List Value, Vals xs its ∧ PlainL s.heap a its.toArray ∧ xs.length ≤ sizeLine := by
  rcases h with h | ⟨o, its, n, hk, hc, hd, hs, hz, r⟩
  · obtain ⟨z, its, n, r, e⟩ := h.ok I.hok
    exact ⟨its, r, ⟨_, n, e, rfl, rfl, rfl⟩, z⟩
  · refine ⟨its.toList, r, ⟨o, n, I.kIn a o hk, hc, hd, by simpa using hs⟩, ?_⟩
    have e := r.length
    simp only [Array.length_toList] at e
    omega
theorem Inv.tuple (I : Inv X pins σ H s) (h : SqT X.K H a xs) : ∃ its : List Value, Vals xs its ∧ IsTup s.heap a its.toArray ∧ xs.length ≤ sizeLine := by
  rcases h with h | ⟨o, its, n, hk, hc, hs, hz, r⟩
  · obtain ⟨z, its, r, p⟩ := h.ok I.hok
    exact ⟨its, r, p, z⟩
  · refine ⟨its.toList, r, ⟨o, I.kIn a o hk, hc, n, by simpa using hs⟩, ?_⟩
    have e := r.length
    simp only [Array.length_toList] at e
    omega
theorem Inv.list_inj (I : Inv X pins σ H s) (h : SqL X.K H a xs) (h' : SqL X.K H a ys) : xs = ys := by
  obtain ⟨its, r, ⟨o, n, e, _, _, d⟩, _⟩ := I.list h
  obtain ⟨its', r', ⟨o', n', e', _, _, d'⟩, _⟩ := I.list h'
  rw [e] at e'; cases e'
  rw [d] at d'
  injection d' with d1 _
  have : its = its' := by simpa using congrArg Array.toList d1
  subst this
  exact r.inj r'
end

/-! ### another wish about exceptions -/
abbrev Cx.wish (X : Cx) (E : Value → Shared → Prop) : Cx := { X with xe := E }
/-- no exception leaves -/
abbrev Cx.nox (X : Cx) : Cx := X.wish fun _ _ => False
theorem Cx.Ok.wish {X : Cx} (ok : X.Ok) (E : Value → Shared → Prop) : (X.wish E).Ok :=
  ⟨ok.mod, ok.kind, ok.glob, ok.blt, ok.above, ok.inj, ok.has, ok.cab, ok.hd, ok.frames, ok.stk, ok.exf, ok.bs, ok.bsz, ok.noex, ok.exfs, ok.funs, ok.frf⟩
theorem Cx.Ok.unwish {X : Cx} {E : Value → Shared → Prop} (ok : (X.wish E).Ok) : X.Ok :=
  ⟨ok.mod, ok.kind, ok.glob, ok.blt, ok.above, ok.inj, ok.has, ok.cab, ok.hd, ok.frames, ok.stk, ok.exf, ok.bs, ok.bsz, ok.noex, ok.exfs, ok.funs, ok.frf⟩
section
variable {X : Cx} {pins : List (Addr × Obj)} {σ : St} {H : Hp} {s : Shared} {E : Value → Shared → Prop}
theorem Inv.wish (I : Inv X pins σ H s) (E : Value → Shared → Prop) : Inv (X.wish E) pins σ H s := ⟨I.ok.wish E, I.os, I.bare, I.base, I.loc, I.cell, I.free, I.freeC, I.pin, I.hok, I.len⟩
theorem Inv.unwish (I : Inv (X.wish E) pins σ H s) : Inv X pins σ H s := ⟨I.ok.unwish, I.os, I.bare, I.base, I.loc, I.cell, I.free, I.freeC, I.pin, I.hok, I.len⟩
theorem SP.unwish {D : Ends} {f : Flow} {s' : Shared} (h : SP (X.wish E) pins D f s') : SP X pins D f s' := by
  cases f with
  | next => obtain ⟨σ', H', I, q⟩ := h; exact ⟨σ', H', I.unwish, q⟩
  | brk => obtain ⟨σ', H', I, q⟩ := h; exact ⟨σ', H', I.unwish, q⟩
  | cont => obtain ⟨σ', H', I, q⟩ := h; exact ⟨σ', H', I.unwish, q⟩
  | ret u => obtain ⟨v, σ', H', I, r, q⟩ := h; exact ⟨v, σ', H', I.unwish, r, q⟩
theorem PE.nox {e : Expr} {t : TE} (h : PE X.nox e t) : PE X e t := fun pins s σ H Q I hw =>
  wpAny_mono (h pins s σ H Q (I.wish _) hw) (fun _ _ ⟨v, H', I', r, q⟩ => ⟨v, H', I'.unwish, r, q⟩) fun _ _ z => False.elim z
theorem PT.nox {e : Expr} {t : TT} (h : PT X.nox e t) : PT X e t := fun pins s σ H Q I hw =>
  wpAny_mono (h pins s σ H Q (I.wish _) hw) (fun _ _ ⟨H', I', q⟩ => ⟨H', I'.unwish, q⟩) fun _ _ z => False.elim z
theorem PSs.nox {st : List Stmt} {t : TS} (h : PSs X.nox st t) : PSs X st t := fun pins s σ H D I hw =>
  wpAny_mono (h pins s σ H D (I.wish _) hw) (fun _ _ q => q.unwish) fun _ _ z => False.elim z
end

/-! ### blocks and small statements -/
section
variable {X : Cx} {st : Stmt} {rest : List Stmt} {t u : TS} {e : Expr} {te : TE} {pos : Pos}
def tNext : TS := fun D σ H => D.nx σ H
def tSeq (t u : TS) : TS := fun D σ H => t { D with nx := u D } σ H
theorem pss_nil : PSs X [] tNext := fun _ _ σ H _ I h => wpAny_execs_nil ⟨σ, H, I, h⟩
theorem pss_cons (h1 : PS X st t) (h2 : PSs X rest u) : PSs X (st :: rest) (tSeq t u) := by
  intro pins s σ H D I h
  refine wpAny_execs_cons (thn (h1 pins s σ H { D with nx := u D } I h) fun f s1 q => ?_)
  cases f with
  | next =>
    obtain ⟨σ', H', I', q⟩ := q
    exact h2 pins s1 σ' H' D I' q
  | ret v => exact q
  | brk => exact q
  | cont => exact q
theorem pss_one (h1 : PS X st t) : PSs X [st] t := by
  intro pins s σ H D I h
  refine wpAny_execs_cons (thn (h1 pins s σ H D I h) fun f s1 q => ?_)
  cases f with
  | next => exact wpAny_execs_nil q
  | ret v => exact q
  | brk => exact q
  | cont => exact q
def tBreak : TS := fun D σ H => D.bk σ H
def tCont : TS := fun D σ H => D.ct σ H
/-- in a def's body nothing is shown -/
theorem Inv.quiet {pins : List (Addr × Obj)} {σ : St} {H : Hp} {s : Shared} (I : Inv X pins σ H s) : interactive X.env = false := by simp [interactive, I.ok.kind]
/-- an expression whose value is dropped -/
def tDrop (te : TE) : TS := fun D σ H => te σ H fun _ H1 => D.nx σ H1
theorem ps_expr (he : PE X e te) (hs : swapsWith e none pos.line X.env = pure false := by rfl) : PS X (.Expr e pos) (tDrop te) := by
  intro pins s σ H D I h
  exact wpAny_Expr_any (thn (he pins s σ H _ I h) fun v s1 ⟨x, H1, I1, r1, q1⟩ => ⟨σ, H1, I1, q1⟩) I.quiet hs
def tRet (te : TE) : TS := fun D σ H => te σ H D.rt
theorem ps_ret (he : PE X e te) : PS X (.Return (some e) pos) (tRet te) := by
  intro pins s σ H D I h
  exact wpAny_Return_some (thn (he pins s σ H _ I h) fun v s1 ⟨x, H1, I1, r1, q1⟩ => ⟨x, σ, H1, I1, r1, q1⟩)
def tRetN : TS := fun D _ H => D.rt .non H
def tIfS (c : TT) (t u : TS) : TS := fun D σ H => c σ H fun b H1 => if b = true then t D σ H1 else u D σ H1
theorem ps_if {c : Expr} {a b : List Stmt} {tc : TT} (hc : PT X c tc) (ha : PSs X a t) (hb : PSs X b u) : PS X (.If c a b pos) (tIfS tc t u) := by
  intro pins s σ H D I h
  refine wpAny_If (thn (hc pins s σ H _ I h) fun d s1 ⟨H1, I1, q1⟩ => ?_)
  cases d with
  | true => exact ha pins s1 σ H1 D I1 q1
  | false => exact hb pins s1 σ H1 D I1 q1
/-- code that the proof never comes to -/
def tNever : TS := fun _ _ _ => False
end

/-! ### targets -/
abbrev TG := V → St → Hp → (St → Hp → Prop) → Prop
abbrev TGs := List V → St → Hp → (St → Hp → Prop) → Prop
def PG (X : Cx) (target : Expr) (t : TG) : Prop :=
  ∀ (pins : List (Addr × Obj)) (s : Shared) (σ : St) (H : Hp) (v : V) (u : Value) (Q : St → Hp → Prop), Inv X pins σ H s → RelV v u → t v σ H Q →
    wpAny (model X.prog X.w) X.A (assign target X.env u) (fun _ s' => ∃ σ' H', Inv X pins σ' H' s' ∧ Q σ' H') X.xe s
/-- several targets, one after another -/
def PGs (X : Cx) (ts : List Expr) (t : TGs) : Prop :=
  ∀ (pins : List (Addr × Obj)) (s : Shared) (σ : St) (H : Hp) (vs : List V) (us : List Value) (Q : St → Hp → Prop), Inv X pins σ H s → Vals vs us → t vs σ H Q →
    wpAny (model X.prog X.w) X.A (assignInOrder ((assignEach ts X.env).map (·.2)) us) (fun _ s' => ∃ σ' H', Inv X pins σ' H' s' ∧ Q σ' H') X.xe s
/-- o[i] = v, by values -/
abbrev TSet := V → V → V → Hp → (Hp → Prop) → Prop
def PSet (X : Cx) (t : TSet) : Prop :=
  ∀ (pins : List (Addr × Obj)) (s : Shared) (σ : St) (H : Hp) (o i v : V) (ov iv u : Value) (Q : Hp → Prop), Inv X pins σ H s → RelV o ov → RelV i iv → RelV v u → t o i v H Q →
    wpAny (model X.prog X.w) X.A (setItem ov iv u) (fun _ s' => ∃ H', Inv X pins σ H' s' ∧ Q H') X.xe s
/-- a op= b, by values -/
abbrev TIp := V → V → Hp → VK → Prop
def PIp (X : Cx) (op : Operator) (t : TIp) : Prop :=
  ∀ (pins : List (Addr × Obj)) (s : Shared) (σ : St) (H : Hp) (x y : V) (v u : Value) (Q : VK), Inv X pins σ H s → RelV x v → RelV y u → t x y H Q →
    wpAny (model X.prog X.w) X.A (inplaceOp op v u) (EP X pins σ Q) X.xe s
section
variable {X : Cx} {pos : Pos}
def gName (i : Nat) : TG := fun v σ H Q => Q (σ.set i (some v)) H
theorem pg_name {i : Nat} {x : Str} (hN : X.N.Nodup) (hi : X.N[i]? = some x) (hx : Loc X.env.scope x) (hf : X.fn x = true ∨ X.env.scope.names.lookup x = some .local := by first | exact .inl rfl | exact .inr rfl | assumption) : PG X (.Name x pos) (gName i) := by
  intro pins s σ H v u Q I r h
  exact wpAny_assign_Name (store_ok I hN hi hx r (fun s' I' => ⟨_, H, I', h⟩) hf)
def gNil : TGs := fun vs σ H Q => vs = [] ∧ Q σ H
def gCons (t : TG) (u : TGs) : TGs := fun vs σ H Q => ∃ v r, vs = v :: r ∧ t v σ H fun σ' H' => u r σ' H' Q
/-- (a, b, ..) = a tuple of that length -/
def gTup (K : PySem.W.Frag) (n : Nat) (t : TGs) : TG := fun v σ H Q => ∃ a xs, v = .ref a ∧ SqT K H a xs ∧ xs.length = n ∧ t xs σ H Q
/-- o[i] = .. -/
def gSub (to ti : TE) (t : TSet) : TG := fun v σ H Q => to σ H fun o H1 => ti σ H1 fun i H2 => t o i v H2 fun H3 => Q σ H3
theorem pg_sub {o i : Expr} {to ti : TE} {t : TSet} (ho : PE X o to) (hi : PE X i ti) (hs : PSet X t)
    (ha : ∀ v, assign (.Subscript o i pos) X.env v = (do
      let ov ← holding [v] (eval o X.env)
      let iv ← holding [v, ov] (eval i X.env)
      standAt pos
      holding [v, ov, iv] (setItem ov iv v)
      release [v, ov, iv] []) := by intro _; rfl) : PG X (.Subscript o i pos) (gSub to ti t) := by
  intro pins s σ H v u Q I r h
  rw [ha]
  refine wpAny_bind (wpAny_holding (thn (ho pins s σ H _ I h) fun ov s1 ⟨x, H1, I1, r1, q1⟩ => ?_))
  refine wpAny_bind (wpAny_holding (thn (hi pins s1 σ H1 _ I1 q1) fun iv s2 ⟨y, H2, I2, r2, q2⟩ => ?_))
  refine wpAny_bind (wpAny_standAt (wpAny_bind (wpAny_holding (thn (hs pins s2 σ H2 x y v ov iv u _ I2 r1 r2 r q2) fun _ s3 ⟨H3, I3, q3⟩ => ?_))))
  exact wpAny_release ⟨σ, H3, I3, q3⟩
/-- target = value -/
def tAsg (te : TE) (g : TG) : TS := fun D σ H => te σ H fun x H1 => g x σ H1 D.nx
theorem ps_asg {tg e : Expr} {te : TE} {g : TG} (he : PE X e te) (hg : PG X tg g) (hs : swapsWithSole [tg] e pos.line X.env = pure false := by rfl) (hw : swappedStores [tg] e X.env = pure none := by rfl)
    (h1 : (assignEach [tg] X.env).map (·.2) = [assign tg X.env] := by rfl) : PS X (.Assign [tg] e pos) (tAsg te g) := by
  intro pins s σ H D I h
  refine wpAny_Assign_stores (thn (he pins s σ H _ I h) fun v s1 ⟨x, H1, I1, r1, q1⟩ => ?_) hs hw
  rw [h1]
  exact thn (hg pins s1 σ H1 x v _ I1 r1 q1) fun _ s2 q => q
/-- name = value -/
theorem ps_set {i : Nat} {x : Str} {e : Expr} {te : TE} {pos' : Pos} (hN : X.N.Nodup) (hi : X.N[i]? = some x) (hx : Loc X.env.scope x) (he : PE X e te) (hs : swapsWith e (some (.Name x pos')) pos.line X.env = pure false := by rfl) (hf : X.fn x = true ∨ X.env.scope.names.lookup x = some .local := by first | exact .inl rfl | exact .inr rfl | assumption) :
    PS X (.Assign [.Name x pos'] e pos) (tAsg te (gName i)) := by
  intro pins s σ H D I h
  refine wpAny_Assign_Name (thn (he pins s σ H _ I h) fun v s1 ⟨y, H1, I1, r1, q1⟩ => ?_) hs
  exact store_ok I1 hN hi hx r1 (fun s2 I2 => ⟨_, H1, I2, q1⟩) hf
/-- a, b = x, y with plain local names: stored from the right; the pair itself is not tracked (the opening rows as in PyProof/Rows/TupAssign.lean:23) -/
def tPar (i j : Nat) (ta : TA) : TS := fun D σ H => ta σ H fun vs H1 => ∃ v w, vs = [v, w] ∧ D.nx ((σ.set i (some v)).set j (some w)) H1
/-- name op= e -/
def tAug (i : Nat) (te : TE) (ti : TIp) : TS := fun D σ H => ∃ x, σ[i]? = some (some x) ∧ te σ H fun y H1 => ti x y H1 fun z H2 => D.nx (σ.set i (some z)) H2
/-- o[i] op= e -/
def tAugS (to ti te : TE) (tget : V → V → Hp → VK → Prop) (tip : TIp) (tset : TSet) : TS := fun D σ H => to σ H fun o H1 => ti σ H1 fun i H2 => tget o i H2 fun x H3 => te σ H3 fun y H4 => tip x y H4 fun z H5 => tset o i z H5 fun H6 => D.nx σ H6
/-- o[i], by values -/
def PGet (X : Cx) (t : V → V → Hp → VK → Prop) : Prop :=
  ∀ (pins : List (Addr × Obj)) (s : Shared) (σ : St) (H : Hp) (o i : V) (ov iv : Value) (Q : VK), Inv X pins σ H s → RelV o ov → RelV i iv → t o i H Q →
    wpAny (model X.prog X.w) X.A (getItem ov iv) (EP X pins σ Q) X.xe s
/-- ints -/
def ipI (f : Int → Int → Int) : TIp := fun x y H Q => ∃ i j, x = .int i ∧ y = .int j ∧ Q (.int (f i j)) H
end

/-! ### while -/
section
variable {X : Cx} {pos : Pos}
/-- the invariant W with its measure -/
def tWhile (c : TT) (tb : TS) : TS := fun D σ H => ∃ W : Nat → St → Hp → Prop, (∃ m, W m σ H) ∧ ∀ m σ H, W m σ H →
  c σ H fun b H1 => if b = true then ∃ N : St → Hp → Prop, (∀ σ' H', N σ' H' → ∃ m', m' < m ∧ W m' σ' H') ∧ tb { D with nx := N, ct := N, bk := D.nx } σ H1 else D.nx σ H1
end

/-! ### what a loop or a comprehension walks -/
/-- at turn i: it yields x (the heap may grow), or it stops -/
structure It where
  go : Nat → Hp → Prop
  yld : Nat → Hp → V → Hp → Prop
  stop : Nat → Hp → Prop
/-- the iterator's own objects may turn: they are not the frame's, not pinned, younger than the entry (or a comprehension's own) -/
def FpOk (X : Cx) (pins : List (Addr × Obj)) (H : Hp) (b : Addr) : Prop :=
  H b = none ∧ b ≠ X.env.locals ∧ b ∉ X.fs ∧ (b ∈ X.ex ∨ X.s₀.heap.objs.size ≤ b) ∧ (∀ x c, X.env.cells.lookup x = some c → c ≠ b) ∧ ∀ p ∈ X.pn ++ pins, p.1 ≠ b
theorem Inv.fpOk {X : Cx} {pins : List (Addr × Obj)} {σ : St} {H H' : Hp} {s : Shared} {b : Addr} (I : Inv X pins σ H s) (hb : s.heap.objs.size ≤ b) (hn : H' b = none) : FpOk X pins H' b := by
  refine ⟨hn, Nat.ne_of_gt (Nat.lt_of_lt_of_le I.lt hb), I.nofs hb, .inr (Nat.le_trans I.sz hb), fun x c e z => ?_, fun p hp z => ?_⟩
  · obtain ⟨v, q⟩ := I.cell x c e
    exact absurd (Nat.lt_of_lt_of_le q.lt (by rw [z]; exact hb)) (Nat.lt_irrefl _)
  · exact absurd (Nat.lt_of_lt_of_le (Heap.lt_size (I.pin p hp).1) (by rw [z]; exact hb)) (Nat.lt_irrefl _)
structure Turn (P : Program) (w : World) (K : PySem.W.Frag) (tg : Expr) (J : It) (fp : List Addr) (it : Addr) (tn : Nat → Heap → Prop) : Prop where
  mem : it ∈ fp
  obj : ∀ i h, tn i h → ∀ b ∈ fp, ∃ o, h.get? b = some o ∧ ∀ v, o.data ≠ .cell v
  keep : ∀ i h h', tn i h → (∀ b ∈ fp, ∀ o, h.get? b = some o → h'.get? b = some o) → tn i h'
  item : ∀ (X : Cx), X.prog = P → X.w = w → X.K = K → X.calm = true → ∀ (i : Nat) (pins : List (Addr × Obj)) (s : Shared) (σ : St) (H : Hp) (E : Value → Shared → Prop), Inv X pins σ H s → (∀ b ∈ fp, FpOk X pins H b) → tn i s.heap → J.go i H →
    wpAny (model P w) X.A (pyNext (.ref it)) (fun r s1 => ∃ u, r = some u ∧
      wpAny (model P w) X.A (letOwnedTupleGo tg (.ref it) u) (fun _ s2 => ∃ x H', Inv X pins σ H' s2 ∧ RelV x u ∧ J.yld i H x H' ∧ tn (i + 1) s2.heap ∧ ∀ b ∈ fp, H' b = none) E s1) E s
  done : ∀ (X : Cx), X.prog = P → X.w = w → X.K = K → X.calm = true → ∀ (i : Nat) (pins : List (Addr × Obj)) (s : Shared) (σ : St) (H : Hp) (E : Value → Shared → Prop), Inv X pins σ H s → (∀ b ∈ fp, FpOk X pins H b) → tn i s.heap → J.stop i H →
    wpAny (model P w) X.A (pyNext (.ref it)) (fun r s1 => r = none ∧ Inv X pins σ H s1) E s
  self : ∀ (A : Around) (i : Nat) (s : Shared) (Q : Value → Shared → Prop) (E : Value → Shared → Prop), tn i s.heap → Q (.ref it) s → wpAny (model P w) A (pyIter (.ref it)) Q E s
abbrev TI := St → Hp → (It → Hp → Prop) → Prop
/-- an iterator has come -/
def PIE (X : Cx) (pins : List (Addr × Obj)) (σ : St) (tg : Expr) (R : It → Hp → Prop) (itv : Value) (s2 : Shared) : Prop :=
  ∃ (it : Addr) (fp : List Addr) (tn : Nat → Heap → Prop) (J : It) (H' : Hp), itv = .ref it ∧ Inv X pins σ H' s2 ∧ Turn X.prog X.w X.K tg J fp it tn ∧ tn 0 s2.heap ∧ (∀ b ∈ fp, FpOk X pins H' b) ∧ R J H'
def PI (X : Cx) (tg iter : Expr) (wi : TI) : Prop :=
  ∀ (pins : List (Addr × Obj)) (s : Shared) (σ : St) (H : Hp) (R : It → Hp → Prop), Inv X pins σ H s → wi σ H R →
    wpAny (model X.prog X.w) X.A (eval iter X.env) (fun v s1 => wpAny (model X.prog X.w) X.A (pyIter v) (PIE X pins σ tg R) X.xe s1) X.xe s

/-- the step ahead of the store is nothing for an iterator that keeps no tuple -/
theorem go_of {M : Model} {A : Around} {E : Value → Shared → Prop} {s : Shared} {tg : Expr} {it : Addr} {u : Value} {o : Obj} {n : String} {vs : Array Value} {Q : Unit → Shared → Prop} (ho : s.heap.get? it = some o) (hc : o.cls = .type n) (hd : o.data = .fields vs)
    (hn : ["enumerate", "zip", "dict_itemiterator", "dict_reverseitemiterator", "odict_iterator", "itertools.zip_longest", "itertools.pairwise"].contains n = false) (hQ : Q () s) : wpAny M A (letOwnedTupleGo tg (.ref it) u) Q E s := by
  unfold letOwnedTupleGo
  cases tg <;> first
    | exact wpAny_pure hQ
    | (cases u <;> first
        | exact wpAny_pure hQ
        | (refine wpAny_bind (wpAny_load ho ?_)
           rw [hc, hd]
           show wpAny M A (if (["enumerate", "zip", "dict_itemiterator", "dict_reverseitemiterator", "odict_iterator", "itertools.zip_longest", "itertools.pairwise"].contains n && vs[0]? == some (rawInt _)) = true then _ else _) Q E s
           rw [if_neg (by intro h; rw [hn, Bool.false_and] at h; cases h)]
           exact wpAny_pure hQ))

/-- the list at a, as it stands at each turn (a loop may append to it) -/
def Itl (K : PySem.W.Frag) (a : Addr) : It :=
  ⟨fun i H => ∃ xs x, SqL K H a xs ∧ xs[i]? = some x, fun i H x H' => H' = H ∧ ∀ xs, SqL K H a xs → xs[i]? = some x, fun i H => ∃ xs, SqL K H a xs ∧ xs.length ≤ i⟩
def Itt (K : PySem.W.Frag) (a : Addr) : It :=
  ⟨fun i H => ∃ xs x, SqT K H a xs ∧ xs[i]? = some x, fun i H x H' => H' = H ∧ ∀ xs, SqT K H a xs → xs[i]? = some x, fun i H => ∃ xs, SqT K H a xs ∧ xs.length ≤ i⟩
/-- lo, lo + 1, .. (n of them) -/
def Itr (lo : Int) (n : Nat) : It := ⟨fun i _ => i < n, fun i H x H' => H' = H ∧ x = .int (lo + i), fun i _ => n ≤ i⟩
theorem turn_list {P : Program} {w : World} {K : PySem.W.Frag} {tg : Expr} (a it : Addr) : Turn P w K tg (Itl K a) [it] it (fun i h => h.IsListIter it a i) where
  mem := by simp
  obj := fun i h st b hb => by
    have e : b = it := by simpa using hb
    subst e
    obtain ⟨o, e, c, d⟩ := st
    exact ⟨o, e, fun v z => by rw [d] at z; cases z⟩
  keep := fun i h h' st k => st.at fun o e => k it (by simp) o e
  item := by
    intro X hP hw hK hc i pins s σ H E I hf st hg
    subst hP hw hK
    obtain ⟨xs, x, hq, hx⟩ := hg
    obtain ⟨its, rv, p, hz⟩ := I.list hq
    obtain ⟨u, hu, ru⟩ := rv.get hx
    obtain ⟨f0, f1, f2, f3, f4, f5⟩ := hf it (by simp)
    refine wpAny_pyNext_list_item st p.isList (x := u) (by simpa using hu) fun h' st' sb => ?_
    have I1 : Inv X pins σ H { s with heap := h' } := I.turned (t' := s.toks) (fun b o hb e => (sb.2 b hb).trans e) f0 f1 f3 f4 f5
    obtain ⟨o, e, c, d⟩ := id st'
    exact ⟨u, rfl, go_of (s := { s with heap := h' }) e c d (by decide) ⟨x, H, I1, ru, ⟨rfl, fun ys hy => by rw [I.list_inj hy hq]; exact hx⟩, st', fun b hb => (hf b hb).1⟩⟩
  done := by
    intro X hP hw hK hc i pins s σ H E I hf st hg
    subst hP hw hK
    obtain ⟨xs, hq, hx⟩ := hg
    obtain ⟨its, rv, p, hz⟩ := I.list hq
    obtain ⟨f0, f1, f2, f3, f4, f5⟩ := hf it (by simp)
    have hl := rv.length
    exact wpAny_pyNext_list_end (I.ok.hd hc) st p.isList (by simp; omega) fun h' eb => ⟨rfl, I.turned (t' := s.toks) (fun b o hb e => eb b o hb e) f0 f1 f3 f4 f5⟩
  self := fun _ _ _ _ _ st h => wpAny_pyIter_listiter st h
theorem turn_range {P : Program} {w : World} {K : PySem.W.Frag} {tg : Expr} (it : Addr) (lo : Int) (n : Nat) : Turn P w K tg (Itr lo n) [it] it (fun i h => IsRangeIter h it (lo + (i : Nat) * 1) ((n : Int) - (i : Nat)) 1) where
  mem := by simp
  obj := fun i h st b hb => by
    have e : b = it := by simpa using hb
    subst e
    exact ⟨_, st, fun v z => by
      have z' : Data.fields _ = Data.cell v := z
      cases z'⟩
  keep := fun i h h' st k => k it (by simp) _ st
  item := by
    intro X hP hw hK hc i pins s σ H E I hf st hg
    subst hP hw hK
    obtain ⟨f0, f1, f2, f3, f4, f5⟩ := hf it (by simp)
    have W := Walks.range (prog := X.prog) (w := X.w) (I.ok.hd hc) it lo 1 n
    refine W.item i s _ _ hg st fun v h' tk hv st' kk => ?_
    obtain ⟨t, rfl⟩ := hv
    have I1 : Inv X pins σ H { s with heap := h', toks := tk } := I.turned (fun b o hb e => kk b o (by simpa using hb) e) f0 f1 f3 f4 f5
    refine ⟨_, rfl, go_of (s := { s with heap := h', toks := tk }) (n := "range_iterator") st' rfl rfl (by decide) ⟨.int (lo + i), H, I1, ⟨t, ?_⟩, ⟨rfl, rfl⟩, st', fun b hb => (hf b hb).1⟩⟩
    rw [Int.mul_one]
  done := by
    intro X hP hw hK hc i pins s σ H E I hf st hg
    subst hP hw hK
    obtain ⟨f0, f1, f2, f3, f4, f5⟩ := hf it (by simp)
    exact wpAny_pyNext_range_end (I.ok.hd hc) st (by have : n ≤ i := hg; omega) fun h' eb => ⟨rfl, I.turned (t' := s.toks) (fun b o hb e => eb b o hb e) f0 f1 f3 f4 f5⟩
  self := fun _ _ _ _ _ st h => wpAny_pyIter_rangeiter st h
end L2

namespace L2
open PySem PySem.Spec PyProof.Rows
section
variable {X : Cx} {tg : Expr}
def iList (K : PySem.W.Frag) (tl : TE) : TI := fun σ H R => tl σ H fun x H1 => ∃ a, x = .ref a ∧ (∃ xs, SqL K H1 a xs) ∧ R (Itl K a) H1
def iTup (K : PySem.W.Frag) (tl : TE) : TI := fun σ H R => tl σ H fun x H1 => ∃ a, x = .ref a ∧ (∃ xs, SqT K H1 a xs) ∧ R (Itt K a) H1
theorem pi_list {l : Expr} {tl : TE} (hl : PE X l tl) : PI X tg l (iList X.K tl) := by
  intro pins s σ H R I h
  refine thn (hl pins s σ H _ I h) fun v s1 ⟨x, H1, I1, r1, q1⟩ => ?_
  obtain ⟨a, e, ⟨xs, hq⟩, q⟩ := q1
  subst e
  cases r1
  obtain ⟨its, rv, p, hz⟩ := I1.list hq
  refine wpAny_pyIter_list p.isList ?_
  refine ⟨s1.heap.objs.size, [s1.heap.objs.size], _, _, H1, rfl, I1.kept (t' := s1.toks) fun b o e => Heap.get?_push_of_some _ e, turn_list a _, ⟨_, Heap.get?_push_size _ rfl, rfl, rfl⟩, fun b hb => ?_, q⟩
  have e : b = s1.heap.objs.size := by simpa using hb
  subst e
  exact I1.fpOk (Nat.le_refl _) (I1.hok.fresh (Nat.le_refl _))
/-- a range object just made, walked -/
theorem range_it {pins : List (Addr × Obj)} {σ : St} {H : Hp} {s : Shared} {R : It → Hp → Prop} {E : Value → Shared → Prop} {lo hi : Int} {t u v : Tok} {tk : Nat} (I : Inv X pins σ H s) (h1 : -(2 ^ 62) ≤ lo) (h2 : lo < 2 ^ 62) (h3 : -(2 ^ 62) ≤ hi) (h4 : hi < 2 ^ 62)
    (q : R (Itr lo (hi - lo).toNat) H) : wpAny (model X.prog X.w) X.A (pyIter (.ref s.heap.objs.size)) (PIE X pins σ tg R) E { s with heap := s.heap.push { cls := .type "range", data := .fields #[.int lo t, .int hi u, .int 1 v] }, toks := tk } := by
  refine wpAny_pyIter_range (IsRange.new ..) (small_one h1 h2 h3 h4) ?_
  have I1 : Inv X pins σ H { s with heap := s.heap.push { cls := .type "range", data := .fields #[.int lo t, .int hi u, .int 1 v] }, toks := tk } := I.kept fun b o e => Heap.get?_push_of_some _ e
  refine ⟨(s.heap.push { cls := .type "range", data := .fields #[.int lo t, .int hi u, .int 1 v] }).objs.size, [(s.heap.push { cls := .type "range", data := .fields #[.int lo t, .int hi u, .int 1 v] }).objs.size], _, _, H, rfl,
    I1.kept (t' := tk) fun b o e => Heap.get?_push_of_some _ e, turn_range _ lo (hi - lo).toNat, ?_, fun b hb => ?_, q⟩
  · have e1 : lo + ((0 : Nat) : Int) * 1 = lo := by simp
    have e2 : (((hi - lo).toNat : Nat) : Int) - ((0 : Nat) : Int) = Builtin.Range.rangeSize lo hi 1 := by rw [rangeSize_one]; split <;> omega
    show IsRangeIter _ _ (lo + ((0 : Nat) : Int) * 1) ((((hi - lo).toNat : Nat) : Int) - ((0 : Nat) : Int)) 1
    rw [e1, e2]
    exact Heap.get?_push_size _ rfl
  · have e : b = (s.heap.push { cls := .type "range", data := .fields #[.int lo t, .int hi u, .int 1 v] }).objs.size := by simpa using hb
    subst e
    exact I1.fpOk (Nat.le_refl _) (I1.hok.fresh (Nat.le_refl _))
def iRng1 (ta : TA) : TI := fun σ H R => ta σ H fun vs H1 => ∃ j : Int, vs = [.int j] ∧ -(2 ^ 62) ≤ j ∧ j < 2 ^ 62 ∧ R (Itr 0 j.toNat) H1
def iRng2 (ta : TA) : TI := fun σ H R => ta σ H fun vs H1 => ∃ i j : Int, vs = [.int i, .int j] ∧ (-(2 ^ 62) ≤ i ∧ i < 2 ^ 62 ∧ -(2 ^ 62) ≤ j ∧ j < 2 ^ 62) ∧ R (Itr i (j - i).toNat) H1
theorem pi_range1 {a : Expr} {ta : TA} {p pos : Pos} (hg : Gl X "range") (hm : X.mg "range" = none) (ha : PA X [a] ta) (hs : starEach [a] X.env = [(false, eval a X.env)] := by rfl) : PI X tg (.Call (.Name "range" p) [a] [] pos) (iRng1 ta) := by
  intro pins s σ H R I h
  refine Call_ (ld_blt I hg hm boot_range (PyProof.Rows.callWith_type1 (thn (ha pos pins s σ H _ I h) fun us s1 ⟨vs, H1, I1, r1, q1⟩ => ?_) hs rfl))
  obtain ⟨j, e, q1, q2, q⟩ := q1
  subst e
  cases r1 with
  | cons r rr =>
    cases rr
    obtain ⟨t, rfl⟩ := r
    exact call_range_1 (range_it I1 (by omega) (by omega) q1 q2 (by simpa using q))
/-! ### for -/
/-- W: the invariant by the turn and a measure; N: what the body is to reach -/
def tFor (wi : TI) (g : TG) (tb : TS) : TS := fun D σ H => wi σ H fun J H1 => ∃ W : Nat → Nat → St → Hp → Prop, (∃ m, W 0 m σ H1) ∧ ∀ i m σ H, W i m σ H →
  (J.stop i H ∧ D.nx σ H) ∨ (J.go i H ∧ ∃ N : St → Hp → Prop, (∀ σ' H', N σ' H' → ∃ m', m' < m ∧ W (i + 1) m' σ' H') ∧ ∀ x H', J.yld i H x H' → g x σ H' fun σ2 H2 => tb { D with nx := N, ct := N, bk := D.nx } σ2 H2)
/-- the records at fp as they stand -/
def pinsAt (fp : List Addr) (h : Heap) : List (Addr × Obj) := fp.filterMap fun b => (h.get? b).map fun o => (b, o)
theorem mem_pinsAt {fp : List Addr} {h : Heap} {b : Addr} {o : Obj} (hb : b ∈ fp) (e : h.get? b = some o) : (b, o) ∈ pinsAt fp h := List.mem_filterMap.mpr ⟨b, hb, by rw [e]; rfl⟩
theorem of_pinsAt {fp : List Addr} {h : Heap} {p : Addr × Obj} (hp : p ∈ pinsAt fp h) : p.1 ∈ fp ∧ h.get? p.1 = some p.2 := by
  obtain ⟨b, hb, e⟩ := List.mem_filterMap.mp hp
  cases q : h.get? b with
  | none => rw [q] at e; cases e
  | some o =>
    rw [q] at e
    have e' : (b, o) = p := Option.some.inj e
    subst e'
    exact ⟨hb, q⟩
theorem Inv.pinned {pins : List (Addr × Obj)} {σ : St} {H : Hp} {s : Shared} {fp : List Addr} (I : Inv X pins σ H s) (hf : ∀ b ∈ fp, FpOk X pins H b) (ho : ∀ b ∈ fp, ∃ o, s.heap.get? b = some o ∧ ∀ v, o.data ≠ .cell v) : Inv X (pins ++ pinsAt fp s.heap) σ H s :=
  I.pins_of fun p hp => (List.mem_append.mp hp).elim (fun z => I.pin p (List.mem_append_right _ z)) fun z => by
    obtain ⟨hb, e⟩ := of_pinsAt z
    obtain ⟨f0, f1, f2, _⟩ := hf p.1 hb
    obtain ⟨o, e', d⟩ := ho p.1 hb
    rw [e] at e'; cases e'
    exact ⟨e, f0, f1, f2, d⟩
theorem Inv.unpinned {pins pl : List (Addr × Obj)} {σ : St} {H : Hp} {s : Shared} (I : Inv X (pins ++ pl) σ H s) : Inv X pins σ H s := I.pins_of fun p hp => I.pin p (List.mem_append_right _ (List.mem_append_left _ hp))
theorem ps_for {iter : Expr} {body : List Stmt} {wi : TI} {g : TG} {tb : TS} {pos : Pos} (hp : PassesOwn (model X.prog X.w) X.A X.env X.xe) (hc : X.calm = true) (hi : PI X tg iter wi) (hg : PG X tg g) (hb : PSs X body tb)
    (hs : ∀ x, foldedSetIterable iter X.env x = pure x := by intro _; rfl) : PS X (.For tg iter body [] pos) (tFor wi g tb) := by
  intro pins s σ H D I h
  refine wpAny_For (thn (hi pins s σ H _ I h) fun v s1 h1 => thn h1 fun itv s2 h2 => ?_) hs
  obtain ⟨it, fp, tn, J, H2, e, I2, T, st2, f2, W, ⟨m0, w0⟩, turn⟩ := h2
  subst e
  -- what stays true of the iterator's objects through the loop
  have stat : ∀ {H' : Hp}, (∀ b ∈ fp, H' b = none) → ∀ b ∈ fp, FpOk X pins H' b := fun hn b hb => ⟨hn b hb, (f2 b hb).2⟩
  refine codeAny_forLoop_any (fun n s' => ∃ i σ' H', Inv X pins σ' H' s' ∧ tn i s'.heap ∧ (∀ b ∈ fp, H' b = none) ∧ W i n σ' H') ?_ m0 ⟨0, σ, H2, I2, st2, fun b hb => (f2 b hb).1, w0⟩
  rintro n s3 ⟨i, σ3, H3, I3, st3, fr3, w3⟩
  rcases turn i n σ3 H3 w3 with ⟨stop, qn⟩ | ⟨go, N, hN, step⟩
  · refine wpAny_passesOwn hp (thn (T.done X rfl rfl rfl hc i pins s3 σ3 H3 X.xe I3 (stat fr3) st3 stop) fun r s4 ⟨hr, I4⟩ => ?_)
    subst hr
    exact wpAny_execs_nil ⟨σ3, H3, I4, qn⟩
  · refine wpAny_passesOwn hp (thn (T.item X rfl rfl rfl hc i pins s3 σ3 H3 X.xe I3 (stat fr3) st3 go) fun r s4 ⟨u, hr, h4⟩ => ?_)
    subst hr
    refine wpAny_passesOwn hp (thn h4 fun _ s5 ⟨x, H5, I5, r5, y5, st5, fr5⟩ => ?_)
    have I5' := I5.pinned (stat fr5) (T.obj _ _ st5)
    refine wpAny_passesOwn hp (thn (hg _ s5 σ3 H5 x u _ I5' r5 (step x H5 y5)) fun _ s6 ⟨σ6, H6, I6, q6⟩ => ?_)
    refine wpAny_passesOwn hp (thn (hb _ s6 σ6 H6 _ I6 q6) fun f s7 q7 => ?_)
    have again : ∀ {σ7 : St} {H7 : Hp}, Inv X (pins ++ pinsAt fp s5.heap) σ7 H7 s7 → N σ7 H7 → ∃ m, m < n ∧ ∃ i σ' H', Inv X pins σ' H' s7 ∧ tn i s7.heap ∧ (∀ b ∈ fp, H' b = none) ∧ W i m σ' H' := fun {σ7 H7} I7 n7 => by
      obtain ⟨m', hm, w7⟩ := hN σ7 H7 n7
      refine ⟨m', hm, i + 1, σ7, H7, I7.unpinned, T.keep _ _ _ st5 fun b hb o e => (I7.pin (b, o) (List.mem_append_right _ (List.mem_append_right _ (mem_pinsAt hb e)))).1, fun b hb => ?_, w7⟩
      obtain ⟨o, e, d⟩ := T.obj _ _ st5 b hb
      exact (I7.pin (b, o) (List.mem_append_right _ (List.mem_append_right _ (mem_pinsAt hb e)))).2.1
    cases f with
    | next => obtain ⟨σ7, H7, I7, n7⟩ := q7; exact again I7 n7
    | cont => obtain ⟨σ7, H7, I7, n7⟩ := q7; exact again I7 n7
    | brk => obtain ⟨σ7, H7, I7, q7⟩ := q7; exact ⟨σ7, H7, I7.unpinned, q7⟩
    | ret v => obtain ⟨x7, σ7, H7, I7, r7, q7⟩ := q7; exact ⟨x7, σ7, H7, I7.unpinned, r7, q7⟩
end

/-! ### the forms one uses -/
theorem for_range {lo : Int} {n : Nat} {g : TG} {tb : TS} {D : Ends} {σ : St} {H : Hp} (Pv : Nat → St → Hp → Prop) (h0 : Pv 0 σ H)
    (hs : ∀ i σ H, i < n → Pv i σ H → g (.int (lo + i)) σ H fun σ2 H2 => tb { D with nx := Pv (i + 1), ct := Pv (i + 1), bk := D.nx } σ2 H2) (hd : ∀ σ H, Pv n σ H → D.nx σ H) :
    ∃ W : Nat → Nat → St → Hp → Prop, (∃ m, W 0 m σ H) ∧ ∀ i m σ H, W i m σ H →
      ((Itr lo n).stop i H ∧ D.nx σ H) ∨ ((Itr lo n).go i H ∧ ∃ N : St → Hp → Prop, (∀ σ' H', N σ' H' → ∃ m', m' < m ∧ W (i + 1) m' σ' H') ∧ ∀ x H', (Itr lo n).yld i H x H' → g x σ H' fun σ2 H2 => tb { D with nx := N, ct := N, bk := D.nx } σ2 H2) := by
  refine ⟨fun i m σ H => m = n - i ∧ i ≤ n ∧ Pv i σ H, ⟨n, by simp, Nat.zero_le _, h0⟩, ?_⟩
  rintro i m σ H ⟨rfl, hi, p⟩
  by_cases hlt : i < n
  · refine .inr ⟨hlt, Pv (i + 1), fun σ' H' p' => ⟨n - (i + 1), by omega, rfl, hlt, p'⟩, fun x H' y => ?_⟩
    obtain ⟨e, y⟩ := y
    subst e y
    exact hs i σ _ hlt p
  · have e : i = n := by omega
    subst e
    exact .inl ⟨Nat.le_refl _, hd σ H p⟩
end L2

namespace L2
open PySem PySem.Spec PyProof.Rows

abbrev R2 := V → V → Hp → VK → Prop
/-- a two-place operation on values: f is binaryOp op, inplaceOp op or compareOp op -/
def OpR (X : Cx) (f : Value → Value → Sem Value) (r : R2) : Prop :=
  ∀ (pins : List (Addr × Obj)) (s : Shared) (σ : St) (H : Hp) (x y : V) (v u : Value) (Q : VK), Inv X pins σ H s → RelV x v → RelV y u → r x y H Q →
    wpAny (model X.prog X.w) X.A (f v u) (EP X pins σ Q) X.xe s
/-- a one-place operation -/
def UnR (X : Cx) (f : Value → Sem Value) (r : V → Hp → VK → Prop) : Prop :=
  ∀ (pins : List (Addr × Obj)) (s : Shared) (σ : St) (H : Hp) (x : V) (v : Value) (Q : VK), Inv X pins σ H s → RelV x v → r x H Q →
    wpAny (model X.prog X.w) X.A (f v) (EP X pins σ Q) X.xe s
/-- a call of a value that is known (a builtin, a type) with values -/
def CallR (X : Cx) (f : Value) (r : List V → Hp → VK → Prop) : Prop :=
  ∀ (pins : List (Addr × Obj)) (s : Shared) (σ : St) (H : Hp) (xs : List V) (us : List Value) (Q : VK), Inv X pins σ H s → Vals xs us → r xs H Q →
    wpAny (model X.prog X.w) X.A (call f us) (EP X pins σ Q) X.xe s
/-- a value's truth -/
def TruR (X : Cx) (r : V → Hp → (Bool → Hp → Prop) → Prop) : Prop :=
  ∀ (pins : List (Addr × Obj)) (s : Shared) (σ : St) (H : Hp) (x : V) (v : Value) (Q : Bool → Hp → Prop), Inv X pins σ H s → RelV x v → r x H Q →
    wpAny (model X.prog X.w) X.A (truthy v) (TP X pins σ Q) X.xe s

def tOp (r : R2) (ta tb : TE) : TE := fun σ H Q => ta σ H fun x H1 => tb σ H1 fun y H2 => r x y H2 Q
def tUn (r : V → Hp → VK → Prop) (ta : TE) : TE := fun σ H Q => ta σ H fun x H1 => r x H1 Q
/-- ints in, under C, and a value out -/
def rI (C : Int → Int → Prop) (g : Int → Int → V) : R2 := fun x y H Q => ∃ i j, x = .int i ∧ y = .int j ∧ C i j ∧ Q (g i j) H
def rI0 (g : Int → Int → V) : R2 := fun x y H Q => ∃ i j, x = .int i ∧ y = .int j ∧ Q (g i j) H
def rU (g : Int → V) : V → Hp → VK → Prop := fun x H Q => ∃ i, x = .int i ∧ Q (g i) H

section
variable {X : Cx} {a b c : Expr} {ta tb tc : TE} {pos : Pos}

theorem binT (ha : PE X a ta) (hb : PE X b tb) {pins : List (Addr × Obj)} {s : Shared} {σ : St} {H : Hp} {R : V → V → Hp → Prop} (I : Inv X pins σ H s)
    (h : ta σ H fun x H1 => tb σ H1 fun y H2 => R x y H2) {Q : Value → Shared → Prop} {f : Value → Value → Sem Value}
    (hf : ∀ v u s2 x y H2, Inv X pins σ H2 s2 → RelV x v → RelV y u → R x y H2 → wpAny (model X.prog X.w) X.A (f v u) Q X.xe s2) :
    wpAny (model X.prog X.w) X.A (eval a X.env) (fun v s₁ => wpAny (model X.prog X.w) X.A (eval b X.env) (fun u s₂ => wpAny (model X.prog X.w) X.A (f v u) Q X.xe s₂) X.xe s₁) X.xe s := by
  refine thn (ha pins s σ H _ I h) fun v s1 ⟨x, H1, I1, r1, q1⟩ => ?_
  refine thn (hb pins s1 σ H1 _ I1 q1) fun u s2 ⟨y, H2, I2, r2, q2⟩ => ?_
  exact hf v u s2 x y H2 I2 r1 r2 q2

theorem pe_op {op : Operator} {r : R2} (ho : OpR X (binaryOp op) r) (ha : PE X a ta) (hb : PE X b tb) : PE X (.BinOp a op b pos) (tOp r ta tb) := by
  intro pins s σ H Q I h
  exact wpAny_BinOp (binT ha hb I h fun v u s2 x y H2 I2 rx ry q => ho pins s2 σ H2 x y v u Q I2 rx ry q)
/-! ### ints -/
theorem opI {f : Value → Value → Sem Value} {C : Int → Int → Prop} {g : Int → Int → Int}
    (rule : ∀ (i j : Int) (t u : Tok) (s : Shared) (Q : Value → Shared → Prop) (E : Value → Shared → Prop), C i j → Q (.int (g i j) s.toks) { s with toks := s.toks + 1 } → wpAny (model X.prog X.w) X.A (f (.int i t) (.int j u)) Q E s) :
    OpR X f (rI C fun i j => .int (g i j)) := by
  intro pins s σ H x y v u Q I rx ry h
  obtain ⟨i, j, rfl, rfl, hc, q⟩ := h
  obtain ⟨t, rfl⟩ := rx
  obtain ⟨t', rfl⟩ := ry
  exact rule i j t t' s _ _ hc ⟨.int (g i j), H, I.tok _, ⟨_, rfl⟩, q⟩
theorem opI0 {f : Value → Value → Sem Value} {g : Int → Int → Int}
    (rule : ∀ (i j : Int) (t u : Tok) (s : Shared) (Q : Value → Shared → Prop) (E : Value → Shared → Prop), Q (.int (g i j) s.toks) { s with toks := s.toks + 1 } → wpAny (model X.prog X.w) X.A (f (.int i t) (.int j u)) Q E s) :
    OpR X f (rI0 fun i j => .int (g i j)) := by
  intro pins s σ H x y v u Q I rx ry h
  obtain ⟨i, j, rfl, rfl, q⟩ := h
  obtain ⟨t, rfl⟩ := rx
  obtain ⟨t', rfl⟩ := ry
  exact rule i j t t' s _ _ ⟨.int (g i j), H, I.tok _, ⟨_, rfl⟩, q⟩
theorem opB0 {f : Value → Value → Sem Value} {g : Int → Int → Bool}
    (rule : ∀ (i j : Int) (t u : Tok) (s : Shared) (Q : Value → Shared → Prop) (E : Value → Shared → Prop), Q (.bool (g i j)) s → wpAny (model X.prog X.w) X.A (f (.int i t) (.int j u)) Q E s) :
    OpR X f (rI0 fun i j => .bl (g i j)) := by
  intro pins s σ H x y v u Q I rx ry h
  obtain ⟨i, j, rfl, rfl, q⟩ := h
  obtain ⟨t, rfl⟩ := rx
  obtain ⟨t', rfl⟩ := ry
  exact rule i j t t' s _ _ ⟨.bl (g i j), H, I, rfl, q⟩

def CDiv (i j : Int) : Prop := 0 < j ∧ j < 1073741824
def CDivN (i j : Int) : Prop := j ≠ 0 ∧ j.natAbs < 1073741824
def CPow (i j : Int) : Prop := 0 ≤ j ∧ j ≤ 1000000 ∧ i.natAbs < 2 ^ 64
def CMul (i j : Int) : Prop := (-(2 ^ 64) < i ∧ i < 2 ^ 64) ∨ (-(2 ^ 64) < j ∧ j < 2 ^ 64)
theorem CMul.ok {i j : Int} (h : CMul i j) : IntMulOk i j := by
  rcases h with ⟨h1, h2⟩ | ⟨h1, h2⟩
  · exact .of_left (intBits_le_64 h1 h2)
  · exact .of_right (intBits_le_64 h1 h2)
theorem op_add : OpR X (binaryOp .Add) (rI0 fun i j => .int (i + j)) := opI0 fun _ _ _ _ _ _ _ q => add_int q
theorem op_sub : OpR X (binaryOp .Sub) (rI0 fun i j => .int (i - j)) := opI0 fun _ _ _ _ _ _ _ q => sub_int q
theorem op_mul : OpR X (binaryOp .Mult) (rI CMul fun i j => .int (i * j)) := opI fun _ _ _ _ _ _ _ hc q => mul_int q hc.ok
/-- // by a positive divisor -/
theorem op_fdiv : OpR X (binaryOp .FloorDiv) (rI CDiv fun i j => .int (i / j)) := opI fun i j _ _ _ _ _ hc q => by
  have h1 : (0 : Int) < j := hc.1
  have h2 : j < 1073741824 := hc.2
  exact floordiv_int (by omega) (by rw [Int.fdiv_eq_ediv_of_nonneg i (by omega)]; exact q) (.inl (PyProof.noPylong_small (by omega)))
/-- % by a positive divisor of any size -/
theorem op_mod : OpR X (binaryOp .Mod) (rI (fun _ j => 0 < j) fun i j => .int (i % j)) := opI fun i j _ _ _ _ _ hc q => by
  have h1 : (0 : Int) < j := hc
  exact mod_int' (by omega) (by rw [Int.fmod_eq_emod_of_nonneg i (by omega)]; exact q)
theorem op_pow : OpR X (binaryOp .Pow) (rI CPow fun i j => .int (i ^ j.toNat)) := opI fun _ _ _ _ _ _ _ hc q => pow_int_small hc.1 hc.2.1 hc.2.2 q
/-! ### bools among ints: n += (a < b) -/
end

/-! ### comparisons -/
/-- the scalars that == tells apart as data does -/
def scal : V → V → Bool
  | .non, .non => true | .non, .int _ => true | .int _, .non => true | .non, .bl _ => true | .bl _, .non => true | .non, .str _ => true | .str _, .non => true
  | .int _, .int _ => true | .bl _, .bl _ => true | .str _, .str _ => true | .byt _, .byt _ => true
  | .int _, .str _ => true | .str _, .int _ => true | .bl _, .str _ => true | .str _, .bl _ => true
  | _, _ => false
def rEq : R2 := fun x y H Q => scal x y = true ∧ Q (.bl (decide (x = y))) H
def rNe : R2 := fun x y H Q => scal x y = true ∧ Q (.bl (!decide (x = y))) H

theorem dec_int {i j : Int} : decide (V.int i = V.int j) = (i == j) := by
  rw [Bool.eq_iff_iff]
  simp
theorem dec_bl {i j : Bool} : decide (V.bl i = V.bl j) = (i == j) := by
  rw [Bool.eq_iff_iff]
  simp
theorem dec_str {i j : Str} : decide (V.str i = V.str j) = (i == j) := by
  rw [Bool.eq_iff_iff]
  simp
theorem dec_byt {i j : Array UInt8} : decide (V.byt i = V.byt j) = (i.toList == j.toList) := by
  rw [Bool.eq_iff_iff]
  cases i
  cases j
  simp

section
variable {X : Cx} {a b c : Expr} {ta tb tc : TE} {pos : Pos}
theorem fin_bl {pins : List (Addr × Obj)} {σ : St} {H : Hp} {s : Shared} {Q : VK} {k k' : Bool} (I : Inv X pins σ H s) (q : Q (.bl k) H) (e : k = k') : EP X pins σ Q (.bool k') s := by
  subst e
  exact ⟨.bl k, H, I, rfl, q⟩
theorem op_eq : OpR X (compareOp .Eq) rEq := by
  intro pins s σ H x y v u Q I rx ry h
  obtain ⟨hs, q⟩ := h
  cases x with
  | non =>
    cases rx
    cases y with
    | non => cases ry; exact PySem.EqNone.eq_none_none (fin_bl I q (by simp))
    | bl j => cases ry; exact PySem.EqNone.eq_none_bool (fin_bl I q (by simp))
    | int j => obtain ⟨t', rfl⟩ := ry; exact PySem.EqNone.eq_none_int (fin_bl I q (by simp))
    | str j => obtain ⟨t', rfl⟩ := ry; exact PySem.EqNone.eq_none_str (fin_bl I q (by simp))
    | _ => exact absurd (show false = true from hs) Bool.false_ne_true
  | bl i =>
    cases rx
    cases y with
    | non => cases ry; exact PySem.EqNone.eq_bool_none (fin_bl I q (by simp))
    | bl j => cases ry; exact eq_bool (fin_bl I q dec_bl)
    | str j => obtain ⟨t', rfl⟩ := ry; exact PySem.EqMixed.eq_bool_str (fin_bl I q (by simp))
    | _ => exact absurd (show false = true from hs) Bool.false_ne_true
  | int i =>
    obtain ⟨t, rfl⟩ := rx
    cases y with
    | non => cases ry; exact PySem.EqNone.eq_int_none (fin_bl I q (by simp))
    | int j => obtain ⟨t', rfl⟩ := ry; exact eq_int (fin_bl I q dec_int)
    | str j => obtain ⟨t', rfl⟩ := ry; exact PySem.EqMixed.eq_int_str (fin_bl I q (by simp))
    | _ => exact absurd (show false = true from hs) Bool.false_ne_true
  | str i =>
    obtain ⟨t, rfl⟩ := rx
    cases y with
    | non => cases ry; exact PySem.EqNone.eq_str_none (fin_bl I q (by simp))
    | bl j => cases ry; exact PySem.EqMixed.eq_str_bool (fin_bl I q (by simp))
    | int j => obtain ⟨t', rfl⟩ := ry; exact PySem.EqMixed.eq_str_int (fin_bl I q (by simp))
    | str j => obtain ⟨t', rfl⟩ := ry; exact eq_str (fin_bl I q dec_str)
    | _ => exact absurd (show false = true from hs) Bool.false_ne_true
  | byt i =>
    obtain ⟨t, rfl⟩ := rx
    cases y with
    | byt j => obtain ⟨t', rfl⟩ := ry; exact PySem.W.eq_bytes (fin_bl I q dec_byt)
    | _ => exact absurd (show false = true from hs) Bool.false_ne_true
  | _ => cases y <;> exact absurd (show false = true from hs) Bool.false_ne_true
theorem op_ne : OpR X (compareOp .NotEq) rNe := by
  intro pins s σ H x y v u Q I rx ry h
  obtain ⟨hs, q⟩ := h
  cases x with
  | non =>
    cases rx
    cases y with
    | non => cases ry; exact PySem.EqNone.ne_none_none (fin_bl I q (by simp))
    | bl j => cases ry; exact PySem.EqNone.ne_none_bool (fin_bl I q (by simp))
    | int j => obtain ⟨t', rfl⟩ := ry; exact PySem.EqNone.ne_none_int (fin_bl I q (by simp))
    | str j => obtain ⟨t', rfl⟩ := ry; exact PySem.EqNone.ne_none_str (fin_bl I q (by simp))
    | _ => exact absurd (show false = true from hs) Bool.false_ne_true
  | bl i =>
    cases rx
    cases y with
    | non => cases ry; exact PySem.EqNone.ne_bool_none (fin_bl I q (by simp))
    | bl j => cases ry; exact ne_bool (fin_bl I q (congrArg not dec_bl))
    | str j => obtain ⟨t', rfl⟩ := ry; exact PySem.EqMixed.ne_bool_str (fin_bl I q (by simp))
    | _ => exact absurd (show false = true from hs) Bool.false_ne_true
  | int i =>
    obtain ⟨t, rfl⟩ := rx
    cases y with
    | non => cases ry; exact PySem.EqNone.ne_int_none (fin_bl I q (by simp))
    | int j => obtain ⟨t', rfl⟩ := ry; exact ne_int (fin_bl I q (congrArg not dec_int))
    | str j => obtain ⟨t', rfl⟩ := ry; exact PySem.EqMixed.ne_int_str (fin_bl I q (by simp))
    | _ => exact absurd (show false = true from hs) Bool.false_ne_true
  | str i =>
    obtain ⟨t, rfl⟩ := rx
    cases y with
    | non => cases ry; exact PySem.EqNone.ne_str_none (fin_bl I q (by simp))
    | bl j => cases ry; exact PySem.EqMixed.ne_str_bool (fin_bl I q (by simp))
    | int j => obtain ⟨t', rfl⟩ := ry; exact PySem.EqMixed.ne_str_int (fin_bl I q (by simp))
    | str j => obtain ⟨t', rfl⟩ := ry; exact ne_str (fin_bl I q (congrArg not dec_str))
    | _ => exact absurd (show false = true from hs) Bool.false_ne_true
  | byt i =>
    obtain ⟨t, rfl⟩ := rx
    cases y with
    | byt j => obtain ⟨t', rfl⟩ := ry; exact PySem.W.ne_bytes (fin_bl I q (congrArg not dec_byt))
    | _ => exact absurd (show false = true from hs) Bool.false_ne_true
  | _ => cases y <;> exact absurd (show false = true from hs) Bool.false_ne_true

theorem op_lt : OpR X (compareOp .Lt) (rI0 fun i j => .bl (decide (i < j))) := opB0 fun _ _ _ _ _ _ _ q => lt_int q
theorem op_gt : OpR X (compareOp .Gt) (rI0 fun i j => .bl (decide (j < i))) := opB0 fun _ _ _ _ _ _ _ q => gt_int q
/-- is, is not of two objects that are tracked lists or instances -/
def isObj : HO → Bool
  | .lst _ => true
  | .ins _ _ _ => true
  | _ => false
/-- two rules for one operation: by cases -/
theorem OpR.or {f : Value → Value → Sem Value} {r r' : R2} (h : OpR X f r) (h' : OpR X f r') : OpR X f (fun x y H Q => r x y H Q ∨ r' x y H Q) := by
  intro pins s σ H x y v u Q I rx ry q
  rcases q with q | q
  · exact h pins s σ H x y v u Q I rx ry q
  · exact h' pins s σ H x y v u Q I rx ry q

theorem nomark (b : Expr) {op : CmpOp} (h : op ≠ .In := by decide) (h2 : op ≠ .NotIn := by decide) : behindInMarks op b = false := by
  have e1 : (op == CmpOp.In) = false := by cases op <;> first | rfl | exact absurd rfl h
  have e2 : (op == CmpOp.NotIn) = false := by cases op <;> first | rfl | exact absurd rfl h2
  cases b <;> simp [behindInMarks, e1, e2]
/-- a comparison as a value; hm: nomark b, or (for in, not in) by with_unfolding_all rfl -/
theorem pe_cmpR {op : CmpOp} {r : R2} (ho : OpR X (compareOp op) r) (ha : PE X a ta) (hb : PE X b tb) (hm : behindInMarks op b = false) : PE X (.Compare a [op] [b] pos) (tOp r ta tb) := by
  intro pins s σ H Q I h
  exact wpAny_Compare1 (binT ha hb I h fun v u s2 x y H2 I2 rx ry q => ho pins s2 σ H2 x y v u Q I2 rx ry q) hm
/-- a reading of a value as a test -/
def tTest (t : TE) : TT := fun σ H Q => t σ H fun x H' => ∃ k, x = .bl k ∧ Q k H'
theorem pt_cmpR {op : CmpOp} {r : R2} (ho : OpR X (compareOp op) r) (ha : PE X a ta) (hb : PE X b tb) (hm : behindInMarks op b = false) : PT X (.Compare a [op] [b] pos) (tTest (tOp r ta tb)) := by
  intro pins s σ H Q I h
  refine wpAny_isTrue_Compare1 (thn (ha pins s σ H _ I h) fun v s1 ⟨x, H1, I1, r1, q1⟩ => thn (hb pins s1 σ H1 _ I1 q1) fun u s2 ⟨y, H2, I2, r2, q2⟩ =>
    thn (ho pins s2 σ H2 x y v u _ I2 r1 r2 q2) fun c s3 ⟨z, H3, I3, r3, k, e, q3⟩ => ?_) hm
  subst e
  cases r3
  exact wpAny_truthy_bool ⟨H3, I3, q3⟩
/-- a op1 b op2 c -/
def tChain (r r' : R2) (ta tb tc : TE) : TE := fun σ H Q => ta σ H fun x H1 => tb σ H1 fun y H2 => r x y H2 fun z H3 => ∃ k, z = .bl k ∧
  (if k = true then tc σ H3 fun w' H4 => r' y w' H4 Q else Q (.bl false) H3)
/-! ### truth -/
/-- a value's truth by the abstract heap -/
def TruV (K : PySem.W.Frag) (x : V) (H : Hp) (k : Bool) : Prop :=
  match x with
  | .non => k = false
  | .bl b => k = b
  | .int i => k = (i != 0)
  | .str y => y.length ≤ sizeLine ∧ k = ((y.length : Int) != 0)
  | .byt y => y.size ≤ sizeLine ∧ k = ((y.size : Int) != 0)
  | .ref p => (∃ xs, SqL K H p xs ∧ k = !xs.isEmpty) ∨ (∃ xs, SqT K H p xs ∧ k = !xs.isEmpty) ∨ ∃ kvs, H p = some (.dK kvs) ∧ k = !kvs.isEmpty
  | _ => False
theorem line63 : (sizeLine : Nat) < 2 ^ 63 := by rw [sizeLine_eq]; decide
/-! ### strs and bytes -/
theorem op_add_str : OpR X (binaryOp .Add) (fun x y H Q => ∃ i j, x = .str i ∧ y = .str j ∧ i.length + j.length ≤ sizeLine ∧ Q (.str (i ++ j)) H) := by
  intro pins s σ H x y v u Q I rx ry h
  obtain ⟨i, j, rfl, rfl, hz, q⟩ := h
  obtain ⟨t, rfl⟩ := rx
  obtain ⟨t', rfl⟩ := ry
  exact add_str (fun t' tk => ⟨.str (i ++ j), H, I.tok _, ⟨_, rfl⟩, q⟩) hz
def PlainIxT (b : Expr) : Prop := ∀ o i, subscripted b false o i = operate [o, i] (getItem o i)
/-! ### scalar builtins, by CallR -/
theorem vals1 {x : V} {us : List Value} (r : Vals [x] us) : ∃ u, us = [u] ∧ RelV x u := by
  cases r with
  | cons r1 r2 => cases r2; exact ⟨_, rfl, r1⟩
/-- len of a str, a bytes, a list, a tuple -/
def LenV (K : PySem.W.Frag) (x : V) (H : Hp) (n : Nat) : Prop :=
  match x with
  | .str y => y.length ≤ sizeLine ∧ n = y.length
  | .byt y => y.size ≤ sizeLine ∧ n = y.size
  | .ref p => (∃ xs, SqL K H p xs ∧ n = xs.length) ∨ ∃ xs, SqT K H p xs ∧ n = xs.length
  | _ => False
end
end L2

namespace L2
open PySem PySem.Spec PyProof.Rows

/-! ### an instance, its attributes a map -/
structure ObjM (h : Heap) (x dx C : Addr) (mA : Str → Option Value) : Prop where
  obj : h.get? x = some (PySem.W.instObj C dx)
  ns : h.Ns1 dx mA
  ne : dx ≠ x

theorem lookIn_ns {h : Heap} {dx : Addr} {mA : Str → Option Value} (n : h.Ns1 dx mA) : ∃ od, h.get? dx = some od ∧ ∀ name, PySem.W.lookIn name od = some (mA name) := by
  obtain ⟨o, es, ep, ho, hd, hk, _, hm⟩ := n
  refine ⟨o, ho, fun name => ?_⟩
  have e := hm name
  unfold nsFind findBy at e
  rw [← Array.find?_toList] at e
  unfold PySem.W.lookIn
  rw [hd]
  dsimp only
  split
  · rename_i y q
    rw [q] at e
    exact congrArg some e
  · rename_i q
    rw [q] at e
    have a : es.toList.any (·.refKey) = false := by
      rw [List.any_eq_false]
      intro y hy
      obtain ⟨z, t, hkey⟩ := hk y (Array.mem_toList_iff.mp hy)
      simp [DictEntry.refKey, hkey]
    have a' : ¬ es.toList.any (·.refKey) = true := by rw [a]; exact Bool.false_ne_true
    rw [if_neg a']
    exact congrArg some e

theorem ObjM.look {h : Heap} {x dx C : Addr} {mA : Str → Option Value} (I : ObjM h x dx C mA) : ∃ od, PySem.W.InstAt h x (PySem.W.instObj C dx) C (some od) ∧ ∀ name, PySem.W.lookIn name od = some (mA name) :=
  let ⟨od, ho, hl⟩ := lookIn_ns I.ns
  ⟨od, ⟨I.obj, rfl, rfl, ho⟩, hl⟩

section
variable {prog : Program} {w : World} {A : Around} {E : Value → Shared → Prop} {s : Shared} {K : PySem.W.Frag} {x dx C f : Addr} {mA : Str → Option Value} {name : Str} {v : Value}

end

/-! ### the attributes as a list of pairs -/
def putF (f : Str) (v : V) : List (Str × V) → List (Str × V)
  | [] => [(f, v)]
  | (g, x) :: r => if g = f then (g, v) :: r else (g, x) :: putF f v r
theorem RelO.none_of {o : Option Value} (r : RelO none o) : o = none := by
  cases o with
  | none => rfl
  | some u => exact (show False from r).elim
section
variable {P : Program} {w : World} {H H' : Hp} {h h' : Heap} {a C dx : Addr} {fs fs' : List (Str × V)}
theorem ins_get (hok : HOk P w H h) (e : H a = some (.ins C dx fs)) : ∃ mA, ObjM h a dx C mA ∧ (∀ f, RelO (fs.lookup f) (mA f)) ∧ PySem.Within mA (fs.map (·.1)) ∧ fs.length ≤ 1000 ∧ H dx = some (.own a) := by
  obtain ⟨d, z, ne, ob, mA, n, r, q⟩ := (show ObjOk P w H h a (.ins C dx fs) from hok a _ e)
  exact ⟨mA, ⟨ob, n, ne⟩, r, q, z, d⟩
end

/-! ### what of the text a class must have -/
structure Cls (K : PySem.W.Frag) (C : Addr) : Prop where
  pg : PySem.W.plainGet K C Str.empty = true
  hd : PySem.W.hasDictIn K C = true
  po : PySem.W.plainOver K C = true
  sa : PySem.W.findIn K (.ref C) "__setattr__" = some (some (.builtin "object.__setattr__"))
theorem Cls.get {K : PySem.W.Frag} {C : Addr} (c : Cls K C) (f : Str) : PySem.W.plainGet K C f = true := c.pg
/-- no class of it has the name -/
def NoAttr (K : PySem.W.Frag) (C : Addr) (f : Str) : Prop := PySem.W.findIn K (.ref C) f = some none
/-- a constant of the class -/
structure Con (K : PySem.W.Frag) (C : Addr) (f : Str) (v : V) (u : Value) : Prop where
  at_ : PySem.W.findIn K (.ref C) f = some (some u)
  rel : RelV v u
  get : PySem.W.specialIn K u "__get__" = some none
  cp : PySem.W.copiedNames.contains f = false
/-- a method: a plain def of the class or of one above it -/
structure Meth (K : PySem.W.Frag) (C : Addr) (m : Str) (f : Addr) : Prop where
  at_ : PySem.W.findIn K (.ref C) m = some (some (.ref f))
  fn : PySem.W.isFn K (.ref f) = true
  kp : PySem.W.keepIn K (.ref f) = true

section
variable {X : Cx} {pins : List (Addr × Obj)} {σ : St} {H : Hp} {s : Shared} {a C dx : Addr} {fs : List (Str × V)} {f : Str} {v : V} {A : Around} {E : Value → Shared → Prop}

/-- a new instance, tracked, without attributes -/
theorem Inv.made (I : Inv X pins σ H s) : Inv X pins σ (upd (upd H s.heap.objs.size (.own (s.heap.objs.size + 1))) (s.heap.objs.size + 1) (.ins C s.heap.objs.size []))
    { s with heap := (s.heap.push PySem.W.emptyDict).push (PySem.W.instObj C s.heap.objs.size) } := by
  have e1 : (s.heap.push PySem.W.emptyDict).get? s.heap.objs.size = some PySem.W.emptyDict := Heap.get?_push_size s.heap rfl
  have e2 : ((s.heap.push PySem.W.emptyDict).push (PySem.W.instObj C s.heap.objs.size)).get? (s.heap.objs.size + 1) = some (PySem.W.instObj C s.heap.objs.size) := by
    have := Heap.get?_push_size (s.heap.push PySem.W.emptyDict) (o := PySem.W.instObj C s.heap.objs.size) rfl
    rwa [Heap.size_push] at this
  have e3 : (s.heap.push PySem.W.emptyDict).Ns s.heap.objs.size (fun _ => none) := ⟨PySem.W.emptyDict, #[], _, e1, rfl, (fun e he => absurd he (by simp)), fun _ => rfl⟩
  have I1 := I.laid (a := s.heap.objs.size) (o := .own (s.heap.objs.size + 1)) (h' := s.heap.push PySem.W.emptyDict) (t' := s.toks) (fun b u q => Heap.get?_push_of_some _ q) (Nat.le_refl _) ⟨_, e1⟩
  refine I1.laid (a := s.heap.objs.size + 1) (o := .ins C s.heap.objs.size []) (t' := s.toks) (fun b u q => Heap.get?_push_of_some _ q) (Nat.le_of_eq (Heap.size_push _ _)) ?_
  have ne : s.heap.objs.size ≠ s.heap.objs.size + 1 := Nat.ne_of_lt (Nat.lt_succ_self _)
  refine ⟨by rw [upd_ne ne, upd_same], Nat.zero_le _, ne, e2, fun _ => none, (Heap.Ns1.of_empty e3).at fun o q => Heap.get?_push_of_some _ q, fun _ => True.intro, fun y hy => absurd rfl hy⟩

end

/-! ### readings and rules -/
/-- e.f, an attribute of the instance -/
def tFld (K : PySem.W.Frag) (ta : TE) (f : Str) : TE := fun σ H Q => ta σ H fun x H1 => ∃ a C dx fs v, x = .ref a ∧ H1 a = some (.ins C dx fs) ∧ Cls K C ∧ NoAttr K C f ∧ fs.lookup f = some v ∧ Q v H1
/-- e.f, a constant of the class -/
def tCon (K : PySem.W.Frag) (ta : TE) (f : Str) : TE := fun σ H Q => ta σ H fun x H1 => ∃ a C dx fs v u, x = .ref a ∧ H1 a = some (.ins C dx fs) ∧ Cls K C ∧ Con K C f v u ∧ fs.lookup f = none ∧ Q v H1
/-- e.f = value -/
def sFld (K : PySem.W.Frag) (ta tv : TE) (f : Str) : TS := fun D σ H => tv σ H fun y H1 => ta σ H1 fun x H2 => ∃ a C dx fs, x = .ref a ∧ H2 a = some (.ins C dx fs) ∧ Cls K C ∧ NoAttr K C f ∧ fs.length < 1000 ∧
  D.nx σ (upd H2 a (.ins C dx (putF f y fs)))
/-- an augmented operator on two values -/
def InOp (X : Cx) (op : Operator) (rd : V → V → Hp → VK → Prop) : Prop :=
  ∀ (pins : List (Addr × Obj)) (s : Shared) (σ : St) (H : Hp) (x y : V) (u v : Value) (Q : VK), Inv X pins σ H s → RelV x u → RelV y v → rd x y H Q → wpAny (model X.prog X.w) X.A (inplaceOp op u v) (EP X pins σ Q) X.xe s
/-- e.f op= value -/
def sFldAug (K : PySem.W.Frag) (ta tv : TE) (rd : V → V → Hp → VK → Prop) (f : Str) : TS := fun D σ H => ta σ H fun x H1 => ∃ a C dx fs v, x = .ref a ∧ H1 a = some (.ins C dx fs) ∧ Cls K C ∧ NoAttr K C f ∧ fs.lookup f = some v ∧
  tv σ H1 fun y H2 => rd v y H2 fun z H3 => ∃ dx' fs', H3 a = some (.ins C dx' fs') ∧ fs'.length < 1000 ∧ D.nx σ (upd H3 a (.ins C dx' (putF f z fs')))

section
variable {X : Cx} {o e value : Expr} {f : Str} {pos pos' tpos : Pos} {ta tv : TE}
def rAdd : V → V → Hp → VK → Prop := fun x y H Q => ∃ i j, x = .int i ∧ y = .int j ∧ Q (.int (i + j)) H
def rSub : V → V → Hp → VK → Prop := fun x y H Q => ∃ i j, x = .int i ∧ y = .int j ∧ Q (.int (i - j)) H
end

/-! ### isinstance -/
section
variable {X : Cx} {pins : List (Addr × Obj)} {σ : St} {H : Hp} {s : Shared} {A : Around} {E : Value → Shared → Prop} {Q : Value → Shared → Prop} {c : Value} {b : Bool}
/-- the type of a value, as the fragment's deciders take it; for an instance its class -/
inductive TyOf (K : PySem.W.Frag) (H : Hp) : V → Value → Prop where
  | non : TyOf K H .non (.type "NoneType")
  | bl (x : Bool) : TyOf K H (.bl x) (.type "bool")
  | int (i : Int) : TyOf K H (.int i) (.type "int")
  | str (x : Str) : TyOf K H (.str x) (.type "str")
  | flt (x : UInt64) : TyOf K H (.flt x) (.type "float")
  | lst {a : Addr} {xs : List V} (e : H a = some (.lst xs)) : TyOf K H (.ref a) (.type "list")
  | frz {a : Addr} {o : Obj} {xs : List V} (e : H a = some (.frz o (.lst xs))) : TyOf K H (.ref a) (.type "list")
  | tup {a : Addr} {xs : List V} (e : H a = some (.tup xs)) : TyOf K H (.ref a) (.type "tuple")
  | dK {a : Addr} {kvs : List (Key × V)} (e : H a = some (.dK kvs)) : TyOf K H (.ref a) (.type "dict")
  | dT {a : Addr} {kvs : List (List Key × V)} (e : H a = some (.dT kvs)) : TyOf K H (.ref a) (.type "dict")
  | ins {a C dx : Addr} {fs : List (Str × V)} (e : H a = some (.ins C dx fs)) (cl : Cls K C) (ha : PySem.W.findIn K (.ref C) "__class__" = some (some (.builtin "object.__class__")))
      (hn : PySem.W.specialIn K (.builtin "object.__class__") "__get__" = some (some (.builtin "getset_descriptor.__get__"))) (htk : PySem.W.takesIn K (.builtin "object.__class__") = some true)
      (hm : PySem.W.mroIn K C (.type "object") = some true) : TyOf K H (.ref a) (.ref C)
/-- isinstance(x, c) for one class c, a built-in or an own one: kitOne's answer -/
theorem isinst_ok {x : V} {u t : Value} (I : Inv X pins σ H s) (rx : RelV x u) (ty : TyOf X.K H x t) (e : PySem.W.kitOne X.K t c = some b) (h : ∀ tk, Q (.bool b) { s with toks := tk }) :
    wpAny (model X.prog X.w) A (call (.builtin "isinstance") [u, c]) Q E s := by
  cases ty with
  | non => cases (show u = Value.none from rx); exact PySem.W.kia_one PySem.W.kitx_none I.kIn True.intro e (fun z => nomatch z) h
  | bl y => cases (show u = Value.bool y from rx); exact PySem.W.kia_one PySem.W.kitx_bool I.kIn True.intro e (fun z => nomatch z) h
  | int i => obtain ⟨t, q⟩ := (show ∃ t, u = Value.int i t from rx); cases q; exact PySem.W.kia_one PySem.W.kitx_int I.kIn True.intro e (fun z => nomatch z) h
  | str y => obtain ⟨t, q⟩ := (show ∃ t, u = Value.str y t from rx); cases q; exact PySem.W.kia_one PySem.W.kitx_str I.kIn True.intro e (fun z => nomatch z) h
  | flt y => obtain ⟨t, q⟩ := (show ∃ t, u = Value.float y t from rx); cases q; exact PySem.W.kia_one PySem.W.kitx_float I.kIn True.intro e (fun z => nomatch z) h
  | @lst a xs ea =>
    cases (show u = Value.ref a from rx)
    obtain ⟨_, _, n, _, h1⟩ := (show ObjOk X.prog X.w H s.heap a (.lst xs) from I.hok a _ ea)
    exact PySem.W.kia_one PySem.W.kitx_list I.kIn ⟨_, h1, rfl⟩ e (fun z => nomatch z) h
  | @frz a ob xs ea =>
    cases (show u = Value.ref a from rx)
    obtain ⟨_, _, _, n, _, h1⟩ := (show ObjOk X.prog X.w H s.heap a (.frz ob (.lst xs)) from I.hok a _ ea)
    exact PySem.W.kia_one PySem.W.kitx_list I.kIn ⟨_, h1, rfl⟩ e (fun z => nomatch z) h
  | @tup a xs ea =>
    cases (show u = Value.ref a from rx)
    obtain ⟨_, _, _, p⟩ := (show ObjOk X.prog X.w H s.heap a (.tup xs) from I.hok a _ ea)
    obtain ⟨o, h1, h2, _⟩ := p
    exact PySem.W.kia_one PySem.W.kitx_tuple I.kIn ⟨o, h1, h2⟩ e (fun z => nomatch z) h
  | @dK a kvs ea =>
    cases (show u = Value.ref a from rx)
    obtain ⟨_, _, vs, _, p⟩ := (show ObjOk X.prog X.w H s.heap a (.dK kvs) from I.hok a _ ea)
    obtain ⟨o, es, ep, h1, h2, _⟩ := p
    exact PySem.W.kia_one PySem.W.kitx_dict I.kIn ⟨o, h1, h2.1⟩ e (fun z => nomatch z) h
  | @dT a kvs ea =>
    cases (show u = Value.ref a from rx)
    obtain ⟨_, _, xs, _, o, es, ep, h1, h2, _⟩ := (show ObjOk X.prog X.w H s.heap a (.dT kvs) from I.hok a _ ea)
    exact PySem.W.kia_one PySem.W.kitx_dict I.kIn ⟨o, h1, h2.1⟩ e (fun z => nomatch z) h
  | @ins a C dx fs ea cl ha hn htk hm =>
    cases (show u = Value.ref a from rx)
    obtain ⟨mA, O, _⟩ := ins_get I.hok ea
    obtain ⟨od, J, _⟩ := O.look
    exact PySem.W.kia_one (PySem.W.kitx_own (cl.get _) cl.hd ha hn htk hm) I.kIn J e (fun z => nomatch z) h
end
end L2

namespace L2
open PySem PySem.Spec PyProof.Rows

/-! ### room -/
structure Room (k : Nat) (A : Around) : Prop where
  hd : A.handled = none
  dp : A.depth + 3 * k + 5 < recursionLimit
  un : A.units + 16 * k + 200 < cLine
theorem Room.mono {j k : Nat} {A : Around} (r : Room k A) (h : j ≤ k) : Room j A := ⟨r.hd, by have := r.dp; omega, by have := r.un; omega⟩
theorem Room.deeper {k : Nat} {A : Around} (r : Room (k + 1) A) (env : Env) : Room k (A.deeper env) :=
  ⟨r.hd, by have := r.dp; show A.depth + 1 + 3 * k + 5 < _; omega, by have := r.un; show A.units + 3 + 16 * k + 200 < _; omega⟩
theorem Room.in1 {k : Nat} {A : Around} (r : Room (k + 1) A) : Room k A.in1 :=
  ⟨r.hd, by have := r.dp; show A.depth + 3 * k + 5 < _; omega, by have := r.un; show A.units + 1 + 16 * k + 200 < _; omega⟩
theorem make_depth {A : Around} {C : Addr} {us : List Value} {kw : List (Str × Value)} : (A.under (.builtin "type.__call__" ⟨.ref C :: us, kw⟩)).depth = A.depth + 1 := by
  first | rfl | simp [Around.under, Code.weight, Code.isCreation, Code.isGuard, Code.isCaller, Code.frames, Code.isFrame, guardIds]
theorem make_units {A : Around} {C : Addr} {us : List Value} {kw : List (Str × Value)} : (A.under (.builtin "type.__call__" ⟨.ref C :: us, kw⟩)).units = A.units + 1 := by
  first | rfl | simp [Around.under, Code.cUnits, Code.frames, Code.isFrame]
theorem Room.make {k : Nat} {A : Around} (r : Room (k + 1) A) (C : Addr) (us : List Value) (kw : List (Str × Value)) : Room k (A.under (.builtin "type.__call__" ⟨.ref C :: us, kw⟩)) :=
  ⟨r.hd, by have := r.dp; rw [make_depth]; omega, by have := r.un; rw [make_units]; omega⟩
theorem Room.depth {k : Nat} {A : Around} (r : Room k A) : A.depth < recursionLimit := by have := r.dp; omega
theorem Room.units {k : Nat} {A : Around} (r : Room k A) : A.units + 64 < cLine := by have := r.un; omega
/-! ### argument lists and displays -/
def tNil : TA := fun _ H Q => Q [] H
def tCons (ta : TE) (tr : TA) : TA := fun σ H Q => ta σ H fun x H1 => tr σ H1 fun xs H2 => Q (x :: xs) H2
section
variable {X : Cx} {e : Expr} {es : List Expr} {te : TE} {t : TA} {pos : Pos}
theorem pa_nil : PA X [] tNil := fun _ _ _ _ H Q I h => Calls.spliced_nil ⟨[], H, I, .nil, h⟩
theorem pa_cons (ha : PE X e te) (hr : PA X es t) (hs : starEach (e :: es) X.env = (false, eval e X.env) :: starEach es X.env := by rfl) : PA X (e :: es) (tCons te t) := by
  intro pos pins s σ H Q I h
  rw [hs]
  show wpAny _ _ (spliced ((false, eval e X.env) :: backTo pos (starEach es X.env))) _ _ s
  refine Calls.spliced_cons (thn (ha pins s σ H _ I h) fun u s1 ⟨x, H1, I1, r1, q1⟩ => ?_)
  exact thn (hr pos pins s1 σ H1 _ I1 q1) fun us s2 ⟨xs, H2, I2, r2, q2⟩ => ⟨x :: xs, H2, I2, .cons r1 r2, q2⟩

/-- a tuple, a list of written items -/
def tTup (t : TA) : TE := fun σ H Q => t σ H fun xs H1 => xs.length ≤ sizeLine ∧ ∀ p, H1 p = none → Q (.ref p) (upd H1 p (.tup xs))
def tLst (t : TA) : TE := fun σ H Q => t σ H fun xs H1 => xs.length ≤ sizeLine ∧ ∀ p, H1 p = none → Q (.ref p) (upd H1 p (.lst xs))
theorem pe_tup {x1} (h : PA X es t) : PE X (.Tuple es x1 pos) (tTup t) := by
  intro pins s σ H Q I hq
  refine wpAny_Tuple_spliced (thn (h pos pins s σ H _ I hq) fun us s1 ⟨xs, H1, I1, r, z, q⟩ => ⟨by rw [← r.length]; exact z, ?_⟩)
  have hf : H1 s1.heap.objs.size = none := I1.hok.fresh (Nat.le_refl _)
  refine ⟨.ref s1.heap.objs.size, upd H1 s1.heap.objs.size (.tup xs), I1.laid (t' := s1.toks) (fun b u e => Heap.get?_push_of_some _ e) (Nat.le_refl _) ?_, rfl, q _ hf⟩
  exact ⟨z, us, r, ⟨_, Heap.get?_push_size _ rfl, rfl, _, rfl⟩⟩
theorem pe_lst (h : PA X es t) : PE X (.List es pos) (tLst t) := by
  intro pins s σ H Q I hq
  refine wpAny_List_spliced (thn (h pos pins s σ H _ I hq) fun us s1 ⟨xs, H1, I1, r, z, q⟩ => ⟨by rw [← r.length]; exact z, ?_⟩)
  have hf : H1 s1.heap.objs.size = none := I1.hok.fresh (Nat.le_refl _)
  refine ⟨.ref s1.heap.objs.size, upd H1 s1.heap.objs.size (.lst xs), I1.laid (t' := s1.toks) (fun b u e => Heap.get?_push_of_some _ e) (Nat.le_refl _) ?_, rfl, q _ hf⟩
  exact ⟨z, us, 0, r, Heap.get?_push_size _ rfl⟩
end

/-! ### what a def promises -/
/-- a def's promise: the bound arguments in the parameters' order, the heap, the wanted end, the wanted exception -/
abbrev Sp := List V → Hp → VK → XK → Prop
/-- how an exception lies behind a call (file 08 gives it): the callers' frames, abstract heap and state ahead of the call, the wish, the exception, the state -/
abbrev CXT := List Env → Hp → Shared → XK → Value → Shared → Prop

/-- the state at a call -/
structure Env0 (P : Program) (w : World) (K : PySem.W.Frag) (mg : Str → Option Value) (base : Heap) (A : Around) (outer : List Env) (s : Shared) (H : Hp) : Prop where
  frames : A.frames = some outer
  mod : Mod K mg base
  bs : ∀ b o, base.get? b = some o → s.heap.get? b = some o ∧ H b = none
  bsz : base.objs.size ≤ s.heap.objs.size
  funs : s.heap.FunFrames base outer
  frf : ∀ b ∈ frs outer, H b = none
  hok : HOk P w H s.heap
  bare : AllBare s.gens
/-- a call's end -/
def CE (outer : List Env) (P : Program) (w : World) (H : Hp) (s : Shared) (Q : VK) (u : Value) (s' : Shared) : Prop :=
  ∃ v H', s'.os = s.os ∧ AllBare s'.gens ∧ Un (frs outer) [] H H' s.heap s'.heap ∧ HOk P w H' s'.heap ∧ RelV v u ∧ Q v H'
def CR (CX : CXT) (outer : List Env) (P : Program) (w : World) (H : Hp) (s : Shared) (Q : VK) (E : XK) (r : Result) (s' : Shared) : Prop :=
  match r with
  | .ok (.ret u) => CE outer P w H s Q u s'
  | .ok _ => False
  | .error e => CX outer H s E e s'
structure FnOk (P : Program) (w : World) (K : PySem.W.Frag) (mg : Str → Option Value) (base : Heap) (CX : CXT) (k : Nat) (f : Addr) (fd : FuncData) (ps : List Str) (sp : Sp) : Prop where
  len : ∀ vs H Q E, sp vs H Q E → vs.length = ps.length
  run : ∀ (A : Around) (outer : List Env) (s : Shared) (H : Hp) (args : Args) (us : List Value) (vs : List V) (Q : VK) (E : XK), Room k A → Env0 P w K mg base A outer s H → BindsTo s fd args (ps.zip us) → Vals vs us → sp vs H Q E →
    codeAny (model P w) A (.call (.ref f) args) (CR CX outer P w H s Q E) s
theorem FnOk.mono {P : Program} {w : World} {K : PySem.W.Frag} {mg : Str → Option Value} {base : Heap} {CX : CXT} {j k : Nat} {f : Addr} {fd : FuncData} {ps : List Str} {sp : Sp} (F : FnOk P w K mg base CX j f fd ps sp) (h : j ≤ k) :
    FnOk P w K mg base CX k f fd ps sp := ⟨F.len, fun A outer s H args us vs Q E hr => F.run A outer s H args us vs Q E (hr.mono h)⟩
/-- a weaker promise -/
theorem FnOk.imp {P : Program} {w : World} {K : PySem.W.Frag} {mg : Str → Option Value} {base : Heap} {CX : CXT} {k : Nat} {f : Addr} {fd : FuncData} {ps : List Str} {sp sp' : Sp} (F : FnOk P w K mg base CX k f fd ps sp)
    (h : ∀ vs H Q E, sp' vs H Q E → sp vs H Q E) : FnOk P w K mg base CX k f fd ps sp' :=
  ⟨fun vs H Q E q => F.len vs H Q E (h _ _ _ _ q), fun A outer s H args us vs Q E hr he hb hv hs => F.run A outer s H args us vs Q E hr he hb hv (h _ _ _ _ hs)⟩

theorem Env0.make {P : Program} {w : World} {K : PySem.W.Frag} {mg : Str → Option Value} {base : Heap} {A : Around} {outer : List Env} {s : Shared} {H : Hp} (e : Env0 P w K mg base A outer s H) (C : Addr) (us : List Value) (kw : List (Str × Value)) :
    Env0 P w K mg base (A.under (.builtin "type.__call__" ⟨.ref C :: us, kw⟩)) outer s H := ⟨by first | exact e.frames | (simpa [Around.under, Code.envs, Code.isFrame, pushEnvs] using e.frames), e.mod, e.bs, e.bsz, e.funs, e.frf, e.hok, e.bare⟩
theorem Env0.in1 {P : Program} {w : World} {K : PySem.W.Frag} {mg : Str → Option Value} {base : Heap} {A : Around} {outer : List Env} {s : Shared} {H : Hp} (e : Env0 P w K mg base A outer s H) :
    Env0 P w K mg base A.in1 outer s H := ⟨e.frames, e.mod, e.bs, e.bsz, e.funs, e.frf, e.hok, e.bare⟩

section
variable {X : Cx} {pins : List (Addr × Obj)} {σ : St} {H : Hp} {s s' : Shared}
/-- from a body: what a callee wants -/
theorem Inv.env0 (I : Inv X pins σ H s) : Env0 X.prog X.w X.K X.mg X.base X.A X.stack s H :=
  ⟨I.ok.frames, I.ok.mod, I.bs, Nat.le_trans I.ok.bsz I.sz, I.stack, I.stkFree, I.hok, I.bare⟩
/-- behind a call -/
theorem Inv.after {Q : VK} {u : Value} (I : Inv X pins σ H s) (h : CE X.stack X.prog X.w H s Q u s') : EP X pins σ Q u s' := by
  obtain ⟨v, H', os, bare, un, hok, r, q⟩ := h
  obtain ⟨hh, g, d, t, os'⟩ := s'
  obtain rfl : os' = s.os := os
  exact ⟨v, H', I.call (h' := hh) (g' := g) (d' := d) (t' := t) (ch := []) un hok bare (fun b z => absurd z (by simp)), r, q⟩
end

/-! ### calls -/
/-- f(..): the written arguments, then the defaults dvs; E: what is wanted of an exception -/
def tCall (sp : Sp) (dvs : List V) (E : XK) (t : TA) : TE := fun σ H Q => t σ H fun vs H1 => sp (vs ++ dvs) H1 Q E
/-- o.m(..) of an instance of the class at C -/
def tMeth (C : Addr) (m : Str) (sp : Sp) (dvs : List V) (E : XK) (ta : TE) (t : TA) : TE := fun σ H Q => ta σ H fun x H1 => ∃ a dx fs, x = .ref a ∧ H1 a = some (.ins C dx fs) ∧ fs.lookup m = none ∧
  t σ H1 fun vs H2 => sp (x :: (vs ++ dvs)) H2 Q E
/-- C(..): a new instance and its dict, then __init__ -/
def tMake (C : Addr) (sp : Sp) (dvs : List V) (E : XK) (t : TA) : TE := fun σ H Q => t σ H fun vs H1 => ∀ x dx, H1 x = none → H1 dx = none → dx ≠ x →
  sp (.ref x :: (vs ++ dvs)) (upd (upd H1 dx (.own x)) x (.ins C dx [])) (fun v H2 => v = .non ∧ Q (.ref x) H2) E

/-- how the parameters are bound: us the positional arguments, kw the keywords' values by name, ds the defaults that fill up -/
def Binds (K : PySem.W.Frag) (fd : FuncData) (ps : List Str) (ds : List Value) : Prop :=
  ∀ (s : Shared) (us : List Value), K.In s.heap → (us ++ ds).length = ps.length → BindsTo s fd ⟨us, []⟩ (ps.zip (us ++ ds))
/-- every parameter is given -/
theorem Binds.all {K : PySem.W.Frag} {fd : FuncData} {ps : List Str} (h : ∀ us : List Value, us.length = ps.length → bindArgs fd ⟨us, []⟩ = pure (ps.zip us)) : Binds K fd ps [] := fun s us _ hl => by
  rw [List.append_nil] at hl ⊢
  exact .of_eq (h us hl)

/-- an exception of a callee reaches what this body wants of exceptions -/
def Passes (CX : CXT) (X : Cx) (E : XK) : Prop := ∀ (pins : List (Addr × Obj)) (σ : St) (H : Hp) (s : Shared) (e : Value) (s' : Shared), Inv X pins σ H s → CX X.stack H s E e s' → X.xe e s'

section
variable {X : Cx} {CX : CXT} {k : Nat} {f C : Addr} {fd : FuncData} {ps : List Str} {sp : Sp} {dvs : List V} {ds : List Value} {E : XK} {x m : Str} {p pos apos : Pos} {e o : Expr} {es : List Expr} {ta : TE} {t : TA}

/-- the callee runs -/
theorem run_fn {pins : List (Addr × Obj)} {σ : St} {H : Hp} {s : Shared} {Q : VK} {us : List Value} {vs : List V} (F : FnOk X.prog X.w X.K X.mg X.base CX k f fd ps sp) (hr : Room k X.A) (hb : Binds X.K fd ps ds) (hd : Vals dvs ds) (hx : Passes CX X E)
    (I : Inv X pins σ H s) (r : Vals vs us) (h : sp (vs ++ dvs) H Q E) : wpAny (model X.prog X.w) X.A (call (.ref f) us) (EP X pins σ Q) X.xe s := by
  have r2 : Vals (vs ++ dvs) (us ++ ds) := r.append hd
  have hl : (us ++ ds).length = ps.length := by rw [← r2.length]; exact F.len _ _ _ _ h
  refine wpAny_call (codeAny_mono (F.run X.A X.stack s H ⟨us, []⟩ (us ++ ds) (vs ++ dvs) Q E hr I.env0 (hb s us I.kIn hl) r2 h) fun r s' hq => ?_)
  cases r with
  | error e => exact hx pins σ H s e s' I hq
  | ok fl =>
    cases fl with
    | ret u => exact I.after hq
    | next => exact False.elim hq
    | brk => exact False.elim hq
    | cont => exact False.elim hq

theorem pe_call (F : FnOk X.prog X.w X.K X.mg X.base CX k f fd ps sp) (hr : Room k X.A) (hg : Gl X x) (hm : X.mg x = some (.ref f)) (hk : PySem.W.keepIn X.K (.ref f) = true) (hb : Binds X.K fd ps ds) (hd : Vals dvs ds) (hx : Passes CX X E)
    (ha : PA X (e :: es) t) (hdb : (x == ("__debug__" : Str)) = false := by decide) (he : starEach (e :: es) X.env = (false, eval e X.env) :: starEach es X.env := by rfl) (hpl : (backTo pos (starEach es X.env)).any (·.1) = false := by rfl) :
    PE X (.Call (.Name x p) (e :: es) [] pos) (tCall sp dvs E t) := by
  intro pins s σ H Q I h
  refine wpAny_Call_Name_kw (ld_glob I hg hm ?_ hdb)
  refine PySem.W.callWith_K (h₀ := X.base) I.ok.mod.kin hk (thn (ha pos pins s σ H _ I h) fun us s1 ⟨vs, H1, I1, r, q⟩ => ⟨I1.kIn, ?_⟩) he hpl
  exact run_fn F hr hb hd hx I1 r q
/-- what a class must have to be made -/
structure Mk (K : PySem.W.Frag) (C f : Addr) : Prop where
  makes : PySem.W.makesIn K C = true
  init : PySem.W.findIn K (.ref C) "__init__" = some (some (.ref f))
  fn : PySem.W.isFn K (.ref f) = true
  kp : PySem.W.keepIn K (.ref C) = true

end

/-! ### keywords -/
/-- the values of the keywords, from the left -/
def PK (X : Cx) (kws : List Keyword) (t : TA) : Prop :=
  ∀ (pos : Pos) (pins : List (Addr × Obj)) (s : Shared) (σ : St) (H : Hp) (Q : List V → Hp → Prop), Inv X pins σ H s → t σ H Q → wpAny (model X.prog X.w) X.A (evalAll ((backToKw pos (keywordEach kws X.env)).map (·.2))) (AP X pins σ Q) X.xe s
section
variable {X : Cx} {CX : CXT} {k : Nat} {f C : Addr} {fd : FuncData} {ps ks : List Str} {sp : Sp} {E : XK} {x m : Str} {p pos apos kpos : Pos} {e o : Expr} {es : List Expr} {kws : List Keyword} {te ta : TE} {t tk : TA} {nm : Option Str}
/-- how a call with keywords binds: g puts the positional values us and the keywords' values ws (names ks) in the parameters' order, defaults among them -/
structure KBinds (K : PySem.W.Frag) (fd : FuncData) (ps ks : List Str) (g : List Value → List Value → List Value) (gV : List V → List V → List V) : Prop where
  to : ∀ (s : Shared) (us ws : List Value), K.In s.heap → (g us ws).length = ps.length → BindsTo s fd ⟨us, ks.zip ws⟩ (ps.zip (g us ws))
  rel : ∀ {vs : List V} {us : List Value} {zs : List V} {ws : List Value}, Vals vs us → Vals zs ws → Vals (gV vs zs) (g us ws)
def tCallK (sp : Sp) (gV : List V → List V → List V) (E : XK) (t tk : TA) : TE := fun σ H Q => t σ H fun vs H1 => tk σ H1 fun zs H2 => sp (gV vs zs) H2 Q E
variable {g : List Value → List Value → List Value} {gV : List V → List V → List V}
end

/-! ### a def's body keeps its promise -/
/-- names: the parameters first -/
structure FnScope (N P : List Str) (sc : Scope) : Prop where
  kind : sc.kind = .function
  co : sc.isCoroutine = false
  gen : sc.isGenerator = false
  nd : N.Nodup
  pre : N.take P.length = P
  par : ∀ x ∈ P, sc.names.lookup x = some .local ∨ sc.names.lookup x = some .cell
  nofree : ∀ y ∈ sc.names, y.2 ≠ .free

theorem bindL_out {kindOf : Str → Option NameKind} {x : Str} : ∀ {binds : List (Str × Value)} {m : Str → Option Value}, (∀ v, (x, v) ∉ binds) → bindL kindOf binds m x = m x
  | [], _, _ => rfl
  | (n, v) :: r, m, h => by
    unfold bindL
    rw [bindL_out fun w hw => h w (List.mem_cons_of_mem _ hw)]
    split
    · have : x ≠ n := by rintro rfl; exact h v List.mem_cons_self
      simp [this]
    · rfl
theorem bindC_out {kindOf : Str → Option NameKind} {x : Str} : ∀ {binds : List (Str × Value)} {m : Str → Option Value}, (∀ v, (x, v) ∉ binds) → bindC kindOf binds m x = m x
  | [], _, _ => rfl
  | (n, v) :: r, m, h => by
    unfold bindC
    rw [bindC_out fun w hw => h w (List.mem_cons_of_mem _ hw)]
    split
    · rfl
    · have : x ≠ n := by rintro rfl; exact h v List.mem_cons_self
      simp [this]
theorem bindL_get {kindOf : Str → Option NameKind} {x : Str} {v : Value} : ∀ {P : List Str} {vs : List Value} {i : Nat} {m : Str → Option Value}, P.Nodup → P[i]? = some x → vs[i]? = some v → kindOf x = some .local →
    bindL kindOf (P.zip vs) m x = some v
  | [], _, _, _, _, h, _, _ => by simp at h
  | _ :: _, [], _, _, _, _, h, _ => by simp at h
  | p :: P, w :: vs, 0, m, nd, h1, h2, hk => by
    simp at h1 h2; subst h1; subst h2
    show bindL kindOf ((p, w) :: P.zip vs) m p = _
    unfold bindL
    rw [bindL_out fun v hv => (List.nodup_cons.mp nd).1 (List.of_mem_zip hv).1, if_pos hk]
    simp
  | p :: P, w :: vs, i + 1, m, nd, h1, h2, hk => by
    show bindL kindOf ((p, w) :: P.zip vs) m x = _
    unfold bindL
    exact bindL_get (i := i) (List.nodup_cons.mp nd).2 (by simpa using h1) (by simpa using h2) hk
theorem bindC_get {kindOf : Str → Option NameKind} {x : Str} {v : Value} : ∀ {P : List Str} {vs : List Value} {i : Nat} {m : Str → Option Value}, P.Nodup → P[i]? = some x → vs[i]? = some v → kindOf x ≠ some .local →
    bindC kindOf (P.zip vs) m x = some v
  | [], _, _, _, _, h, _, _ => by simp at h
  | _ :: _, [], _, _, _, _, h, _ => by simp at h
  | p :: P, w :: vs, 0, m, nd, h1, h2, hk => by
    simp at h1 h2; subst h1; subst h2
    show bindC kindOf ((p, w) :: P.zip vs) m p = _
    unfold bindC
    rw [bindC_out fun v hv => (List.nodup_cons.mp nd).1 (List.of_mem_zip hv).1, if_neg hk]
    simp
  | p :: P, w :: vs, i + 1, m, nd, h1, h2, hk => by
    show bindC kindOf ((p, w) :: P.zip vs) m x = _
    unfold bindC
    exact bindC_get (i := i) (List.nodup_cons.mp nd).2 (by simpa using h1) (by simpa using h2) hk

/-- the names' values at the entry -/
def start (N : List Str) (vs : List V) : St := vs.map some ++ List.replicate (N.length - vs.length) none

/-- the context of a def's body, at its entry; an exception leaves the frame, then lies as CX says -/
def cxOf (CX : CXT) (P : Program) (w : World) (K : PySem.W.Frag) (mg : Str → Option Value) (base : Heap) (N : List Str) (qual : Str) (scope : Scope) (f : Addr) (cd : Value) (A : Around) (outer : List Env) (s : Shared) (H : Hp) (E : XK) : Cx where
  prog := P
  w := w
  K := K
  mg := mg
  base := base
  A := A.deeper (envOfC qual scope s.heap.objs.size f cd)
  N := N
  s₀ := s
  H₀ := H
  env := envOfC qual scope s.heap.objs.size f cd
  outer := outer
  stack := envOfC qual scope s.heap.objs.size f cd :: outer
  ex := []
  calm := true
  fn := fun _ => true
  pn := []
  xe := fun e s' => wpAny (model P w) (A.deeper (envOfC qual scope s.heap.objs.size f cd)) (leaving (envOfC qual scope s.heap.objs.size f cd) e) (fun _ s'' => CX outer H s E e s'') (fun e' s'' => CX outer H s E e' s'') s'

theorem cell_has {sc : Scope} {n : Nat} {x : Str} (h : sc.names.lookup x = some .cell) : ∃ c, (cellsFrom n sc.names []).lookup x = some c := by
  have q := PySem.W.cellsFrom_some sc.names n [] (.inl h)
  exact Option.isSome_iff_exists.mp q

theorem inv_start {CX : CXT} {P : Program} {w : World} {K : PySem.W.Frag} {mg : Str → Option Value} {base : Heap} {N ps : List Str} {qual : Str} {scope : Scope} {f : Addr} {cd : Value} {A : Around} {outer : List Env} {s s1 : Shared} {H : Hp} {E : XK} {us : List Value} {vs : List V}
    (S : FnScope N ps scope) (hd : A.handled = none) (e0 : Env0 P w K mg base A outer s H) (hl : vs.length = ps.length) (r : Vals vs us)
    (x : InCallC s s.heap.objs.size (bindL (envOfC qual scope s.heap.objs.size f cd).kindOf (ps.zip us) fun _ => none) (cellsFrom (s.heap.objs.size + 1) scope.names []) (bindC (envOfC qual scope s.heap.objs.size f cd).kindOf (ps.zip us) fun _ => none) s1) :
    Inv (cxOf CX P w K mg base N qual scope f cd A outer s H E) [] (start N vs) H s1 := by
  have hpl : ps.length ≤ N.length := by have := congrArg List.length S.pre; rw [List.length_take] at this; omega
  obtain ⟨h1, tk, rfl, hk⟩ := x.done
  have noA : ∀ b : Addr, b ∉ (cxOf CX P w K mg base N qual scope f cd A outer s H E).ex := fun b z => absurd (show b ∈ ([] : List Addr) from z) (by simp)
  refine ⟨⟨e0.mod, S.kind, rfl, rfl, Nat.le_refl _, fun y z c h1 h2 => ?_, fun y hy => ?_, fun y c _ h => ?_, fun _ => hd, Around.frames_deeper e0.frames, .inr ⟨rfl, rfl⟩, fun b z => absurd z (noA b), e0.bs, e0.bsz, fun b _ _ => noA b, fun b z => absurd z (noA b), e0.funs, e0.frf⟩,
    rfl, e0.bare, Un.kept hk, ⟨_, x.toInCall.ns, fun i y v h1 h2 h3 => ?_⟩, fun y c h => ⟨_, x.cell y c h⟩, e0.hok.fresh (Nat.le_refl _), fun y c h => ?_, fun p hp => absurd (show p ∈ ([] : List (Addr × Obj)) from hp) (by simp), e0.hok.kept hk, ?_⟩
  · exact name_of_addr x.apart (PySem.mem_of_lookup h1) (PySem.mem_of_lookup h2)
  · have hy : scope.names.lookup y = some .cell ∨ scope.names.lookup y = some .free := hy
    rcases hy with hy | hy
    · exact cell_has hy
    · exact absurd rfl (S.nofree _ (PySem.mem_of_lookup hy))
  · exact Nat.le_of_lt (x.above y c (PySem.mem_of_lookup h))
  · have hi : i < vs.length := by
      unfold start at h2
      by_cases hi : i < vs.length
      · exact hi
      · rw [List.getElem?_append_right (by simpa using hi)] at h2
        rw [List.getElem?_replicate] at h2
        split at h2 <;> cases h2
    have ha : vs[i]? = some v := by
      unfold start at h2
      rw [List.getElem?_append_left (by simpa using hi), List.getElem?_map] at h2
      cases e : vs[i]? with
      | none => rw [e] at h2; cases h2
      | some a => rw [e] at h2; cases h2; rfl
    obtain ⟨u, hu, rv⟩ := r.get ha
    have hp : ps[i]? = some y := by
      rw [← S.pre, List.getElem?_take_of_lt (by omega)]; exact h1
    have ndP : ps.Nodup := by rw [← S.pre]; exact S.nd.sublist (List.take_sublist _ _)
    refine ⟨u, rv, ?_⟩
    rcases S.par y (List.mem_of_getElem? hp) with k | k
    · exact .inl ⟨k, bindL_get ndP hp hu k⟩
    · obtain ⟨c, e⟩ := cell_has (n := s.heap.objs.size + 1) k
      refine .inr ⟨.inl k, c, e, ?_⟩
      have q := x.cell y c e
      rw [bindC_get ndP hp hu (by show scope.names.lookup y ≠ _; rw [k]; decide)] at q
      exact q
  · exact e0.hok.fresh (Nat.le_of_lt (x.above y c (PySem.mem_of_lookup h)))
  · unfold start
    show _ = N.length
    rw [List.length_append, List.length_map, List.length_replicate]
    omega

/-- THE RULE: a def (or a method) of the text, by its body. The body's reading t is chosen for each entry; it is run at the parameters' values -/
theorem fn_of {CX : CXT} {P : Program} {w : World} {K : PySem.W.Frag} {mg : Str → Option Value} {base : Heap} {k : Nat} {f : Addr} {name qual : Str} {params : Arguments} {body : List Stmt} {scope : Scope} {dV kV doc pm cdv ct oc : Value} {an od : Option Addr}
    {osl : Array (Option Value)} {N ps : List Str} {sp : Sp} (lk : K.lookup f = some ⟨oc, od, .func (PySem.W.fnOf name qual params body scope dV kV doc pm an cdv ct), osl⟩) (hcd : PySem.W.codeIn K cdv qual = true) (S : FnScope N ps scope)
    (len : ∀ vs H Q E, sp vs H Q E → vs.length = ps.length)
    (hbody : ∀ (A : Around) (outer : List Env) (s : Shared) (H : Hp) (vs : List V) (Q : VK) (E : XK), Room k (A.deeper (envOfC qual scope s.heap.objs.size f cdv)) → sp vs H Q E →
      ∃ t, PSs (cxOf CX P w K mg base N qual scope f cdv A outer s H E) body t ∧ t { nx := fun _ H' => Q .non H', rt := Q } (start N vs) H) :
    FnOk P w K mg base CX (k + 1) f (PySem.W.fnOf name qual params body scope dV kV doc pm an cdv ct) ps sp := by
  refine ⟨len, fun A outer s H args us vs Q E hr e0 hb r hsp => ?_⟩
  have hl := len _ _ _ _ hsp
  have KX : K.In s.heap := e0.mod.kin.keeps fun b o e => (e0.bs b o e).1
  have lim : s.heap.NoLimit := e0.mod.nolimit.keeps fun b o e => (e0.bs b o e).1
  have hkind : ∀ y ∈ ps.zip us, scope.names.lookup y.1 = some .local ∨ (scope.names.lookup y.1 = some .cell ∧ ((cellsFrom (s.heap.objs.size + 1) scope.names []).lookup y.1).isSome = true) := fun ⟨n, v⟩ hy => by
    rcases S.par n (List.of_mem_zip hy).1 with q | q
    · exact .inl q
    · exact .inr ⟨q, PySem.W.cellsFrom_some _ _ _ (.inl q)⟩
  refine codeAny_call_function hr.depth (KX _ _ lk) rfl S.co S.gen rfl (PySem.W.codeRec_of KX hcd) (hb _ _ _ _ ?_)
  refine wpAny_newFunctionEnv_cells S.kind hkind fun env he s1 x => ?_
  subst he
  refine ⟨lim.keeps x.toInCall.keep, codeAny_func ?_⟩
  obtain ⟨t, ht, hq⟩ := hbody A outer s H vs Q E (hr.deeper _) hsp
  have I : Inv (cxOf CX P w K mg base N qual scope f cdv A outer s H E) [] (start N vs) H s1 := inv_start S hr.hd e0 hl r x
  refine wpAny_mono (ht [] s1 (start N vs) H _ I hq) (fun fl s' hs => ?_) fun e s' hs => hs
  have fin : ∀ {σ' : St} {H' : Hp} {v : V} {u : Value}, Inv (cxOf CX P w K mg base N qual scope f cdv A outer s H E) [] σ' H' s' → RelV v u → Q v H' → CE outer P w H s Q u s' :=
    fun {σ' H' v u} J rv q => ⟨v, H', J.os, J.bare, J.base, J.hok, rv, q⟩
  cases fl with
  | ret u =>
    obtain ⟨v, σ', H', J, rv, q⟩ := hs
    exact fin J rv q
  | next =>
    obtain ⟨σ', H', J, q⟩ := hs
    exact fin (v := V.non) (u := Value.none) J rfl q
  | brk =>
    obtain ⟨_, _, _, q⟩ := hs
    exact False.elim q
  | cont =>
    obtain ⟨_, _, _, q⟩ := hs
    exact False.elim q
end L2

namespace L2
open PySem PySem.Spec PyProof.Rows
section
variable {X : Cx} {x : Str} {p pos : Pos} {e : Expr} {es : List Expr} {t : TA} {id T : String} {r : List V → Hp → VK → Prop}

def tCB (r : List V → Hp → VK → Prop) (t : TA) : TE := fun σ H Q => t σ H fun vs H1 => r vs H1 Q
/-- f(e, ..), f a built-in function -/
theorem pe_callB (hc : CallR X (.builtin id) r) (hg : Gl X x) (hm : X.mg x = none) (hv : bootBuiltins x = some (.builtin id)) (ha : PA X (e :: es) t) (hn : x ≠ "__name__" := by decide) (hdb : (x == ("__debug__" : Str)) = false := by decide)
    (he : starEach (e :: es) X.env = (false, eval e X.env) :: starEach es X.env := by rfl) (hpl : (backTo pos (starEach es X.env)).any (·.1) = false := by rfl) : PE X (.Call (.Name x p) (e :: es) [] pos) (tCB r t) := by
  intro pins s σ H Q I h
  refine wpAny_Call_Name_kw (ld_blt I hg hm hv ?_ hn hdb)
  exact PyProof.Rows.callWith_builtin1 (thn (ha pos pins s σ H _ I h) fun us s1 ⟨vs, H1, I1, r1, q1⟩ => hc pins s1 σ H1 vs us Q I1 r1 q1) he hpl
/-- T(e, ..), T a built-in type -/
theorem pe_callTy (hc : CallR X (.type T) r) (hg : Gl X x) (hm : X.mg x = none) (hv : bootBuiltins x = some (.type T)) (ha : PA X (e :: es) t) (hn : x ≠ "__name__" := by decide) (hdb : (x == ("__debug__" : Str)) = false := by decide)
    (he : starEach (e :: es) X.env = (false, eval e X.env) :: starEach es X.env := by rfl) (hpl : (backTo pos (starEach es X.env)).any (·.1) = false := by rfl) : PE X (.Call (.Name x p) (e :: es) [] pos) (tCB r t) := by
  intro pins s σ H Q I h
  refine wpAny_Call_Name_kw (ld_blt I hg hm hv ?_ hn hdb)
  exact PyProof.Rows.callWith_type1 (thn (ha pos pins s σ H _ I h) fun us s1 ⟨vs, H1, I1, r1, q1⟩ => hc pins s1 σ H1 vs us Q I1 r1 q1) he hpl
end
end L2

namespace HT
open PySem PyProof.Rows

/-- t < u of tuples of ints -/
def lexLt : List Int → List Int → Bool
  | [], [] => false
  | [], _ :: _ => true
  | _ :: _, [] => false
  | x :: xs, y :: ys => if x = y then lexLt xs ys else decide (x < y)
section
open PySem.SeqAt
open PySem.AutoSeq1 (wpAny_loadPart')
open PySem.MeetsSeq PySem.MeetsSeq2 PySem.MeetsSeq3

end

section
variable {prog : Program} {w : World} {A : Around} {E : Value → Shared → Prop} {s : Shared}

/-! ### t[a:b], not the whole -/
/-- a slice's bound as a place among n (d where it is left out) -/
def sIx (n d : Nat) : Option Int → Nat
  | none => d
  | some v => if v < 0 then (v + (n : Int)).toNat else min v.toNat n
end
end HT

namespace L2
open PySem PySem.Spec PyProof.Rows

/-! ### the parts of a slice -/
abbrev TO := St → Hp → (Option Int → Hp → Prop) → Prop
/-- a slice's part (left out, or an int) -/
def PO (X : Cx) (e : Option Expr) (t : TO) : Prop :=
  ∀ (pins : List (Addr × Obj)) (s : Shared) (σ : St) (H : Hp) (Q : Option Int → Hp → Prop), Inv X pins σ H s → t σ H Q →
    wpAny (model X.prog X.w) X.A (evalPart e X.env) (fun u s' => ∃ o H', Inv X pins σ H' s' ∧ IsPart u o ∧ Q o H') X.xe s
def tNoPart : TO := fun _ H Q => Q none H
def tPart (t : TE) : TO := fun σ H Q => t σ H fun x H1 => ∃ i, x = .int i ∧ Q (some i) H1

section
variable {X : Cx} {e : Expr} {te : TE} {lo hi : Option Expr} {tl th : TO} {pos p2 : Pos}

/-- what a slice of a value is, by values: the slice object stands at sl -/
def SlR (X : Cx) (r : V → Option Int → Option Int → Hp → VK → Prop) : Prop :=
  ∀ (pins : List (Addr × Obj)) (s : Shared) (σ : St) (H : Hp) (x : V) (v vl vu : Value) (lo hi : Option Int) (sl : Addr) (Q : VK), Inv X pins σ H s → RelV x v → s.heap.IsSliceOf sl vl vu .none → IsPart vl lo → IsPart vu hi → r x lo hi H Q →
    ∃ T id, typeLookup (.type T) "__getitem__" = pure (some (.builtin id)) ∧ s.TypeIs v T ∧ wpAny (model X.prog X.w) X.A (getItem v (.ref sl)) (EP X pins σ Q) X.xe s
theorem SlR.or {r r' : V → Option Int → Option Int → Hp → VK → Prop} (h : SlR X r) (h' : SlR X r') : SlR X (fun x lo hi H Q => r x lo hi H Q ∨ r' x lo hi H Q) := by
  intro pins s σ H x v vl vu lo hi sl Q I rx hs pl pu q
  rcases q with q | q
  · exact h pins s σ H x v vl vu lo hi sl Q I rx hs pl pu q
  · exact h' pins s σ H x v vl vu lo hi sl Q I rx hs pl pu q
def tSl (r : V → Option Int → Option Int → Hp → VK → Prop) (te : TE) (tl th : TO) : TE := fun σ H Q => te σ H fun x H1 => tl σ H1 fun l H2 => th σ H2 fun u H3 => r x l u H3 Q
/-- the items of xs[lo:hi] -/
def cutV (xs : List V) (lo hi : Option Int) : List V := (xs.drop (HT.sIx xs.length 0 lo)).take (HT.sIx xs.length xs.length hi - HT.sIx xs.length 0 lo)
/-- t[lo:hi], not the whole of it (the whole would be t itself) -/
def rSlT (K : PySem.W.Frag) : V → Option Int → Option Int → Hp → VK → Prop := fun x lo hi H Q => ∃ a xs, x = .ref a ∧ SqT K H a xs ∧
  ¬ (HT.sIx xs.length 0 lo = 0 ∧ HT.sIx xs.length xs.length hi = xs.length) ∧ ∀ p, H p = none → Q (.ref p) (upd H p (.tup (cutV xs lo hi)))
/-! ### t < u, t + u -/
def rLtT (K : PySem.W.Frag) : R2 := fun x y H Q => ∃ a b ns ms, x = .ref a ∧ y = .ref b ∧ SqT K H a (ns.map V.int) ∧ SqT K H b (ms.map V.int) ∧ Q (.bl (HT.lexLt ns ms)) H
/-- t + u, t not empty: u empty gives t itself -/
def rCatT (K : PySem.W.Frag) : R2 := fun x y H Q => ∃ a b xs ys, x = .ref a ∧ y = .ref b ∧ SqT K H a xs ∧ SqT K H b ys ∧ xs ≠ [] ∧ xs.length + ys.length ≤ sizeLine ∧
  (ys = [] → Q (.ref a) H) ∧ (ys ≠ [] → ∀ p, H p = none → Q (.ref p) (upd H p (.tup (xs ++ ys))))
end
end L2

namespace L2
open PySem PySem.Spec PyProof.Rows

/-! ### places -/
/-- the place that an index of any sign means -/
def ixN (n : Nat) (i : Int) : Option Nat := if 0 ≤ i then (if i < n then some i.toNat else none) else if -(n : Int) ≤ i then some (i + n).toNat else none
def atI {α : Type} (xs : List α) (i : Int) : Option α := (ixN xs.length i).bind fun j => xs[j]?
theorem ixN_seq {n : Nat} {i : Int} {j : Nat} (h : ixN n i = some j) : seqIndex? i n = some j ∧ j < n ∧ -(n : Int) ≤ i ∧ i < n := by
  unfold ixN at h
  by_cases h0 : 0 ≤ i
  · rw [if_pos h0] at h
    by_cases h1 : i < n
    · rw [if_pos h1] at h
      have e : i.toNat = j := Option.some.inj h
      exact ⟨by rw [seqIndex_of h0 h1, e], by omega, by omega, h1⟩
    · rw [if_neg h1] at h; cases h
  · rw [if_neg h0] at h
    by_cases h1 : -(n : Int) ≤ i
    · rw [if_pos h1] at h
      have e : (i + n).toNat = j := Option.some.inj h
      exact ⟨by rw [seqIndex_neg (by omega) h1, e], by omega, h1, by omega⟩
    · rw [if_neg h1] at h; cases h
theorem atI_get {α : Type} {xs : List α} {i : Int} {v : α} (h : atI xs i = some v) : ∃ j, seqIndex? i xs.length = some j ∧ xs[j]? = some v ∧ j < xs.length ∧ -(xs.length : Int) ≤ i ∧ i < xs.length := by
  unfold atI at h
  cases e : ixN xs.length i with
  | none => rw [e] at h; cases h
  | some j =>
    rw [e] at h
    obtain ⟨h1, h2, h3, h4⟩ := ixN_seq e
    exact ⟨j, h1, h, h2, h3, h4⟩
theorem atI_nat {α : Type} {xs : List α} {j : Nat} {v : α} (h : xs[j]? = some v) : atI xs (j : Int) = some v := by
  have hj : j < xs.length := (List.getElem?_eq_some_iff.mp h).1
  have e : ixN xs.length (j : Int) = some j := by
    unfold ixN
    rw [if_pos (by omega), if_pos (by omega)]; simp
  unfold atI; rw [e]; exact h
/-! ### what may be subscripted -/
/-- what stands as an index of a plain subscript -/
def PlainIx (b : Expr) : Prop := ∀ o i, subscripted b false o i = operate [o, i] (getItem o i)
/-- a subscript by values -/
def IxR (X : Cx) (r : R2) : Prop :=
  ∀ (value slice : Expr) (pins : List (Addr × Obj)) (s : Shared) (σ : St) (H : Hp) (x y : V) (v u : Value) (Q : VK), Inv X pins σ H s → RelV x v → RelV y u → r x y H Q →
    subscripted slice false v u = operate [v, u] (getItem v u) → wpAny (model X.prog X.w) X.A (subscriptTail value slice v u) (EP X pins σ Q) X.xe s
/-- a call of a builtin's method by values: the receiver, the arguments -/
def MtR (X : Cx) (id : String) (r : V → List V → Hp → VK → Prop) : Prop :=
  ∀ (pins : List (Addr × Obj)) (s : Shared) (σ : St) (H : Hp) (x : V) (xs : List V) (v : Value) (us : List Value) (Q : VK), Inv X pins σ H s → RelV x v → Vals xs us → r x xs H Q →
    wpAny (model X.prog X.w) X.A (call (.builtin id) (v :: us)) (EP X pins σ Q) X.xe s
section
variable {X : Cx} {a b : Expr} {ta tb : TE} {pos : Pos}
theorem IxR.or {r r' : R2} (h : IxR X r) (h' : IxR X r') : IxR X (fun x y H Q => r x y H Q ∨ r' x y H Q) := by
  intro value slice pins s σ H x y v u Q I rx ry q hs
  rcases q with q | q
  · exact h value slice pins s σ H x y v u Q I rx ry q hs
  · exact h' value slice pins s σ H x y v u Q I rx ry q hs
theorem MtR.or {id : String} {r r' : V → List V → Hp → VK → Prop} (h : MtR X id r) (h' : MtR X id r') : MtR X id (fun x xs H Q => r x xs H Q ∨ r' x xs H Q) := by
  intro pins s σ H x xs v us Q I rx rs q
  rcases q with q | q
  · exact h pins s σ H x xs v us Q I rx rs q
  · exact h' pins s σ H x xs v us Q I rx rs q
/-- a[b] -/
theorem pe_ix {r : R2} (hr : IxR X r) (ha : PE X a ta) (hb : PE X b tb) (hs : PlainIx b) : PE X (.Subscript a b pos) (tOp r ta tb) := by
  intro pins s σ H Q I h
  exact Subscript_ (binT ha hb I h fun v u s2 x y H2 I2 rx ry q => hr a b pins s2 σ H2 x y v u Q I2 rx ry q (hs _ _))

def rIxL (K : PySem.W.Frag) : R2 := fun x y H Q => ∃ p xs i v, x = .ref p ∧ y = .int i ∧ SqL K H p xs ∧ atI xs i = some v ∧ Q v H
def rIxT (K : PySem.W.Frag) : R2 := fun x y H Q => ∃ p xs i v, x = .ref p ∧ y = .int i ∧ SqT K H p xs ∧ atI xs i = some v ∧ Q v H
def rIxS : R2 := fun x y H Q => ∃ z i c, x = .str z ∧ y = .int i ∧ z.length ≤ sizeLine ∧ atI z.cps.toList i = some c ∧ Q (.str ⟨#[c]⟩) H
theorem ix_list : IxR X (rIxL X.K) := by
  intro value slice pins s σ H x y v u Q I rx ry h hs
  obtain ⟨p, xs, i, z, rfl, rfl, hq, he, q⟩ := h
  cases rx
  obtain ⟨t, rfl⟩ := ry
  obtain ⟨its, r, pl, hz⟩ := I.list hq
  obtain ⟨j, h1, h2, h3, h4, h5⟩ := atI_get he
  obtain ⟨w, ew, rw'⟩ := r.get h2
  have hl := r.length
  have hn := line63
  have fin : EP X pins σ Q w s := ⟨z, H, I, rw', q⟩
  by_cases h0 : 0 ≤ i
  · have hj : i.toNat = j := by
      rw [seqIndex_of h0 h5] at h1
      exact Option.some.inj h1
    exact item_listR pl.isList h0 (by omega) (by rw [hj]; simpa using ew) fin hs
  · have hj : (i + (its.toArray.size : Int)).toNat = j := by
      rw [seqIndex_neg (by omega) h4] at h1
      rw [List.size_toArray, ← hl]
      exact Option.some.inj h1
    exact subscriptTail_builtinR (x := w) pl.isList.typeIs slot_list_getitem.lookup
      (wpAny_getItem_list_neg (Q := fun r s' => r = w ∧ EP X pins σ Q r s') pl.isList (by omega) (by rw [List.size_toArray] <;> omega) (by omega) (by rw [hj]; simpa using ew) ⟨rfl, fin⟩) hs
theorem ix_tup : IxR X (rIxT X.K) := by
  intro value slice pins s σ H x y v u Q I rx ry h hs
  obtain ⟨p, xs, i, z, rfl, rfl, hq, he, q⟩ := h
  cases rx
  obtain ⟨t, rfl⟩ := ry
  obtain ⟨its, r, pl, hz⟩ := I.tuple hq
  obtain ⟨j, h1, h2, h3, h4, h5⟩ := atI_get he
  obtain ⟨w, ew, rw'⟩ := r.get h2
  have hl := r.length
  have hn := line63
  have fin : EP X pins σ Q w s := ⟨z, H, I, rw', q⟩
  exact subscriptTail_builtinR (x := w) pl.typeIs slot_tuple_getitem.lookup
    (getItem_tuple (j := j) (Q := fun r s' => r = w ∧ EP X pins σ Q r s') pl (by omega) (by omega) (by rw [List.size_toArray, ← hl]; exact h1) (by simpa using ew) ⟨rfl, fin⟩) hs
theorem ix_str : IxR X rIxS := by
  intro value slice pins s σ H x y v u Q I rx ry h hs
  obtain ⟨z, i, c, rfl, rfl, hz, he, q⟩ := h
  obtain ⟨t, rfl⟩ := rx
  obtain ⟨t', rfl⟩ := ry
  obtain ⟨j, h1, h2, h3, h4, h5⟩ := atI_get he
  have hl : z.cps.toList.length = z.length := by simp [Str.length]
  rw [hl] at h1 h4 h5
  have hn := line63
  exact tail_any (typeIs_str s z t) slot_str_getitem.lookup (getItem_str (c := c) (by
    have e1 : decide (i < -(2 ^ 63 : Int)) = false := decide_eq_false (by omega)
    have e2 : decide (i ≥ 2 ^ 63) = false := decide_eq_false (by omega)
    rw [e1, e2, Bool.or_false]) (by rw [h1]; simpa using h2) ⟨.str ⟨#[c]⟩, H, I.tok _, ⟨_, rfl⟩, q⟩) hs
/-- list, tuple or str -/
def rIx (K : PySem.W.Frag) : R2 := fun x y H Q => rIxL K x y H Q ∨ rIxT K x y H Q ∨ rIxS x y H Q
/-! ### xs[i] = v, any sign -/
/-- the list's object behind a store -/
theorem mapSeq_set (its : List Value) (n j : Nat) (u : Value) : Obj.mapSeq (·.setIfInBounds j u) { cls := .type "list", data := .seq its.toArray n } = { cls := .type "list", data := .seq (its.set j u).toArray n } := by
  simp [Obj.mapSeq]
theorem Inv.lst {pins : List (Addr × Obj)} {σ : St} {H : Hp} {s : Shared} {p : Addr} {xs : List V} (I : Inv X pins σ H s) (h : H p = some (.lst xs)) :
    ∃ (its : List Value) (n : Nat), Vals xs its ∧ s.heap.get? p = some { cls := .type "list", data := .seq its.toArray n } ∧ xs.length ≤ sizeLine := by
  obtain ⟨z, its, n, r, e⟩ := I.hok p _ h
  exact ⟨its, n, r, e, z⟩
/-- the list at p is written by an update of its object -/
theorem Inv.lstUpd {pins : List (Addr × Obj)} {σ : St} {H : Hp} {s : Shared} {p : Addr} {xs ys : List V} {its its' : List Value} {n n' : Nat} {f : Obj → Obj} (I : Inv X pins σ H s) (h : H p = some (.lst xs))
    (ho : s.heap.get? p = some { cls := .type "list", data := .seq its.toArray n }) (hf : f { cls := .type "list", data := .seq its.toArray n } = { cls := .type "list", data := .seq its'.toArray n' }) (r : Vals ys its') (hz : ys.length ≤ sizeLine) (t : Nat) :
    Inv X pins σ (upd H p (.lst ys)) { s with heap := s.heap.update p f, toks := t } := by
  have e : (s.heap.update p f).get? p = some { cls := .type "list", data := .seq its'.toArray n' } := by
    rw [Heap.get?_update_self f ho (by rw [hf] <;> rfl), hf]
  refine I.write (x := p) (e := p) (by rw [h]; trivial) (.inl rfl) (fun b u hb q => (Heap.get?_update_other _ _ (Ne.symm hb)).trans q) ⟨_, e⟩ ?_
  exact ⟨hz, its', n', r, e⟩
def rSetL : V → V → V → Hp → (Hp → Prop) → Prop := fun o i v H Q => ∃ p xs k j, o = .ref p ∧ i = .int k ∧ H p = some (.lst xs) ∧ ixN xs.length k = some j ∧ Q (upd H p (.lst (xs.set j v)))
theorem set_list : PSet X rSetL := by
  intro pins s σ H o i v ov iv u Q I ro ri rv h
  obtain ⟨p, xs, k, j, rfl, rfl, hp, hj, q⟩ := h
  cases ro
  obtain ⟨t, rfl⟩ := ri
  obtain ⟨its, n, r, ho, hz⟩ := I.lst hp
  obtain ⟨h1, h2, h3, h4⟩ := ixN_seq hj
  have hl := r.length
  have hn := line63
  have I' : Inv X pins σ (upd H p (.lst (xs.set j v))) { s with heap := s.heap.update p (Obj.mapSeq (·.setIfInBounds j u)) } :=
    I.lstUpd hp ho (mapSeq_set its n j u) (r.set rv j) (by rw [List.length_set]; exact hz) s.toks
  by_cases h0 : 0 ≤ k
  · have hk : k.toNat = j := by
      rw [seqIndex_of h0 h4] at h1
      exact Option.some.inj h1
    exact PySem.W.ki_setAt ho h0 (by omega) (by rw [List.size_toArray, ← hl]; exact h4) (by rw [hk]; exact ⟨_, I', q⟩)
  · have hk : (k + (its.toArray.size : Int)).toNat = j := by
      rw [seqIndex_neg (by omega) h3] at h1
      rw [List.size_toArray, ← hl]
      exact Option.some.inj h1
    exact PySem.W.ki_setBack ho (by omega) (by rw [List.size_toArray, ← hl]; exact h3) (by omega) (by rw [hk]; exact ⟨_, I', q⟩)

/-! ### slices -/
/-- xs[lo:hi] of a list: a new list -/
def rSlL (K : PySem.W.Frag) : V → Option Int → Option Int → Hp → VK → Prop := fun x lo hi H Q => ∃ a xs, x = .ref a ∧ SqL K H a xs ∧ ∀ p, H p = none → Q (.ref p) (upd H p (.lst (cutV xs lo hi)))
/-! ### in, not in: flat items -/
def flatV : V → Bool
  | .non => true
  | .bl _ => true
  | .int _ => true
  | .str _ => true
  | _ => false
/-- == of flat values -/
def eqV : V → V → Bool
  | .non, .non => true
  | .bl a, .bl b => a == b
  | .bl a, .int b => (if a then 1 else 0) == b
  | .int a, .bl b => a == (if b then 1 else 0)
  | .int a, .int b => a == b
  | .str a, .str b => a == b
  | _, _ => false
theorem eqAt_V {A : Around} {s : Shared} {y x : V} {u v : Value} (ry : RelV y u) (rx : RelV x v) (fy : flatV y = true) (fx : flatV x = true) : SeqAt.EqAt A s u v (eqV y x) := by
  cases y with
  | non =>
    cases ry
    cases x with
    | non => cases rx; exact SeqAt.EqAt.same _
    | bl b => cases rx; exact SeqAt.EqAt.none_bool b
    | int b => obtain ⟨t, rfl⟩ := rx; exact SeqAt.EqAt.none_int b t
    | str b => obtain ⟨t, rfl⟩ := rx; exact SeqAt.EqAt.none_str b t
    | _ => exact absurd (show false = true from fx) Bool.false_ne_true
  | bl a =>
    cases ry
    cases x with
    | non => cases rx; exact SeqAt.EqAt.bool_none a
    | bl b => cases rx; exact SeqAt.EqAt.bool_bool a b
    | int b => obtain ⟨t, rfl⟩ := rx; exact SeqAt.EqAt.bool_int a b t
    | str b => obtain ⟨t, rfl⟩ := rx; exact SeqAt.EqAt.bool_str a b t
    | _ => exact absurd (show false = true from fx) Bool.false_ne_true
  | int a =>
    obtain ⟨t', rfl⟩ := ry
    cases x with
    | non => cases rx; exact SeqAt.EqAt.int_none a t'
    | bl b => cases rx; exact SeqAt.EqAt.int_bool a t' b
    | int b => obtain ⟨t, rfl⟩ := rx; exact SeqAt.EqAt.int_int a t' b t
    | str b => obtain ⟨t, rfl⟩ := rx; exact SeqAt.EqAt.int_str a t' b t
    | _ => exact absurd (show false = true from fx) Bool.false_ne_true
  | str a =>
    obtain ⟨t', rfl⟩ := ry
    cases x with
    | non => cases rx; exact SeqAt.EqAt.str_none a t'
    | bl b => cases rx; exact SeqAt.EqAt.str_bool a t' b
    | int b => obtain ⟨t, rfl⟩ := rx; exact SeqAt.EqAt.str_int a t' b t
    | str b => obtain ⟨t, rfl⟩ := rx; exact SeqAt.EqAt.str_str a t' b t
    | _ => exact absurd (show false = true from fx) Bool.false_ne_true
  | _ => exact absurd (show false = true from fy) Bool.false_ne_true
/-- the items' answers, read off the values (a value's own answer does not lean on its token) -/
def eqU (x : V) (u : Value) : Bool := match u with
  | .none => eqV .non x
  | .bool b => eqV (.bl b) x
  | .int i _ => eqV (.int i) x
  | .str z _ => eqV (.str z) x
  | _ => false
theorem eqU_of {x y : V} {u : Value} (r : RelV y u) (f : flatV y = true) : eqU x u = eqV y x := by
  cases y with
  | non => cases r; rfl
  | bl b => cases r; rfl
  | int i => obtain ⟨t, rfl⟩ := r; rfl
  | str z => obtain ⟨t, rfl⟩ := r; rfl
  | _ => exact absurd (show false = true from f) Bool.false_ne_true
theorem any_eqU {x : V} : ∀ {xs : List V} {us : List Value}, Vals xs us → xs.all flatV = true → us.any (eqU x) = xs.any fun y => eqV y x
  | _, _, .nil, _ => rfl
  | y :: xs, u :: us, .cons r t, f => by
    rw [List.all_cons, Bool.and_eq_true] at f
    rw [List.any_cons, List.any_cons, eqU_of r f.1, any_eqU t f.2]
theorem mem_eqAt {A : Around} {s : Shared} {x : V} {v : Value} (rx : RelV x v) (fx : flatV x = true) : ∀ {xs : List V} {us : List Value}, Vals xs us → xs.all flatV = true → ∀ u ∈ us, SeqAt.EqAt A s u v (eqU x u)
  | _, _, .nil, _ => fun u hu => by cases hu
  | y :: xs, u :: us, .cons r t, f => fun u' hu => by
    rw [List.all_cons, Bool.and_eq_true] at f
    rcases List.mem_cons.mp hu with rfl | hu
    · rw [eqU_of r f.1]; exact eqAt_V r rx f.1 fx
    · exact mem_eqAt rx fx t f.2 u' hu
def inV (x : V) (xs : List V) : Bool := xs.any fun y => eqV y x
/-- x in a list or tuple of flat items -/
def rIn (K : PySem.W.Frag) (neg : Bool) : R2 := fun x y H Q => ∃ p xs, y = .ref p ∧ (SqL K H p xs ∨ SqT K H p xs) ∧ flatV x = true ∧ xs.all flatV = true ∧ Q (.bl (if neg then !inV x xs else inV x xs)) H
theorem op_notIn_seq : OpR X (compareOp .NotIn) (rIn X.K true) := by
  intro pins s σ H x y v u Q I rx ry h
  obtain ⟨p, xs, rfl, hq, fx, fs, q⟩ := h
  cases ry
  rcases hq with hq | hq
  · obtain ⟨its, r, pl, hz⟩ := I.list hq
    refine SeqAt.notIn_listAt (eqU x) pl.isList (fun w hw => mem_eqAt rx fx r fs w (by simpa using hw)) ⟨.bl _, H, I, rfl, ?_⟩
    rw [show its.toArray.any (eqU x) = its.any (eqU x) by simp, any_eqU r fs]
    exact q
  · obtain ⟨its, r, pl, hz⟩ := I.tuple hq
    refine SeqAt.notIn_tupleAt (eqU x) pl (fun w hw => mem_eqAt rx fx r fs w (by simpa using hw)) ⟨.bl _, H, I, rfl, ?_⟩
    rw [show its.toArray.any (eqU x) = its.any (eqU x) by simp, any_eqU r fs]
    exact q
/-! ### len, list(x), tuple(x) of any list or tuple that is read -/
theorem call_len_seq : CallR X (.builtin "len") (fun xs H Q => ∃ p ys, xs = [.ref p] ∧ (SqL X.K H p ys ∨ SqT X.K H p ys) ∧ Q (.int ys.length) H) := by
  intro pins s σ H xs us Q I r h
  obtain ⟨p, ys, rfl, hq, q⟩ := h
  obtain ⟨u, rfl, rx⟩ := vals1 r
  cases rx
  have hn := line63
  rcases hq with hq | hq
  · obtain ⟨its, r', pl, hz⟩ := I.list hq
    have hlen := r'.length
    exact Calls.call_len_list pl.isList (by simp only [List.size_toArray] <;> omega) ⟨.int ys.length, H, I.tok _, ⟨s.toks + 1, by rw [List.size_toArray, hlen]⟩, q⟩
  · obtain ⟨its, r', pl, hz⟩ := I.tuple hq
    have hlen := r'.length
    exact len_tuple pl (by simp only [List.size_toArray] <;> omega) ⟨.int ys.length, H, I.tok _, ⟨s.toks + 1, by rw [List.size_toArray, hlen]⟩, q⟩
theorem CallR.or {f : Value} {r r' : List V → Hp → VK → Prop} (h : CallR X f r) (h' : CallR X f r') : CallR X f (fun xs H Q => r xs H Q ∨ r' xs H Q) := by
  intro pins s σ H xs us Q I rs q
  rcases q with q | q
  · exact h pins s σ H xs us Q I rs q
  · exact h' pins s σ H xs us Q I rs q
theorem call_list_of : CallR X (.type "list") (fun xs H Q => ∃ p ys, xs = [.ref p] ∧ (SqL X.K H p ys ∨ SqT X.K H p ys) ∧ ∀ l, H l = none → Q (.ref l) (upd H l (.lst ys))) := by
  intro pins s σ H xs us Q I r h
  obtain ⟨p, ys, rfl, hq, q⟩ := h
  obtain ⟨u, rfl, rx⟩ := vals1 r
  cases rx
  have fin : ∀ (its : List Value), Vals ys its → ys.length ≤ sizeLine → ∀ (h' : Heap) (c' : Nat), (∀ b o', s.heap.get? b = some o' → h'.get? b = some o') →
      h'.get? s.heap.objs.size = some { cls := .type "list", dict := none, data := .seq its.toArray c', slots := #[] } → EP X pins σ Q (.ref s.heap.objs.size) { s with heap := h' } := fun its r' hz h' c' kp e =>
    ⟨.ref s.heap.objs.size, _, I.laid (t' := s.toks) kp (Nat.le_refl _) (show ObjOk X.prog X.w _ h' _ (.lst ys) from ⟨hz, its, c', r', e⟩), rfl, q _ (I.hok.fresh (Nat.le_refl _))⟩
  rcases hq with hq | hq
  · obtain ⟨its, r', pl, hz⟩ := I.list hq
    have hlen := r'.length
    obtain ⟨o, ho, hc, n, hd⟩ := pl.isList
    exact call_list_seq p (.inl rfl) ho hc hd (fun h' c' kp e => fin its r' hz h' c' kp e) (by simp only [List.size_toArray] <;> omega)
  · obtain ⟨its, r', pl, hz⟩ := I.tuple hq
    have hlen := r'.length
    obtain ⟨o, ho, hc, n, hd⟩ := pl
    exact call_list_seq p (.inr rfl) ho hc hd (fun h' c' kp e => fin its r' hz h' c' kp e) (by simp only [List.size_toArray] <;> omega)
/-! ### the call of a builtin's method: o.m(..) -/
/-- the value is of that builtin type -/
def tyV (K : PySem.W.Frag) (T : String) (x : V) (H : Hp) : Prop := match x with
  | .str _ => T = "str"
  | .int _ => T = "int"
  | .ref p => (T = "list" ∧ ∃ xs, SqL K H p xs) ∨ (T = "tuple" ∧ ∃ o, K.lookup p = some o ∧ o.cls = .type "tuple" ∧ o.dict = none) ∨
      (T = "dict" ∧ ((∃ kvs, H p = some (.dK kvs)) ∨ ∃ kvs, H p = some (.dT kvs))) ∨ (T = "set" ∧ ∃ S n, H p = some (.set S n))
  | _ => False
theorem tyV_is {pins : List (Addr × Obj)} {σ : St} {H : Hp} {s : Shared} {T : String} {x : V} {v : Value} (I : Inv X pins σ H s) (r : RelV x v) (ty : tyV X.K T x H) :
    s.TypeIs v T ∧ ∀ a, v = .ref a → ∃ ob, s.heap.get? a = some ob ∧ ob.dict = none := by
  cases x with
  | str z =>
    obtain ⟨t, rfl⟩ := r
    cases (show T = "str" from ty)
    exact ⟨typeIs_str s z t, fun _ e => nomatch e⟩
  | int i =>
    obtain ⟨t, rfl⟩ := r
    cases (show T = "int" from ty)
    exact ⟨typeIs_int s i t, fun _ e => nomatch e⟩
  | ref p =>
    cases r
    rcases ty with ⟨rfl, xs, hq⟩ | ⟨rfl, o, hk, hc, hd⟩ | ⟨rfl, hk⟩ | ⟨rfl, S, n, hk⟩
    · obtain ⟨its, _, pl, _⟩ := I.list hq
      refine ⟨pl.isList.typeIs, fun a e => ?_⟩
      cases e
      obtain ⟨o, n, e, c, hd, _⟩ := pl
      exact ⟨o, e, hd⟩
    · refine ⟨⟨o, I.kIn p o hk, hc⟩, fun a e => ?_⟩
      cases e
      exact ⟨o, I.kIn _ o hk, hd⟩
    · have z : ∃ o, s.heap.get? p = some o ∧ o.ExactDict := by
        rcases hk with ⟨kvs, hk⟩ | ⟨kvs, hk⟩
        · obtain ⟨_, _, _, _, o, _, _, e, ex, _⟩ := I.hok p _ hk
          exact ⟨o, e, ex⟩
        · obtain ⟨_, _, _, _, o, _, _, e, ex, _⟩ := I.hok p _ hk
          exact ⟨o, e, ex⟩
      obtain ⟨o, e, ex⟩ := z
      refine ⟨⟨o, e, ex.1⟩, fun a e2 => ?_⟩
      cases e2
      exact ⟨o, e, ex.2.1⟩
    · obtain ⟨o, _, _, _, e, ex, _⟩ := I.hok p _ hk
      refine ⟨⟨o, e, ex.1⟩, fun a e2 => ?_⟩
      cases e2
      exact ⟨o, e, ex.2.1⟩
  | _ => exact False.elim ty
def tBM0 (K : PySem.W.Frag) (T : String) (r : V → List V → Hp → VK → Prop) (to : TE) : TE := fun σ H Q => to σ H fun x H1 => tyV K T x H1 ∧ r x [] H1 Q
def tBM (K : PySem.W.Frag) (T : String) (r : V → List V → Hp → VK → Prop) (to : TE) (t : TA) : TE := fun σ H Q => to σ H fun x H1 => tyV K T x H1 ∧ t σ H1 fun xs H2 => r x xs H2 Q
variable {o e : Expr} {es : List Expr} {to : TE} {t : TA} {name : Str} {apos cpos : Pos} {T id : String} {r : V → List V → Hp → VK → Prop}
theorem pe_bm (pa : PlainAttrs T) (slot : Slot T name id) (hty : typeOf (.builtin id) = pure (.type "method_descriptor")) (hm : MtR X id r) (ho : PE X o to) (ha : PA X (e :: es) t)
    (hbase : attributeBase o name X.env (eval o X.env) = eval o X.env := by rfl)
    (hfew : ((backTo cpos (starEach (e :: es) X.env)).all (fun x => !x.1) && (backToKw cpos (keywordEach [] X.env)).all (fun x => x.1.isSome)
      && decide ((e :: es).length + ([] : List Keyword).length + (if ([] : List Keyword).isEmpty then 0 else 1) < 30)) = true := by rfl)
    (hline : (apos.endLine == cpos.line) = true := by rfl) (hs : starEach (e :: es) X.env = (false, eval e X.env) :: starEach es X.env := by rfl) (hplain : (backTo cpos (starEach es X.env)).any (·.1) = false := by rfl) :
    PE X (.Call (.Attribute o name apos) (e :: es) [] cpos) (tBM X.K T r to t) := by
  intro pins s σ H Q I h
  refine wpAny_Call_method_late hbase hfew hline rfl (thn (ho pins s σ H _ I h) fun v s1 ⟨x, H1, I1, r1, ty, q1⟩ => ?_)
  obtain ⟨h1, h2⟩ := tyV_is I1 r1 ty
  refine ⟨T, id, pa, slot, hty, h1, h2, ?_⟩
  have hA := ha cpos pins s1 σ H1 _ I1 q1
  rw [hs] at hA ⊢
  refine Calls.callWith_builtin (by show (false || (backTo cpos (starEach es X.env)).any (·.1)) = false; rw [hplain] <;> rfl) (Calls.evalArgs_plain ?_)
  exact thn hA fun us s2 ⟨vs, H2, I2, r2, q2⟩ => hm pins s2 σ H2 x vs v us Q I2 r1 r2 q2
/- xs.append(e), list.index on a module's tuple .. are MtR facts of 06m -/
end
end L2

namespace L2
open PySem PySem.Spec PyProof.Rows

def MtM (X : Cx) (id : String) (r : V → List V → Hp → VK → Prop) : Prop :=
  ∀ (pins : List (Addr × Obj)) (s : Shared) (σ : St) (H : Hp) (x : V) (xs : List V) (v : Value) (us : List Value) (Q : VK), Inv X pins σ H s → RelV x v → Vals xs us → r x xs H Q →
    wpAny (model X.prog X.w) X.A (call (.builtin id) (v :: us)) (EP X pins σ Q) X.xe s

/-! ### lists of values -/
theorem Vals.one : ∀ {x : V} {us : List Value}, Vals [x] us → ∃ u, us = [u] ∧ RelV x u
  | _, _, .cons r .nil => ⟨_, rfl, r⟩
theorem Vals.two : ∀ {x y : V} {us : List Value}, Vals [x, y] us → ∃ u v, us = [u, v] ∧ RelV x u ∧ RelV y v
  | _, _, _, .cons r (.cons q .nil) => ⟨_, _, rfl, r, q⟩
theorem Vals.zero : ∀ {us : List Value}, Vals [] us → us = []
  | _, .nil => rfl
theorem Vals.dropLast {xs : List V} {us : List Value} (h : Vals xs us) : Vals xs.dropLast us.dropLast := by
  induction h with
  | nil => exact .nil
  | cons r t ih =>
    cases t with
    | nil => exact .nil
    | cons q t' => exact .cons r ih
theorem Vals.eraseIdx : ∀ {xs : List V} {us : List Value} (i : Nat), Vals xs us → Vals (xs.eraseIdx i) (us.eraseIdx i)
  | _, _, _, .nil => .nil
  | _, _, 0, .cons _ t => t
  | _, _, i + 1, .cons r t => .cons r (Vals.eraseIdx i t)
theorem Vals.reverse {xs : List V} {us : List Value} (h : Vals xs us) : Vals xs.reverse us.reverse := by
  induction h with
  | nil => exact .nil
  | cons r t ih => rw [List.reverse_cons, List.reverse_cons]; exact Vals.append ih (.cons r .nil)
section
variable {X : Cx} {pins : List (Addr × Obj)} {σ : St} {H : Hp} {s : Shared} {l b : Addr} {xs ys zs : List V}

/-! ### the two steps: a tracked list is rewritten, a new list is laid -/
theorem Inv.lset {its its' : List Value} {n : Nat} {f : Array Value → Array Value} {t' : Nat} (I : Inv X pins σ H s) (hH : H l = some (.lst xs))
    (e : s.heap.get? l = some { cls := .type "list", data := .seq its.toArray n }) (hf : f its.toArray = its'.toArray) (hv : Vals ys its') (hz : ys.length ≤ sizeLine) :
    Inv X pins σ (upd H l (.lst ys)) { s with heap := s.heap.update l (Obj.mapSeq f), toks := t' } := by
  have q := PySem.IsL.update e f
  rw [hf] at q
  refine I.write (x := l) (e := l) (by rw [hH]; exact trivial) (.inl rfl) (fun b' u hb hu => (Heap.get?_update_other s.heap (Obj.mapSeq f) (Ne.symm hb)).trans hu) ⟨_, q⟩ ?_
  exact ⟨hz, its', _, hv, q⟩
theorem Inv.lnew {its : List Value} {t' : Nat} (I : Inv X pins σ H s) (hv : Vals ys its) (hz : ys.length ≤ sizeLine) :
    Inv X pins σ (upd H s.heap.objs.size (.lst ys)) { s with heap := s.heap.push { cls := .type "list", data := .seq its.toArray }, toks := t' } :=
  I.laid (fun _ _ q => Heap.get?_push_of_some _ q) (Nat.le_refl _) ⟨hz, its, 0, hv, Heap.get?_push_size _ rfl⟩
theorem Inv.fresh (I : Inv X pins σ H s) : H s.heap.objs.size = none := I.hok.fresh (Nat.le_refl _)
theorem Inv.lstM (I : Inv X pins σ H s) (hH : H l = some (.lst xs)) : xs.length ≤ sizeLine ∧ ∃ (its : List Value) (n : Nat), Vals xs its ∧ xs.length = its.length ∧ s.heap.get? l = some { cls := .type "list", data := .seq its.toArray n } := by
  obtain ⟨z, its, n, r, e⟩ := I.hok l _ hH
  exact ⟨z, its, n, r, r.length, e⟩

end

section
variable {X : Cx}

/-! ### methods -/
def rAppend : V → List V → Hp → VK → Prop := fun x vs H Q => ∃ l xs y, x = .ref l ∧ vs = [y] ∧ H l = some (.lst xs) ∧ xs.length < sizeLine ∧ Q .non (upd H l (.lst (xs ++ [y])))
theorem mt_append : MtM X "list.append" rAppend := by
  intro pins s σ H x vs v us Q I rx rv h
  obtain ⟨l, xs, y, rfl, rfl, hH, hz, q⟩ := h
  cases rx
  obtain ⟨u, rfl, ru⟩ := rv.one
  obtain ⟨z, its, n, r, hl, e⟩ := I.lstM hH
  refine call_meets F.slot_list_append ⟨_, e, rfl⟩ F.entry_list_append (F.args_list_append_2 _ _) (PySem.list_append l its.toArray n u (by rw [List.size_toArray]; omega)) ⟨e, ?_⟩
  refine ⟨.non, _, I.lset (its' := its ++ [u]) hH e (by simp) (r.append (.cons ru .nil)) ?_, rfl, q⟩
  rw [List.length_append, List.length_singleton]
  omega

def rExtend : V → List V → Hp → VK → Prop := fun x vs H Q => ∃ l b xs zs, x = .ref l ∧ vs = [.ref b] ∧ H l = some (.lst xs) ∧ H b = some (.lst zs) ∧ xs.length + zs.length ≤ sizeLine ∧ Q .non (upd H l (.lst (xs ++ zs)))
def rPop : V → List V → Hp → VK → Prop := fun x vs H Q => ∃ l xs y, x = .ref l ∧ vs = [] ∧ H l = some (.lst xs) ∧ xs[xs.length - 1]? = some y ∧ Q y (upd H l (.lst xs.dropLast))
def rPopAt : V → List V → Hp → VK → Prop := fun x vs H Q => ∃ l xs i k y, x = .ref l ∧ vs = [.int i] ∧ H l = some (.lst xs) ∧ -(2 ^ 63) ≤ i ∧ i < 2 ^ 63 ∧ seqIndex? i xs.length = some k ∧ xs[k]? = some y ∧ Q y (upd H l (.lst (xs.eraseIdx k)))
def rReverse : V → List V → Hp → VK → Prop := fun x vs H Q => ∃ l xs, x = .ref l ∧ vs = [] ∧ H l = some (.lst xs) ∧ Q .non (upd H l (.lst xs.reverse))
def rClear : V → List V → Hp → VK → Prop := fun x vs H Q => ∃ l xs, x = .ref l ∧ vs = [] ∧ H l = some (.lst xs) ∧ Q .non (upd H l (.lst []))
/-! ### list + list, list += list, list * int -/
def rCat : R2 := fun x y H Q => ∃ l b xs zs, x = .ref l ∧ y = .ref b ∧ H l = some (.lst xs) ∧ H b = some (.lst zs) ∧ xs.length + zs.length ≤ sizeLine ∧ ∀ p, H p = none → Q (.ref p) (upd H p (.lst (xs ++ zs)))
theorem op_cat : OpR X (binaryOp .Add) rCat := by
  intro pins s σ H x y v u Q I rx ry h
  obtain ⟨l, b, xs, zs, rfl, rfl, hH, hB, hz, q⟩ := h
  cases rx
  cases ry
  obtain ⟨z, its, n, r, hl, e⟩ := I.lstM hH
  obtain ⟨z2, its2, n2, r2, hl2, e2⟩ := I.lstM hB
  refine PySem.P.add_list e e2 ?_ (by rw [List.size_toArray, List.size_toArray]; omega)
  have ea : its.toArray ++ its2.toArray = (its ++ its2).toArray := by simp
  rw [ea]
  exact ⟨.ref _, _, I.lnew (t' := s.toks) (r.append r2) (by rw [List.length_append]; omega), rfl, q _ I.fresh⟩
/-- a list times an int (a negative one is nothing) -/
def rRep : R2 := fun x y H Q => ∃ l k xs, x = .ref l ∧ y = .int k ∧ H l = some (.lst xs) ∧ -(2 ^ 63) ≤ k ∧ k < 2 ^ 63 ∧ xs.length * k.toNat ≤ sizeLine ∧
  ∀ p, H p = none → Q (.ref p) (upd H p (.lst (List.replicate k.toNat xs).flatten))
/-! ### del xs[i] -/
end

/-! ### xs[a:b] = ys -/
section
variable {prog : Program} {w : World} {A : Around} {E : Value → Shared → Prop} {s : Shared}
end

section
variable {X : Cx}
end
end L2

namespace Att
open PySem PySem.W PySem.Calls PyProof.Rows

/-! ### the script -/
theorem ints_of_wellAll {P : Params} {h : Heap} : ∀ (ns : List Int) (vs : List Value), WellAll P h vs (ns.map WData.int) → IntsAre vs ns := by
  intro ns
  induction ns with
  | nil =>
    intro vs w
    rw [List.map_nil] at w
    cases w
    exact .nil
  | cons n ns ih =>
    intro vs w
    rw [List.map_cons] at w
    cases w with
    | cons a b =>
      cases a
      exact .cons _ _ (ih _ b)

theorem script_of {l : OpenLaw} {n : Nat} (hn : l.most = some n) {P : Params} {h : Heap} {args : List WData} {vals : List Value}
    (hpre : l.row.toRowW.claim.pre args = true) (hwl : WellAll P h vals args) :
    ∃ a vs ns, vals = [Value.ref a] ∧ args = [WData.list (ns.map WData.int)] ∧ h.get? a = some { cls := .type "list", data := .seq vs.toArray } ∧ IntsAre vs ns ∧ ns.length ≤ n := by
  have hsh : WShape.hasAll [] args [.list .int] = true := (pre_splitW hpre).1
  have hc : l.pre.holds [] { args := args } = true := (pre_splitW hpre).2
  obtain ⟨d, r, rfl, h1, h2⟩ := hasAllW_cons hsh
  obtain rfl := hasAllW_nil h2
  obtain ⟨xs, rfl, h3⟩ := hasW_list h1
  obtain ⟨ns, rfl⟩ := items_int h3
  have hlen : ns.length ≤ n := by
    unfold OpenLaw.pre at hc
    have h4 : (WTm.not (.lt (.lit (.int (n : Int))) (.len (.arg 0)))).holds [] { args := [.list (ns.map .int)] } = true := by
      have h4 := (holds_andW hc).1
      rw [hn] at h4
      exact h4
    have h5 := condW_of h4 (w_not (w_lt w_lit (w_len_list (w_arg rfl))))
    rw [List.length_map] at h5
    refine Nat.le_of_not_lt fun q => ?_
    have q' : (n : Int) < ((ns.length : Nat) : Int) := by omega
    first
      | (rw [decide_eq_true q'] at h5; exact absurd h5 (by decide))
      | (simp at h5; omega)
  cases hwl with
  | cons w1 w2 =>
    cases w2
    cases w1 with
    | list ho hall => exact ⟨_, _, ns, rfl, rfl, ho, ints_of_wellAll ns _ hall, hlen⟩

theorem post_true (l : OpenLaw) (args : List WData) : l.row.toRowW.claim.post args (.bool true) args = true :=
  postW_of (r := l.row.toRowW) (X := (true == true))
    (show WShape.has [] (.bool true) .bool = true by first | rfl | decide | simp [WShape.has, WShape.arms, WShape.armsAll])
    (show (WTm.eq .res (.lit (.bool true))).value [] { args := args, res := some (.bool true), after := args } = some (.bool (true == true)) from w_eq_bool (w_res rfl) w_lit) rfl

/-! ### the attachment: holds_open's last premise (the goal 'hc' behind k_head) from a wpAny of the law's body -/
/-- the same from a codeAny of the CALL (for a layer whose function contracts speak of calls) -/
theorem attach_call {l : OpenLaw} {n : Nat} {q : Program} {loose : List Str} {XP : (Str → Option Value) → Heap → Prop} {YP : World → Heap → Prop} {d : DefRec}
    (hn : l.most = some n) (hdf : d.params.defaults = [])
    (call : ∀ (w : World) (s₀ s₁ : Shared) (mg mb : Str → Option Value) (fa : Addr) (o : Obj) (pm cd doc : Value) (a : Addr) (vs : List Value) (ns : List Int),
      Ground q loose [] XP w s₀ mg mb s₁.heap → YP w s₁.heap →
      s₁.heap.get? fa = some o → o.data = .func (docDef d.name d.params d.body d.scope pm cd doc) → s₁.heap.CodeRec cd d.name → mg d.name = some (.ref fa) →
      s₁.heap.get? a = some { cls := .type "list", data := .seq vs.toArray } → IntsAre vs ns → ns.length ≤ n → s₁.gens = #[] →
      codeAny (model l.prog w) callerA (.call (.ref fa) ⟨[.ref a], []⟩) (fun r s' => r = .ok (.ret (.bool true)) ∧ OldK s₁.heap s'.heap ∧ s'.os = s₁.os ∧ AllBare s'.gens) s₁) :
    WalkO q loose XP YP l.row.toRowW d [] (fun f vs => PySem.call f vs) := by
  intro w s₀ s₁ mg mb G Y fa o pm cd doc dV kV ho hd hcd hD hmg hg args vals as hpre hlay hrd hwl hlo
  obtain rfl : dV = .none := Dflts.none hD hdf
  obtain rfl : kV = .none := Dflts.noKw hD
  obtain ⟨a, vs, ns, rfl, rfl, hobj, hints, hlen⟩ := script_of hn hpre hwl
  refine enter_call (codeAny_mono (call w s₀ s₁ mg mb fa o pm cd doc a vs ns G Y ho (fd_plain hd) hcd hmg hobj hints hlen hg) fun r s' hq => ?_)
  obtain ⟨rfl, h2, h3, h4⟩ := hq
  exact ⟨.inl ⟨.bool true, .bool true, [], rfl, fun _ => rfl, .bool true, post_true l _, fun _ => ⟨List.Pairwise.nil, fun _ hm => (nomatch hm)⟩⟩, h2, h3, h4⟩

/-! ### rules over ANY heap (no ledger) from facts about the written part K: the library's own take a ledger (News) for what they write -/
section
variable {prog : Program} {w : World} {A : Around} {E : Value → Shared → Prop} {s : Shared} {K : Frag}

/-! the whole heap as the ledger: makes every rule that writes through a ledger a rule over any heap -/
def noObjs (h : Heap) : Heap := { h with objs := #[] }
def ledger (h : Heap) (L d : Addr) : List (Addr × Obj) := (List.range h.objs.size).filterMap fun a => if a = L ∨ a = d then none else (h.get? a).map fun o => (a, o)
end
end Att

namespace L2
open PySem PySem.Spec PyProof.Rows

theorem vals_ints : ∀ {vs : List Value} {ns : List Int}, IntsAre vs ns → Vals (ns.map V.int) vs
  | _, _, .nil => .nil
  | _, _, .cons n t h => .cons ⟨t, rfl⟩ (vals_ints h)

/-- nothing is tracked but the script, known to the object (or it is an object of the module) -/
def Only (H : Hp) : Prop := ∀ b, H b = none ∨ ∃ o xs, H b = some (.frz o (.lst xs))

/-- THE HEAD: the law's promise, at the heap behind the top. F, the promise of the law's def, may use that base is part of the heap (so K.In base, base.Ns mainGlobals mg stand in Mod) -/
theorem law_call {P : Program} {w : World} {K : PySem.W.Frag} {mg mb : Str → Option Value} {CX : CXT} {k : Nat} {fa a : Addr} {fd : FuncData} {x : Str} {sp : Sp} {s₁ : Shared} {vs : List Value} {ns : List Int}
    (KX : K.In s₁.heap) (hns : s₁.heap.Ns mainGlobals mg) (hb : s₁.heap.Ns builtinsNs mb) (hbb : ∀ x : Str, x ≠ "__name__" → mb x = bootBuiltins x) (hlim : s₁.heap.NoLimit) (hg : s₁.gens = #[])
    (ha : s₁.heap.get? a = some { cls := .type "list", data := .seq vs.toArray }) (hi : IntsAre vs ns) (hl : ns.length ≤ sizeLine) (hr : Room k callerA)
    (F : ∀ base : Heap, K.In base → base.Ns mainGlobals mg → FnOk P w K mg base CX k fa fd [x] sp) (hbind : ∀ (s : Shared) (u : Value), BindsTo s fd ⟨[u], []⟩ [(x, u)])
    (hsp : ∀ H : Hp, Only H → SqL K H a (ns.map V.int) → sp [.ref a] H (fun v _ => v = .bl true) fun _ _ _ => False)
    (hCX : ∀ H e s', CX [] H s₁ (fun _ _ _ => False) e s' → False) :
    codeAny (model P w) callerA (.call (.ref fa) ⟨[.ref a], []⟩) (fun r s' => r = .ok (.ret (.bool true)) ∧ OldK s₁.heap s'.heap ∧ s'.os = s₁.os ∧ AllBare s'.gens) s₁ := by
  have rv := vals_ints hi
  have lenV := hi.length
  -- from an abstract heap in which nothing but the script may be tracked
  have core : ∀ H : Hp, Only H → SqL K H a (ns.map V.int) → HOk P w H s₁.heap → (∀ b, H b ≠ none → b = a) → (H a ≠ none → K.lookup a = none) →
      codeAny (model P w) callerA (.call (.ref fa) ⟨[.ref a], []⟩) (fun r s' => r = .ok (.ret (.bool true)) ∧ OldK s₁.heap s'.heap ∧ s'.os = s₁.os ∧ AllBare s'.gens) s₁ := by
    intro H hO hS hok hA hK
    have base_of : ∀ {b : Addr} {o : Obj}, s₁.heap.get? b = some o → H b = none → (hidT s₁.heap H).get? b = some o := fun e n => hidT_get e n
    have noA : ∀ {b : Addr} {o : Obj} {es : Array DictEntry} {ep : Nat}, s₁.heap.get? b = some o → o.data = .dict es ep → H b = none := fun {b o es ep} e d => by
      cases q : H b with
      | none => rfl
      | some u =>
        have e' : b = a := hA b (by rw [q]; simp)
        subst e'
        rw [ha] at e; cases e
        have d' : Data.seq vs.toArray _ = Data.dict es ep := d
        cases d'
    have nsK : ∀ {b : Addr} {m : Str → Option Value}, s₁.heap.Ns b m → (hidT s₁.heap H).Ns b m := fun {b m} ⟨o, es, ep, e, d, r⟩ => ⟨o, es, ep, base_of e (noA e d), d, r⟩
    have hKb : K.In (hidT s₁.heap H) := fun b o e => base_of (KX b o e) (by
      cases q : H b with
      | none => rfl
      | some u =>
        have e' : b = a := hA b (by rw [q]; simp)
        subst e'
        rw [hK (by rw [q]; simp)] at e; cases e)
    have hM : Mod K mg (hidT s₁.heap H) := ⟨hKb, nsK hns, ⟨mb, nsK hb, hbb⟩, let ⟨mc, h1, h2⟩ := hlim; ⟨mc, nsK h1, h2⟩⟩
    have e0 : Env0 P w K mg (hidT s₁.heap H) callerA [] s₁ H := ⟨rfl, hM, fun b o e => of_hidT e, Nat.le_of_eq (hidT_size _ _), trivial, fun b hb => absurd (show b ∈ ([] : List Addr) from hb) (by simp), hok, .of_eq hg⟩
    refine codeAny_mono ((F _ hKb (nsK hns)).run callerA [] s₁ H ⟨[.ref a], []⟩ [.ref a] [.ref a] _ _ hr e0 (hbind s₁ (.ref a)) (.cons rfl .nil) (hsp H hO hS)) fun r s' h => ?_
    cases r with
    | error e => exact (hCX H e s' h).elim
    | ok fl =>
      cases fl with
      | next => exact False.elim h
      | brk => exact False.elim h
      | cont => exact False.elim h
      | ret u =>
        obtain ⟨v, H', os, bare, un, hok', r', q⟩ := h
        have q' : v = .bl true := q
        subst q'
        obtain rfl : u = Value.bool true := r'
        refine ⟨rfl, OldK.of_keep fun b o e => ?_, os, bare⟩
        cases q : H b with
        | none => exact un.keep b o e q (by intro z; exact absurd (show b ∈ ([] : List Addr) from z) (by simp)) (by simp)
        | some u =>
          rcases hO b with z | ⟨ob, xs, z⟩
          · rw [q] at z; cases z
          · have z2 := un.frzs b ob _ z
            obtain ⟨e1, _⟩ := hok b _ z
            obtain ⟨e2, _⟩ := hok' b _ z2
            rw [e] at e1; cases e1
            exact e2
  cases hk : K.lookup a with
  | some o =>
    -- the script is one of the module's own objects
    have e := KX a o hk
    rw [ha] at e
    cases e
    refine core (fun _ => none) (fun _ => .inl rfl) (.inr ⟨_, vs.toArray, _, hk, rfl, rfl, rfl, by rw [List.size_toArray, lenV]; exact hl, by simpa using rv⟩) (fun b u z => by have z' : (none : Option HO) = some u := z; cases z') (fun b z => absurd rfl z) fun z => absurd rfl z
  | none =>
    refine core (fun b => if b = a then some (.frz { cls := .type "list", data := .seq vs.toArray } (.lst (ns.map V.int))) else none) (fun b => ?_) (.inl (.inr ⟨{ cls := .type "list", data := .seq vs.toArray }, if_pos rfl⟩)) (fun b u z => ?_) (fun b z => ?_) fun _ => hk
    · by_cases hb : b = a
      · exact .inr ⟨_, _, if_pos hb⟩
      · exact .inl (if_neg hb)
    · by_cases hb : b = a
      · have z' := (if_pos hb).symm.trans z
        cases z'
        subst hb
        exact ⟨ha, by rw [List.length_map]; exact hl, vs, _, rv, ha⟩
      · have z' := (if_neg hb).symm.trans z
        cases z'
    · by_cases hb : b = a
      · exact hb
      · exact absurd (if_neg hb) z
end L2

namespace L2
open PySem PySem.Spec PyProof.Rows

abbrev KOf {K : PySem.W.Frag} {h : Heap} (_ : K.In h) : PySem.W.Frag := K

/-- the goal that k_head leaves (case hc), from the law's promise. F gives the function object fd (K's own) once, then the promise over every base -/
theorem walk_of {l : PySem.W.OpenLaw} {n k : Nat} {q : Program} {loose : List Str} {XP : (Str → Option Value) → Heap → Prop} {YP : World → Heap → Prop} {d : DefRec} {K : Params → PySem.W.Frag} {CX : World → CXT} {sp : World → Sp} {x : Str}
    (hn : l.most = some n) (hn2 : n ≤ sizeLine) (hdf : d.params.defaults = []) (hr : Room k callerA)
    (hY : ∀ (w : World) (h : Heap), YP w h → (K w.params).In h)
    (F : ∀ (w : World) (mg : Str → Option Value) (fa : Addr) (h : Heap), (K w.params).In h → h.Ns mainGlobals mg → mg d.name = some (.ref fa) →
      ∃ fd : FuncData, (∀ (s : Shared) (u : Value), BindsTo s fd ⟨[u], []⟩ [(x, u)]) ∧
        ∀ base : Heap, (K w.params).In base → base.Ns mainGlobals mg → FnOk l.prog w (K w.params) mg base (CX w) k fa fd [x] (sp w))
    (hsp : ∀ (w : World) (H : Hp) (a : Addr) (ns : List Int), ns.length ≤ n → Only H → SqL (K w.params) H a (ns.map V.int) → sp w [.ref a] H (fun v _ => v = .bl true) fun _ _ _ => False)
    (hCX : ∀ (w : World) (H : Hp) (s : Shared) (e : Value) (s' : Shared), CX w [] H s (fun _ _ _ => False) e s' → False) :
    PySem.W.WalkO q loose XP YP l.row.toRowW d [] (fun f vs => PySem.call f vs) := by
  refine Att.attach_call hn hdf fun w s₀ s₁ mg mb fa o pm cd doc a vs ns G Y ho hd hcd hmg hobj hints hlen hg => ?_
  have KX := hY w _ Y
  obtain ⟨fd, hb, hF⟩ := F w mg fa _ KX G.T.g hmg
  exact law_call KX G.T.g G.T.b G.T.builtins G.T.nolimit hg hobj hints (Nat.le_trans hlen hn2) hr hF hb (fun H hO hS => hsp w H a ns hlen hO hS) fun H e s' => hCX w H s₁ e s'
end L2

/- THE LAST THEOREM (shape; LID, My.* are yours):
   My.Adr: a structure of the addresses that your layer names (classes, functions); My.Txt K t: a structure (Prop) of the equations over K;
   My.txt_mk : {K} {implicit addresses ..} (e1 : nsIn K mainGlobals "law" = some (some (.ref f))) (e2 : K.lookup f = some ⟨oc, od, .func (fnOf "law" "law" params body scope dV kV doc pm an cdv ct), sl⟩) (e3 : codeIn K cdv "law" = true) .. : ∃ t, My.Txt K t

set_option maxRecDepth 100000 in
set_option maxHeartbeats 0 in
theorem PySem.Challenge.cw_LID_holds : PySem.Challenge.rw_LID.Holds := by
  w_on; o_law; k_head; (case hw => w_witness2)
  k_fill
  refine L2.walk_of (l := PySem.Challenge.rw_LID) (n := 63) (k := 40) (x := "script") (CX := fun w => ..) (sp := fun _ => My.sp_law) rfl (by decide) rfl ⟨rfl, by decide, by decide⟩ (fun w h Y => PySem.W.kIn_of Y) ?F ?S ?C
  case F =>
    intro w mg fa h KX G hmg
    have T : ∃ t, My.Txt (L2.KOf KX) t := by
      dsimp only [L2.KOf]                          -- K must stand as «<heap const> w.params» for k_is
      refine' My.txt_mk ?e1 ?e2 ?e3 ..
      (case e1 => PySem.W.k_is)                    -- in the order: a name -> its address -> its object -> its parts
      (case e2 => PySem.W.k_is)
      ..
    obtain ⟨t, T⟩ := T
    have e0 := hmg.symm.trans (PySem.W.mg_of KX G T.law)
    cases e0                                       -- fa is the law's own address
    exact ⟨_, fun s u => .of_eq rfl, fun base kb nb => My.law_fn T kb nb⟩     -- if «.of_eq rfl» comes too early: refine' ⟨_, ?b, fun base kb nb => My.law_fn T kb nb⟩; exact fun s u => .of_eq rfl
  case S => exact fun w H a ns hl hO hS => ..
  case C => exact ..
(the tactic k_is has no namespace: write k_is) -/

/-! SHORT WORDS over the layer: a def of the text, its body, what a loop and a test want. -/
namespace L2
open PySem PySem.Spec PyProof.Rows

/-! ### the text by places -/
/-- the j-th statement of a class's body -/
def inClass (s : Stmt) (j : Nat) : Stmt := match s with
  | .ClassDef _ _ _ body _ _ _ _ _ _ _ => body.getD j (.Pass ⟨0, 0, 0, 0⟩)
  | _ => .Pass ⟨0, 0, 0, 0⟩
def defArgs (s : Stmt) : Arguments := match s with
  | .FunctionDef _ a _ _ _ _ _ _ _ _ => a
  | _ => { posonlyargs := [], args := [], vararg := none, kwonlyargs := [], kw_defaults := [], kwarg := none, defaults := [] }
def defBody (s : Stmt) : List Stmt := match s with
  | .FunctionDef _ _ b _ _ _ _ _ _ _ => b
  | _ => []
def defScope (s : Stmt) : Scope := match s with
  | .FunctionDef _ _ _ _ _ _ sc _ _ _ => sc
  | _ => { kind := .function, names := [], isGenerator := false, isCoroutine := false }

/-! ### no exception leaves a def -/
abbrev CX0 : CXT := fun _ _ _ _ _ _ => False
abbrev E0 : XK := fun _ _ _ => False
/-! ### a def (or method) of the text as it stands behind the top -/
structure Fun (K : PySem.W.Frag) (x qual : Str) (st : Stmt) (f : Addr) (fd : FuncData) : Prop where
  ex : ∃ (oc : Value) (od : Option Addr) (kV doc pm : Value) (an : Option Addr) (cdv ct : Value) (osl : Array (Option Value)),
    fd = PySem.W.fnOf x qual (defArgs st) (defBody st) (defScope st) .none kV doc pm an cdv ct ∧ K.lookup f = some ⟨oc, od, .func fd, osl⟩ ∧ PySem.W.codeIn K cdv qual = true
  kp : PySem.W.keepIn K (.ref f) = true
section
variable {P : Program} {w : World} {K : PySem.W.Frag} {mg : Str → Option Value} {base : Heap}
/-- THE RULE for a def: its body as a term of rules, and the reading of that term -/
theorem Fun.ok {x qual : Str} {st : Stmt} {f : Addr} {fd : FuncData} {N ps : List Str} {k : Nat} {sp : Sp} (F : Fun K x qual st f fd) (S : FnScope N ps (defScope st)) (len : ∀ vs H Q E, sp vs H Q E → vs.length = ps.length)
    (hbody : ∀ (cdv : Value) (A : Around) (outer : List Env) (s : Shared) (H : Hp) (vs : List V) (Q : VK) (E : XK), Room k (A.deeper (envOfC qual (defScope st) s.heap.objs.size f cdv)) → sp vs H Q E →
      ∃ t, PSs (cxOf CX0 P w K mg base N qual (defScope st) f cdv A outer s H E).nox (defBody st) t ∧ t { nx := fun _ H' => Q .non H', rt := Q } (start N vs) H) : FnOk P w K mg base CX0 (k + 1) f fd ps sp := by
  obtain ⟨oc, od, kV, doc, pm, an, cdv, ct, osl, rfl, lk, hcd⟩ := F.ex
  refine fn_of lk hcd S len fun A outer s H vs Q E hr hsp => ?_
  obtain ⟨t, h, q⟩ := hbody cdv A outer s H vs Q E hr hsp
  exact ⟨t, h.nox, q⟩
/-- how its arguments bind (no defaults): h is «fun _ _ _ _ _ _ us hl => match us, hl with | [_, _], _ => rfl», one _ a parameter -/
theorem Fun.binds {x qual : Str} {st : Stmt} {f : Addr} {fd : FuncData} {ps : List Str} (F : Fun K x qual st f fd)
    (h : ∀ (kV doc pm : Value) (an : Option Addr) (cdv ct : Value) (us : List Value), us.length = ps.length → bindArgs (PySem.W.fnOf x qual (defArgs st) (defBody st) (defScope st) .none kV doc pm an cdv ct) ⟨us, []⟩ = pure (ps.zip us)) : Binds K fd ps [] := by
  obtain ⟨oc, od, kV, doc, pm, an, cdv, ct, osl, rfl, lk, hcd⟩ := F.ex
  exact .all (h kV doc pm an cdv ct)
theorem fun_mk {x qual : Str} {st : Stmt} {f : Addr} {oc : Value} {od an : Option Addr} {osl : Array (Option Value)} {kV doc pm cdv ct : Value} (l : K.lookup f = some ⟨oc, od, .func (PySem.W.fnOf x qual (defArgs st) (defBody st) (defScope st) .none kV doc pm an cdv ct), osl⟩)
    (c : PySem.W.codeIn K cdv qual = true) (k : PySem.W.keepIn K (.ref f) = true) : Fun K x qual st f (PySem.W.fnOf x qual (defArgs st) (defBody st) (defScope st) .none kV doc pm an cdv ct) := ⟨⟨oc, od, kV, doc, pm, an, cdv, ct, osl, rfl, l, c⟩, k⟩
end
/-! ### expressions in short: the name that stands in the i-th slot -/
section
variable {X : Cx}
theorem pv (i : Nat) {x : Str} {pos : Pos} (hN : X.N[i]? = some x := by rfl) (hv : Vis X.env.scope x := by first | exact Or.inl rfl | exact Or.inr (Or.inl rfl) | exact Or.inr (Or.inr rfl)) (hd : (x == ("__debug__" : Str)) = false := by decide)
    (hcd : (x == ("__classdict__" : Str)) = false := by decide) : PE X (.Name x pos) (tVar i) := pe_var hN hv hd hcd
end

/-! ### tests -/
/-! ### heaps -/
/-- all that was tracked is as it was -/
def Same (H H' : Hp) : Prop := ∀ b o, H b = some o → H' b = some o
theorem Same.refl (H : Hp) : Same H H := fun _ _ h => h
theorem Same.trans {H H1 H2 : Hp} (a : Same H H1) (b : Same H1 H2) : Same H H2 := fun c o h => b c o (a c o h)
theorem Same.free {H H' : Hp} (e : Same H H') {l : Addr} (h : H' l = Option.none) : H l = Option.none := by
  cases q : H l with
  | none => rfl
  | some o =>
    rw [e l o q] at h
    cases h
theorem Same.seq {K : PySem.W.Frag} {H H' : Hp} {a : Addr} {xs : List V} (e : Same H H') (h : SqL K H a xs) : SqL K H' a xs := by
  rcases h with (h | ⟨o, h⟩) | h
  · exact .inl (.inl (e _ _ h))
  · exact .inl (.inr ⟨o, e _ _ h⟩)
  · exact .inr h

end L2

set_option Elab.async false
set_option linter.all false
set_option maxRecDepth 100000
namespace L2
open PySem PySem.Spec PyProof.Rows

/-! ### lists of pairs as tables -/
section
variable {κ : Type} [DecidableEq κ]
def valV (kvs : List (κ × V)) (k : κ) : Option V := (kvs.find? fun kv => decide (kv.1 = k)).map (·.2)
/-- in its place, or at the end -/
def putK (kvs : List (κ × V)) (k : κ) (v : V) : List (κ × V) :=
  if (kvs.any fun kv => decide (kv.1 = k)) = true then kvs.map (fun kv => if kv.1 = k then (kv.1, v) else kv) else kvs ++ [(k, v)]
def dropK (kvs : List (κ × V)) (k : κ) : List (κ × V) := kvs.filter fun kv => decide (kv.1 ≠ k)

theorem valV_pos {p : κ × V} {r : List (κ × V)} {k : κ} (e : p.1 = k) : valV (p :: r) k = some p.2 := by simp [valV, List.find?_cons, e]
theorem valV_neg {p : κ × V} {r : List (κ × V)} {k : κ} (e : ¬ p.1 = k) : valV (p :: r) k = valV r k := by simp [valV, List.find?_cons, e]
theorem valV_any (k : κ) : ∀ kvs : List (κ × V), (kvs.any fun kv => decide (kv.1 = k)) = (valV kvs k).isSome
  | [] => rfl
  | p :: r => by
    rw [List.any_cons]
    by_cases e : p.1 = k
    · simp only [valV_pos e, decide_eq_true e, Bool.true_or, Option.isSome_some]
    · rw [valV_neg e, decide_eq_false e, Bool.false_or]; exact valV_any k r
theorem RelO.isSome_eq {o : Option V} {u : Option Value} (r : RelO o u) : o.isSome = u.isSome := by
  cases o with
  | none => cases u with
    | none => rfl
    | some _ => exact (show False from r).elim
  | some _ => cases u with
    | none => exact (show False from r).elim
    | some _ => rfl
theorem RelO.getD {o : Option V} {u : Option Value} {d : V} {d' : Value} (r : RelO o u) (rd : RelV d d') : RelV (o.getD d) (u.getD d') := by
  cases o with
  | none => cases u with
    | none => exact rd
    | some _ => exact (show False from r).elim
  | some _ => cases u with
    | none => exact (show False from r).elim
    | some _ => exact r

/-- raw tables of the same keys -/
theorem KV.val {kvs : List (κ × V)} {vs : List (κ × Value)} (r : KV kvs vs) (k : κ) : RelO (valV kvs k) (valueAt vs k) := by
  unfold KV at r
  induction r with
  | nil => exact True.intro
  | @cons p q ps qs h t ih =>
    obtain ⟨h1, h2⟩ := h
    by_cases e : p.1 = k
    · have e' : q.1 = k := h1.symm.trans e
      have b : valueAt (q :: qs) k = some q.2 := by simp [valueAt, List.find?_cons, e']
      rw [valV_pos e, b]; exact h2
    · have e' : ¬ q.1 = k := fun z => e (h1.trans z)
      have b : valueAt (q :: qs) k = valueAt qs k := by simp [valueAt, List.find?_cons, e']
      rw [valV_neg e, b]; exact ih
theorem KV.any {kvs : List (κ × V)} {vs : List (κ × Value)} (r : KV kvs vs) (k : κ) : (kvs.any fun kv => decide (kv.1 = k)) = vs.any fun kv => decide (kv.1 = k) := by
  unfold KV at r
  induction r with
  | nil => rfl
  | cons h t ih => rw [List.any_cons, List.any_cons, ih, h.1]
theorem KV.repl {kvs : List (κ × V)} {vs : List (κ × Value)} (r : KV kvs vs) (k : κ) {y : V} {u : Value} (ry : RelV y u) :
    KV (kvs.map fun kv => if kv.1 = k then (kv.1, y) else kv) (vs.map fun kv => if kv.1 = k then (kv.1, u) else kv) := by
  unfold KV at r ⊢
  induction r with
  | nil => exact .nil
  | @cons p q ps qs h t ih =>
    rw [List.map_cons, List.map_cons]
    refine .cons ?_ ih
    obtain ⟨h1, h2⟩ := h
    by_cases e : p.1 = k
    · rw [if_pos e, if_pos (h1.symm.trans e)]; exact ⟨h1, ry⟩
    · rw [if_neg e, if_neg (fun z => e (h1.trans z))]; exact ⟨h1, h2⟩
theorem KV.put {kvs : List (κ × V)} {vs : List (κ × Value)} (r : KV kvs vs) (k : κ) {y : V} {u : Value} (ry : RelV y u) : KV (putK kvs k y) (stored vs k u) := by
  unfold putK stored
  rw [r.any k]
  by_cases e : (vs.any fun kv => decide (kv.1 = k)) = true
  · rw [if_pos e, if_pos e]; exact r.repl k ry
  · rw [if_neg e, if_neg e]; exact Paired.snoc r ⟨rfl, ry⟩
theorem KV.drop {kvs : List (κ × V)} {vs : List (κ × Value)} (r : KV kvs vs) (k : κ) : KV (dropK kvs k) (without vs k) := by
  unfold KV at r ⊢
  unfold dropK without
  induction r with
  | nil => exact .nil
  | @cons p q ps qs h t ih =>
    obtain ⟨h1, h2⟩ := h
    rw [List.filter_cons, List.filter_cons]
    by_cases e : p.1 = k
    · have a : ¬ decide (p.1 ≠ k) = true := by simp [e]
      have b : ¬ decide (q.1 ≠ k) = true := by simp [h1.symm.trans e]
      rw [if_neg a, if_neg b]; exact ih
    · have e' : ¬ q.1 = k := fun z => e (h1.trans z)
      have a : decide (p.1 ≠ k) = true := by simp [e]
      have b : decide (q.1 ≠ k) = true := by simp [e']
      rw [if_pos a, if_pos b]; exact .cons ⟨h1, h2⟩ ih
theorem KV.keys {kvs : List (κ × V)} {vs : List (κ × Value)} (r : KV kvs vs) : kvs.map (·.1) = vs.map (·.1) := by
  unfold KV at r
  induction r with
  | nil => rfl
  | cons h t ih => rw [List.map_cons, List.map_cons, ih, h.1]
theorem KV.length {kvs : List (κ × V)} {vs : List (κ × Value)} (r : KV kvs vs) : kvs.length = vs.length := Paired.length r
end


/-! ### a tracked dict, its keys ints and texts or tuples of these -/
/-- raw entries of a dict with tuple keys -/
abbrev KT (H : Hp) : List (List Key × V) → List (List Key × Addr × Value) → Prop := Paired fun p q => p.1 = q.1 ∧ H q.2.1 = some (.tup (p.1.map kV)) ∧ RelV p.2 q.2.2
theorem KT.val {H : Hp} {kvs : List (List Key × V)} {xs : List (List Key × Addr × Value)} (r : KT H kvs xs) (k : List Key) : RelO (valV kvs k) ((atKey xs k).map (·.2)) := by
  induction r with
  | nil => exact True.intro
  | @cons p q ps qs h t ih =>
    obtain ⟨h1, _, h2⟩ := h
    by_cases e : p.1 = k
    · have e' : q.1 = k := h1.symm.trans e
      have b : atKey (q :: qs) k = some q.2 := by simp [atKey, List.find?_cons, e']
      rw [valV_pos e, b]; exact h2
    · have e' : ¬ q.1 = k := fun z => e (h1.trans z)
      have b : atKey (q :: qs) k = atKey qs k := by simp [atKey, List.find?_cons, e']
      rw [valV_neg e, b]; exact ih
theorem KT.repl {H : Hp} {kvs : List (List Key × V)} {xs : List (List Key × Addr × Value)} (r : KT H kvs xs) (k : List Key) {y : V} {u : Value} (ry : RelV y u) :
    KT H (kvs.map fun kv => if kv.1 = k then (kv.1, y) else kv) (xs.map (putAt k u)) := by
  induction r with
  | nil => exact .nil
  | @cons p q ps qs h t ih =>
    rw [List.map_cons, List.map_cons]
    refine .cons ?_ ih
    obtain ⟨h1, h2, h3⟩ := h
    unfold putAt
    by_cases e : p.1 = k
    · rw [if_pos e, if_pos (h1.symm.trans e)]; exact ⟨h1, h2, ry⟩
    · rw [if_neg e, if_neg (fun z => e (h1.trans z))]; exact ⟨h1, h2, h3⟩
theorem KT.put {H : Hp} {kvs : List (List Key × V)} {xs : List (List Key × Addr × Value)} (r : KT H kvs xs) (k : List Key) {b : Addr} {y : V} {u : Value} (hb : H b = some (.tup (k.map kV))) (ry : RelV y u) :
    KT H (putK kvs k y) (storedH xs k b u) := by
  have e : (kvs.any fun kv => decide (kv.1 = k)) = (atKey xs k).isSome := by
    rw [valV_any, (r.val k).isSome_eq, Option.isSome_map]
  unfold putK storedH
  rw [e]
  by_cases q : (atKey xs k).isSome = true
  · rw [if_pos q, if_pos q]; exact r.repl k ry
  · rw [if_neg q, if_neg q]; exact Paired.snoc r ⟨rfl, hb, ry⟩
theorem KT.keeps {H H' : Hp} {kvs : List (List Key × V)} {xs : List (List Key × Addr × Value)} (r : KT H kvs xs) (ht : ∀ b ys, H b = some (.tup ys) → H' b = some (.tup ys)) : KT H' kvs xs :=
  Paired.mapP r fun _ _ z => ⟨z.1, ht _ _ z.2.1, z.2.2⟩

section
variable {P : Program} {w : World} {H : Hp} {h : Heap} {a : Addr}
end

/-- what the dict at a holds at the key y -/
def DGet (H : Hp) (a : Addr) (y : V) (r : Option V) : Prop :=
  (∃ kvs k, Rd H a (.dK kvs) ∧ y = kV k ∧ r = valV kvs k) ∨ ∃ kvs k b, Rd H a (.dT kvs) ∧ y = .ref b ∧ H b = some (.tup (k.map kV)) ∧ r = valV kvs k
/-- the heap behind a[y] = v -/
def DPut (H : Hp) (a : Addr) (y v : V) (H' : Hp) : Prop :=
  (∃ kvs k, H a = some (.dK kvs) ∧ y = kV k ∧ kvs.length < sizeLine ∧ H' = upd H a (.dK (putK kvs k v))) ∨
  ∃ kvs k b, H a = some (.dT kvs) ∧ y = .ref b ∧ H b = some (.tup (k.map kV)) ∧ kvs.length < sizeLine ∧ H' = upd H a (.dT (putK kvs k v))
theorem DGet.k {H : Hp} {a : Addr} {kvs : List (Key × V)} {k : Key} (e : H a = some (.dK kvs)) : DGet H a (kV k) (valV kvs k) := .inl ⟨kvs, k, .inl e, rfl, rfl⟩
theorem DGet.t {H : Hp} {a b : Addr} {kvs : List (List Key × V)} {k : List Key} (e : H a = some (.dT kvs)) (eb : H b = some (.tup (k.map kV))) : DGet H a (.ref b) (valV kvs k) := .inr ⟨kvs, k, b, .inl e, rfl, eb, rfl⟩
theorem DPut.k {H : Hp} {a : Addr} {kvs : List (Key × V)} {k : Key} {v : V} (e : H a = some (.dK kvs)) (hl : kvs.length < sizeLine) : DPut H a (kV k) v (upd H a (.dK (putK kvs k v))) := .inl ⟨kvs, k, e, rfl, hl, rfl⟩
theorem DPut.t {H : Hp} {a b : Addr} {kvs : List (List Key × V)} {k : List Key} {v : V} (e : H a = some (.dT kvs)) (eb : H b = some (.tup (k.map kV))) (hl : kvs.length < sizeLine) :
    DPut H a (.ref b) v (upd H a (.dT (putK kvs k v))) := .inr ⟨kvs, k, b, e, rfl, eb, hl, rfl⟩


section
variable {X : Cx} {pins : List (Addr × Obj)} {σ : St} {H : Hp} {s : Shared} {a : Addr} {y v : V} {u r : Value} {o : Option V} {A : Around} {E : Value → Shared → Prop}

theorem Inv.big (I : Inv X pins σ H s) : sysModules < s.heap.objs.size := by
  have h : mainGlobals < s.heap.objs.size := (I.mod.glob.keeps I.bk).lt
  exact Nat.lt_trans (by decide) h

end

section
variable {X : Cx} {pins : List (Addr × Obj)} {σ : St} {H : Hp} {s : Shared} {a : Addr} {kvs : List (Key × V)} {k : Key} {u : Value} {A : Around} {E : Value → Shared → Prop}
end


/-! ### readings and rules -/
/-- the element of a subscription, not a slice -/
def NoSl (i : Expr) : Prop := ∀ ov iv, subscripted i false ov iv = operate [ov, iv] (getItem ov iv)
/-- d[y] -/
def tDGet (td ty : TE) : TE := fun σ H Q => td σ H fun x H1 => ty σ H1 fun y H2 => ∃ a v, x = .ref a ∧ DGet H2 a y (some v) ∧ Q v H2
/-- y in d, y not in d -/
def tDIn (ty td : TE) : TE := fun σ H Q => ty σ H fun y H1 => td σ H1 fun x H2 => ∃ a o, x = .ref a ∧ DGet H2 a y o ∧ Q (.bl o.isSome) H2
def tDNotIn (ty td : TE) : TE := fun σ H Q => ty σ H fun y H1 => td σ H1 fun x H2 => ∃ a o, x = .ref a ∧ DGet H2 a y o ∧ Q (.bl (!o.isSome)) H2
/-- d[y] = v -/
def sDPut (td ty tv : TE) : TS := fun D σ H => tv σ H fun v H1 => td σ H1 fun x H2 => ty σ H2 fun y H3 => ∃ a H4, x = .ref a ∧ DPut H3 a y v H4 ∧ D.nx σ H4
/-- d[y] op= v -/
def sDAug (td ty tv : TE) (rd : V → V → Hp → VK → Prop) : TS := fun D σ H => td σ H fun x H1 => ty σ H1 fun y H2 => ∃ a v, x = .ref a ∧ DGet H2 a y (some v) ∧
  tv σ H2 fun y2 H3 => rd v y2 H3 fun z H4 => ∃ H5, DPut H4 a y z H5 ∧ D.nx σ H5
/-- del d[y] -/
def sDDel (td ty : TE) : TS := fun D σ H => td σ H fun x H1 => ty σ H1 fun y H2 => ∃ a kvs k, x = .ref a ∧ H2 a = some (.dK kvs) ∧ y = kV k ∧ (valV kvs k).isSome = true ∧ D.nx σ (upd H2 a (.dK (dropK kvs k)))

section
variable {X : Cx} {o i e value : Expr} {pos pos' tpos : Pos} {td ty tv : TE}
end


/-! ### displays -/
/-- {}, to be a dict of the kind that is wanted -/
def tDNewK : TE := fun _ H Q => ∀ p, H p = none → Q (.ref p) (upd H p (.dK []))
def tDNewT : TE := fun _ H Q => ∀ p, H p = none → Q (.ref p) (upd H p (.dT []))
section
variable {X : Cx} {pos : Pos}
end

/-- the pairs of a display, from the left -/
def tPairs : List (TE × TE) → St → Hp → (List (V × V) → Hp → Prop) → Prop
  | [], _, H, Q => Q [] H
  | (tk, tv) :: r, σ, H, Q => tk σ H fun x H1 => tv σ H1 fun y H2 => tPairs r σ H2 fun ps H3 => Q ((x, y) :: ps) H3
abbrev VV : List (V × V) → List (Value × Value) → Prop := Paired fun p q => RelV p.1 q.1 ∧ RelV p.2 q.2
def PPs (X : Cx) (pos : Pos) (keys : List (Option Expr)) (values : List Expr) (trs : List (TE × TE)) : Prop :=
  ∀ (pins : List (Addr × Obj)) (s : Shared) (σ : St) (H : Hp) (Q : List (V × V) → Hp → Prop), Inv X pins σ H s → tPairs trs σ H Q →
    wpAny (model X.prog X.w) X.A (evalPairs (pairTrees keys values X.env pos)) (fun vs s' => ∃ ps H', Inv X pins σ H' s' ∧ VV ps vs ∧ Q ps H') X.xe s
def mergeK (kvs more : List (Key × V)) : List (Key × V) := more.foldl (fun acc kv => putK acc kv.1 kv.2) kvs
/-- {k: v, ..} with keys ints and texts; the new dict stands empty while the pairs are made -/
def tDisp (trs : List (TE × TE)) : TE := fun σ H Q => ∀ p, H p = none → tPairs trs σ (upd H p (.dK [])) fun ps H2 => H2 p = some (.dK []) ∧ ∃ kvs : List (Key × V), ps = kvs.map (fun kv => (kV kv.1, kv.2)) ∧ kvs.length ≤ 15 ∧ Q (.ref p) (upd H2 p (.dK (mergeK [] kvs)))
/-! ### methods -/
/-- a method call o.m(e) of a built-in, with one argument: what must be seen of the text -/
structure M1 (X : Cx) (o : Expr) (m : Str) (apos : Pos) (e : Expr) (cpos : Pos) : Prop where
  base : attributeBase o m X.env (eval o X.env) = eval o X.env
  few : ((backTo cpos (starEach [e] X.env)).all (fun x => !x.1) && (backToKw cpos (keywordEach [] X.env)).all (fun x => x.1.isSome)
    && decide (([e] : List Expr).length + ([] : List Keyword).length + (if ([] : List Keyword).isEmpty then 0 else 1) < 30)) = true
  line : (apos.endLine == cpos.line) = true
  trees : backTo cpos (starEach [e] X.env) = [(false, eval e X.env)]
structure M2 (X : Cx) (o : Expr) (m : Str) (apos : Pos) (e f : Expr) (cpos : Pos) : Prop where
  base : attributeBase o m X.env (eval o X.env) = eval o X.env
  few : ((backTo cpos (starEach [e, f] X.env)).all (fun x => !x.1) && (backToKw cpos (keywordEach [] X.env)).all (fun x => x.1.isSome)
    && decide (([e, f] : List Expr).length + ([] : List Keyword).length + (if ([] : List Keyword).isEmpty then 0 else 1) < 30)) = true
  line : (apos.endLine == cpos.line) = true
  trees : backTo cpos (starEach [e, f] X.env) = [(false, eval e X.env), (false, eval f X.env)]

/-- a is a dict, whatever its keys -/
def IsD (H : Hp) (a : Addr) : Prop := (∃ kvs, Rd H a (.dK kvs)) ∨ ∃ kvs, Rd H a (.dT kvs)
section
variable {X : Cx} {pins : List (Addr × Obj)} {σ : St} {H : Hp} {s : Shared} {a : Addr} {y d : V} {u r : Value} {o : Option V} {A : Around} {E : Value → Shared → Prop}
end

def tDGet1 (td ty : TE) : TE := fun σ H Q => td σ H fun x H1 => ∃ a, x = .ref a ∧ IsD H1 a ∧ ty σ H1 fun y H2 => ∃ o, DGet H2 a y o ∧ Q (o.getD .non) H2
def tDGet2 (td ty tx : TE) : TE := fun σ H Q => td σ H fun x H1 => ∃ a, x = .ref a ∧ IsD H1 a ∧ ty σ H1 fun y H2 => tx σ H2 fun z H3 => ∃ o, DGet H3 a y o ∧ Q (o.getD z) H3
/-- d.pop(k): there; d.pop(k, x): there or not -/
def tDPop1 (td ty : TE) : TE := fun σ H Q => td σ H fun x H1 => ∃ a, x = .ref a ∧ IsD H1 a ∧ ty σ H1 fun y H2 => ∃ kvs k v, H2 a = some (.dK kvs) ∧ y = kV k ∧ valV kvs k = some v ∧ Q v (upd H2 a (.dK (dropK kvs k)))
def tDPop2 (td ty tx : TE) : TE := fun σ H Q => td σ H fun x H1 => ∃ a, x = .ref a ∧ IsD H1 a ∧ ty σ H1 fun y H2 => tx σ H2 fun z H3 => ∃ kvs k, H3 a = some (.dK kvs) ∧ y = kV k ∧
  (∀ v, valV kvs k = some v → Q v (upd H3 a (.dK (dropK kvs k)))) ∧ (valV kvs k = none → Q z H3)
section
variable {X : Cx} {o e f : Expr} {apos cpos : Pos} {td ty tx : TE}
end

/-! ### dict(d): a copy -/
section
variable {X : Cx} {pins : List (Addr × Obj)} {σ : St} {H : Hp} {s : Shared} {a : Addr} {kvs : List (Key × V)} {A : Around} {E : Value → Shared → Prop}
end


section
variable {X : Cx} {pins : List (Addr × Obj)} {σ : St} {H : Hp} {s : Shared} {a : Addr} {y : V} {u : Value} {A : Around} {E : Value → Shared → Prop}
end
end L2
namespace L2
open PySem
section
variable {X : Cx}
end
section
variable {κ : Type} [DecidableEq κ]
end
end L2

set_option Elab.async false
set_option linter.all false
set_option maxRecDepth 100000
/-! ### texts and comprehensions for the hand layer -/
namespace L2
open PySem PySem.Spec PyProof.Rows
/-- the signs of a text, one by one -/
def Its (z : Str) : It := ⟨fun i _ => i < z.cps.size, fun i H v H' => H' = H ∧ ∃ c, z.cps[i]? = some c ∧ v = .str ⟨#[c]⟩, fun i _ => i = z.cps.size⟩
section
variable {X : Cx} {y : Str} {py : Pos}
def iStr (te : TE) : TI := fun σ H R => te σ H fun v H1 => ∃ z, v = .str z ∧ R (Its z) H1
end
end L2

set_option Elab.async false
set_option linter.all false
set_option maxRecDepth 100000
namespace L2
open PySem PySem.Spec PyProof.Rows
/-! ### comprehensions -/
/-- the loop of a list comprehension with one clause, no exception wanted -/
theorem comp_loop {prog : Program} {w : World} {A : Around} {R : Result → Shared → Prop} {s : Shared} {elt tg iter : Expr} {ifs : List Expr} {scope : Scope} {pos : Pos} {it acc : Value} {env : Env} (J : Nat → Shared → Prop)
    (turn : ∀ n s, J n s → wpAny (model prog w) A (pyNext it) (fun r s₁ => match r with
      | none => R (.ok .next) s₁
      | some v => wpAny (model prog w) A (letOwnedTupleGo tg it v) (fun _ s₁' => wpAny (model prog w) A (assign tg env v) (fun _ s₂ =>
          wpAny (model prog w) A (forIn ifs true fun c r => if r = true then do let ok ← isTrue c env (eval c env); pure (ForInStep.yield ok) else pure (ForInStep.yield r)) (fun ok s₃ =>
            if ok = true then wpAny (model prog w) A (eval elt env) (fun x s₄ => wpAny (model prog w) A (call (.builtin "list.append") [acc, x]) (fun _ s₅ => ∃ m, m < n ∧ J m s₅) (fun _ _ => False) s₄) (fun _ _ => False) s₃
            else ∃ m, m < n ∧ J m s₃) (fun _ _ => False) s₂) (fun _ _ => False) s₁') (fun _ _ => False) s₁) (fun _ _ => False) s)
    (n : Nat) (h : J n s) : codeAny (model prog w) A (.compLoop (.ListComp elt [⟨tg, iter, ifs, 0⟩] scope pos) 0 it acc env) R s := by
  refine codeAny_loop rfl J (fun n s hJ => ?_) n h
  show wpAny (model prog w) A (Sem.onRaise (compTurn (.ListComp elt [⟨tg, iter, ifs, 0⟩] scope pos) 0 it acc env) (fun e => do noteFrame e env; theTreesLotGoes e)) _ _ s
  refine wpAny_noted ?_
  rw [compTurn_list]
  have no : ∀ {E : Value → Shared → Prop} (a : Value) (b : Shared), False → E a b := fun _ _ z => z.elim
  refine wpAny_bind (wpAny_standAt (wpAny_bind (wpAny_mono (turn n s hJ) (fun r s₁ h₁ => ?_) no)))
  cases r with
  | none => exact wpAny_pure h₁
  | some v =>
    refine wpAny_bind (wpAny_mono h₁ (fun _ s₁' h₁ => ?_) no)
    refine wpAny_bind (wpAny_mono h₁ (fun _ s₂ h₂ => ?_) no)
    refine wpAny_bind (wpAny_mono h₂ (fun ok s₃ h₃ => ?_) no)
    cases ok with
    | false => exact wpAny_pure ⟨rfl, h₃⟩
    | true =>
      refine wpAny_bind (wpAny_bind (wpAny_mono h₃ (fun x s₄ h₄ => ?_) no))
      exact wpAny_bind (wpAny_mono h₄ (fun _ s₅ h₅ => wpAny_pure (wpAny_pure ⟨rfl, h₅⟩)) no)

/-- the context of a comprehension's block -/
abbrev Cx.blk (X : Cx) (scope : Scope) (cl : List (Str × Addr)) (C : Addr) (N : List Str) (s₀ : Shared) (H₀ : Hp) (ex : List Addr) : Cx :=
  { X with env := compEnvC scope cl C X.env, N := N, s₀ := s₀, H₀ := H₀, outer := X.stack, stack := X.stack, ex := ex, fn := fun _ => false, pn := [], xe := fun _ _ => False }
/-- the scope of the block: sc within the def's own scope so; N its names: x, then those at the places fr of the def's names XN -/
structure CSc (sc so : Scope) (x : Str) (N XN : List Str) (fr : List Nat) : Prop where
  kind : sc.kind = .function
  nocell : ∀ y ∈ sc.names, y.2 ≠ .cell
  names : ∀ y ∈ sc.names, y.2 = .local → sc.names.lookup y.1 = some .local
  hx : sc.names.lookup x = some .local
  nd : N.Nodup
  eqN : N = x :: fr.map (fun j => XN.getD j "")
  inN : ∀ j ∈ fr, j < XN.length
  fre : ∀ y ∈ sc.names, y.2 = .free → so.names.lookup y.1 = some .cell ∨ so.names.lookup y.1 = some .free
  isf : ∀ j ∈ fr, sc.names.lookup (XN.getD j "") = some .free
  cel : ∀ j ∈ fr, so.names.lookup (XN.getD j "") ≠ some .local
/-- the cells handed on -/
def closOf (env : Env) : List (Str × NameKind) → List (Str × Addr) → List (Str × Addr)
  | [], acc => acc
  | (n, k) :: r, acc => if k == .free then (match env.cells.lookup n with | some c => closOf env r ((n, c) :: acc) | none => closOf env r acc) else closOf env r acc
theorem clos_run (env : Env) : ∀ (l : List (Str × NameKind)) (acc : List (Str × Addr)), (∀ y ∈ l, y.2 = .free → ∃ c, env.cells.lookup y.1 = some c) →
    (forIn (m := Sem) l acc fun (y : Str × NameKind) (cs : List (Str × Addr)) => if y.2 == .free then do let a ← cellOf env y.1; pure (ForInStep.yield ((y.1, a) :: cs)) else pure (ForInStep.yield cs)) = pure (closOf env l acc)
  | [], acc, _ => rfl
  | (n, k) :: r, acc, h => by
    have ih := fun acc => clos_run env r acc fun y hy => h y (List.mem_cons_of_mem _ hy)
    rw [List.forIn_cons]
    by_cases hk : k = .free
    · subst hk
      obtain ⟨c, e⟩ := h (n, .free) List.mem_cons_self rfl
      simp only [cellOf, e, closOf, beq_self_eq_true, if_true]
      exact ih _
    · have hb : (k == NameKind.free) = false := by simpa using hk
      simp only [hb, closOf, Bool.false_eq_true, if_false]
      exact ih _
theorem clos_eq (env : Env) (sc : Scope) (h : ∀ y ∈ sc.names, y.2 = .free → ∃ c, env.cells.lookup y.1 = some c) : closureFor sc env = pure (closOf env sc.names []) := by
  unfold closureFor
  have e := clos_run env sc.names [] h
  exact (congrArg (fun t : Sem _ => t >>= fun cs => pure cs) e).trans rfl
theorem closOf_sub (env : Env) : ∀ (l : List (Str × NameKind)) (acc : List (Str × Addr)), (∀ y c, acc.lookup y = some c → env.cells.lookup y = some c) → ∀ y c, (closOf env l acc).lookup y = some c → env.cells.lookup y = some c
  | [], acc, h => h
  | (n, k) :: r, acc, h => by
    unfold closOf
    split
    · split
      · rename_i c e
        refine closOf_sub env r _ fun y c' q => ?_
        rw [List.lookup_cons] at q
        cases hy : y == n with
        | true =>
          rw [hy] at q
          cases q
          have : y = n := by simpa using hy
          subst this
          exact e
        | false =>
          rw [hy] at q
          exact h y c' q
      · exact closOf_sub env r acc h
    · exact closOf_sub env r acc h
theorem closOf_acc (env : Env) : ∀ (l : List (Str × NameKind)) (acc : List (Str × Addr)) (y : Str), (∃ c, acc.lookup y = some c) → ∃ c, (closOf env l acc).lookup y = some c
  | [], _, _, h => h
  | (n, k) :: r, acc, y, h => by
    unfold closOf
    split
    · split
      · refine closOf_acc env r _ y ?_
        rw [List.lookup_cons]
        cases y == n with
        | true => exact ⟨_, rfl⟩
        | false => exact h
      · exact closOf_acc env r acc y h
    · exact closOf_acc env r acc y h
theorem closOf_has (env : Env) : ∀ (l : List (Str × NameKind)) (acc : List (Str × Addr)) (y : Str), (y, NameKind.free) ∈ l → (∃ c, env.cells.lookup y = some c) → ∃ c, (closOf env l acc).lookup y = some c
  | [], _, _, h, _ => nomatch h
  | (n, k) :: r, acc, y, h, hc => by
    unfold closOf
    rcases List.mem_cons.mp h with e | hm
    · cases e
      obtain ⟨c, e⟩ := hc
      rw [if_pos (by rfl), e]
      exact closOf_acc env r _ _ ⟨c, by simp [List.lookup_cons]⟩
    · split
      · split
        · exact closOf_has env r _ y hm hc
        · exact closOf_has env r acc y hm hc
      · exact closOf_has env r acc y hm hc
/-- a relabelling: a name stays, or a free one becomes a cell -/
def RelF (f : Str × NameKind → Str × NameKind) : Prop := ∀ p, f p = p ∨ (p.2 = .free ∧ f p = (p.1, .cell))
theorem lookup_hd {y n : Str} {k : NameKind} {r : List (Str × NameKind)} : List.lookup y ((n, k) :: r) = if y = n then some k else r.lookup y := by
  rw [List.lookup_cons]
  by_cases h : y = n
  · rw [if_pos h, show (y == n) = true by simpa using h]
  · rw [if_neg h, show (y == n) = false by simpa using h]
theorem relF_free {f : Str × NameKind → Str × NameKind} (hf : RelF f) : ∀ {names : List (Str × NameKind)} {y : Str} {k : NameKind}, (names.map f).lookup y = some k → (k = .cell ∨ k = .free) → (∀ z ∈ names, z.2 ≠ .cell) → (y, NameKind.free) ∈ names
  | [], _, _, h, _, _ => by simp at h
  | (n, j) :: r, y, k, h, hk, hc => by
    rw [List.map_cons] at h
    have go : r.lookup y = r.lookup y → (r.map f).lookup y = some k → (y, NameKind.free) ∈ (n, j) :: r := fun _ h' => List.mem_cons_of_mem _ (relF_free hf h' hk fun z hz => hc z (List.mem_cons_of_mem _ hz))
    rcases hf (n, j) with e | ⟨e1, e⟩
    · rw [e, lookup_hd] at h
      by_cases hy : y = n
      · rw [if_pos hy] at h
        cases h
        rcases hk with rfl | rfl
        · exact absurd rfl (hc (n, .cell) List.mem_cons_self)
        · rw [hy]; exact List.mem_cons_self
      · rw [if_neg hy] at h
        exact go rfl h
    · rw [e, lookup_hd] at h
      by_cases hy : y = n
      · rw [hy, show j = NameKind.free from e1]; exact List.mem_cons_self
      · rw [if_neg hy] at h
        exact go rfl h
theorem relF_isfree {f : Str × NameKind → Str × NameKind} (hf : RelF f) : ∀ {names : List (Str × NameKind)} {y : Str}, names.lookup y = some .free → (names.map f).lookup y = some .cell ∨ (names.map f).lookup y = some .free
  | [], _, h => by simp at h
  | (n, j) :: r, y, h => by
    rw [lookup_hd] at h
    rw [List.map_cons]
    rcases hf (n, j) with e | ⟨e1, e⟩
    · rw [e, lookup_hd]
      by_cases hy : y = n
      · rw [if_pos hy] at h ⊢
        cases h
        exact .inr rfl
      · rw [if_neg hy] at h ⊢
        exact relF_isfree hf h
    · rw [e, lookup_hd]
      by_cases hy : y = n
      · rw [if_pos hy]
        exact .inl rfl
      · rw [if_neg hy] at h ⊢
        exact relF_isfree hf h
theorem relF_env (env : Env) : RelF fun (n, k) => if (k == NameKind.free && env.scope.kind == .function && env.kindOf n == some .cell) then (n, NameKind.cell) else (n, k) := fun ⟨n, k⟩ => by
  by_cases h : (k == NameKind.free && env.scope.kind == .function && env.kindOf n == some .cell) = true
  · refine .inr ⟨?_, if_pos h⟩
    have h1 := (Bool.and_eq_true_iff.mp (Bool.and_eq_true_iff.mp h).1).1
    simpa using h1
  · exact .inl (if_neg h)
theorem relabel_free {env : Env} {sc : Scope} {y : Str} {k : NameKind} (h : (relabel sc env).names.lookup y = some k) (hk : k = .cell ∨ k = .free) (hc : ∀ z ∈ sc.names, z.2 ≠ .cell) : (y, NameKind.free) ∈ sc.names :=
  relF_free (relF_env env) h hk hc
theorem relabel_isfree {env : Env} {sc : Scope} {y : Str} (h : sc.names.lookup y = some .free) : (relabel sc env).names.lookup y = some .cell ∨ (relabel sc env).names.lookup y = some .free :=
  relF_isfree (relF_env env) h
end L2

set_option Elab.async false
set_option linter.all false
set_option maxRecDepth 100000
namespace L2
open PySem PySem.Spec PyProof.Rows
/-- the tests of a clause -/
def PTs (X : Cx) (ifs : List Expr) (t : TT) : Prop :=
  ∀ (pins : List (Addr × Obj)) (s : Shared) (σ : St) (H : Hp) (Q : Bool → Hp → Prop), Inv X pins σ H s → t σ H Q →
    wpAny (model X.prog X.w) X.A (forIn ifs true fun c r => if r = true then do let ok ← isTrue c X.env (eval c X.env); pure (ForInStep.yield ok) else pure (ForInStep.yield r)) (TP X pins σ Q) X.xe s
def tYes : TT := fun _ H Q => Q true H
theorem pts_nil {X : Cx} : PTs X [] tYes := fun _ _ _ H _ I h => wpAny_tests_nil ⟨H, I, h⟩
/-- the block's names at the start, in a turn -/
def stB (fr : List Nat) (σ : St) : St := none :: fr.map fun j => (σ[j]?).join
def stB1 (x : V) (fr : List Nat) (σ : St) : St := some x :: fr.map fun j => (σ[j]?).join
/-- what a comprehension over J wants behind its iterator: D the list that is made -/
def CompR (J : It) (H1 : Hp) (fr : List Nat) (σ : St) (tt : TT) (te : TE) (Q : VK) : Prop :=
  ∀ D, H1 D = none → ∃ W : Nat → Nat → List V → Hp → Prop, (∃ m, W 0 m [] (upd H1 D (.lst []))) ∧
    ∀ i m ys H2, W i m ys H2 → ((J.stop i H2 ∧ Q (.ref D) H2) ∨ (J.go i H2 ∧ ∀ x H3, J.yld i H2 x H3 → tt (stB1 x fr σ) H3 fun b H4 =>
      if b = true then te (stB1 x fr σ) H4 fun y H5 => H5 D = some (.lst ys) ∧ ys.length < sizeLine ∧ ∃ m', m' < m ∧ W (i + 1) m' (ys ++ [y]) (upd H5 D (.lst (ys ++ [y])))
      else ∃ m', m' < m ∧ W (i + 1) m' ys H4))
def tComp (wi : TI) (fr : List Nat) (tt : TT) (te : TE) : TE := fun σ H Q => wi σ H fun J H1 => CompR J H1 fr σ tt te Q
section
variable {X : Cx} {x : Str} {px : Pos} {elt iter : Expr} {ifs : List Expr} {scope : Scope} {pos : Pos} {N : List Str} {fr : List Nat} {tt : TT} {te : TE} {wi : TI}
theorem csc_has {pins : List (Addr × Obj)} {σ : St} {H : Hp} {s : Shared} (S : CSc scope X.env.scope x N X.N fr) (I : Inv X pins σ H s) : ∀ y ∈ scope.names, y.2 = .free → ∃ c, X.env.cells.lookup y.1 = some c :=
  fun y hy hf => I.ok.has y.1 (S.fre y hy hf)
theorem comp_block {pins : List (Addr × Obj)} {σ : St} {H : Hp} {s₂ : Shared} {J : It} {fp : List Addr} {it : Addr} {tn : Nat → Heap → Prop} {Q : VK} {RR : Value → Addr → Result → Shared → Prop} {E : Value → Shared → Prop}
    (hc : X.calm = true) (S : CSc scope X.env.scope x N X.N fr) (ht : ∀ cl C s₀ H₀ ex, PTs (X.blk scope cl C N s₀ H₀ ex) ifs tt) (he : ∀ cl C s₀ H₀ ex, PE (X.blk scope cl C N s₀ H₀ ex) elt te)
    (I : Inv X pins σ H s₂) (T : Turn X.prog X.w X.K (.Name x px) J fp it tn) (st : tn 0 s₂.heap) (f2 : ∀ b ∈ fp, FpOk X pins H b) (R : CompR J H fr σ tt te Q)
    (hRR : ∀ (D C : Addr) (s' : Shared) (m : Str → Option Value) (H' : Hp), Inv X pins σ H' s' → s'.heap.Ns C m → FpOk X pins H' C → Q (.ref D) H' → RR (.ref D) C (.ok .next) s') :
    wpAny (model X.prog X.w) X.A (newList []) (fun acc s₃ => wpAny (model X.prog X.w) X.A (newFunctionEnv scope X.env.globals (closOf X.env scope.names []) [] X.env.qual none .none (some X.env)) (fun cenv s₄ =>
      codeAny (model X.prog X.w) X.A (.compStart (.ListComp elt [⟨.Name x px, iter, ifs, 0⟩] scope pos) 0 (.ref it) acc { cenv with scope := relabel scope X.env }) (RR acc cenv.locals) s₄) E s₃) E s₂ := by
  refine wpAny_newObj_type (wpAny_newFunctionEnv S.nocell (by intro y hy; simp at hy) (fun h₁ hns₁ hsb₁ => ?_) S.kind)
  dsimp only at hns₁ hsb₁ ⊢
  have hD : H s₂.heap.objs.size = none := I.fresh
  have I0 : Inv X pins σ (upd H s₂.heap.objs.size (.lst [])) { s₂ with heap := s₂.heap.push { cls := .type "list", dict := none, data := .seq ([] : List Value).toArray } } := I.lnew (t' := s₂.toks) (its := []) .nil (Nat.zero_le _)
  have hGp : ∀ b o, s₂.heap.get? b = some o → (s₂.heap.push { cls := .type "list", dict := none, data := .seq ([] : List Value).toArray }).get? b = some o := fun b o e => Heap.get?_push_of_some _ e
  have hGs : (s₂.heap.push { cls := .type "list", dict := none, data := .seq ([] : List Value).toArray }).objs.size = s₂.heap.objs.size + 1 := Heap.size_push ..
  generalize hG : s₂.heap.push { cls := .type "list", dict := none, data := .seq ([] : List Value).toArray } = G at hns₁ hsb₁ I0 hGp hGs ⊢
  generalize hDD : s₂.heap.objs.size = D at hD I0 hGs ⊢
  obtain ⟨W, ⟨m0, w0⟩, turn⟩ := R D hD
  have old : ∀ b o, G.get? b = some o → h₁.get? b = some o := fun b o e => hsb₁.extBut b o (Nat.ne_of_lt (Heap.lt_size e)) (Heap.get?_push_of_some _ e)
  have sub := closOf_sub X.env scope.names [] (fun y c z => by simp at z)
  have IY : Inv (X.blk scope (closOf X.env scope.names []) G.objs.size N { s₂ with heap := G } (upd H D (.lst [])) fp) [] (stB fr σ) (upd H D (.lst [])) { s₂ with heap := h₁, toks := s₂.toks + ([] : List (Str × Value)).length } := by
    refine ⟨⟨I.ok.mod, S.kind, I.ok.glob, I.ok.blt, Nat.le_refl _, fun y z c e1 e2 => I.ok.inj y z c (sub y c e1) (sub z c e2), fun y hy => ?_, fun y c z => (nomatch z), I.ok.hd, I.ok.frames, .inl rfl, fun b hb => ⟨?_, fun y c e => (f2 b hb).2.2.2.2.1 y c (sub y c e)⟩,
      I0.bs, Nat.le_trans I.ok.bsz I0.sz, fun b o e hb => ?_, fun b hb z => ?_, I0.stack, I0.stkFree⟩, rfl, I.bare, Un.kept old, ⟨_, hns₁, fun i y v e1 e2 e3 => ?_⟩, fun y c e => ?_, I0.hok.fresh (Nat.le_refl _), fun y c e => I0.freeC y c (sub y c e), fun p hp => absurd (show p ∈ ([] : List (Addr × Obj)) from hp) (by simp), I0.hok.kept old, ?_⟩
    · have hm : (y, NameKind.free) ∈ scope.names := by
        rcases hy with hy | hy
        · exact relabel_free hy (.inl rfl) S.nocell
        · exact relabel_free hy (.inr rfl) S.nocell
      exact closOf_has X.env scope.names [] y hm (csc_has S I _ hm rfl)
    · obtain ⟨o, e, _⟩ := T.obj 0 _ st b hb
      have h1 : @LT.lt Nat _ b s₂.heap.objs.size := Heap.lt_size e
      show b ≠ G.objs.size
      intro z
      have z' : @Eq Nat b G.objs.size := z
      rw [hGs] at z'
      omega
    · rcases (f2 b hb).2.2.2.1 with z | z
      · exact I.ok.noex b o e z
      · have h1 : @LT.lt Nat _ b X.base.objs.size := Heap.lt_size e
        have h2 : @LE.le Nat _ X.base.objs.size X.s₀.heap.objs.size := I.ok.bsz
        have z' : @LE.le Nat _ X.s₀.heap.objs.size b := z
        omega
    · rcases List.mem_cons.mp (I.stkSub b z) with e | e
      · exact (f2 b hb).2.1 e
      · exact (f2 b hb).2.2.1 e
    · cases i with
      | zero => simp [stB] at e2
      | succ k =>
        have e1' : (fr.map fun j => X.N.getD j "")[k]? = some y := by
          have z : N[k + 1]? = some y := e1
          rw [S.eqN] at z
          simpa using z
        have e2' : (fr.map fun j => (σ[j]?).join)[k]? = some (some v) := by simpa [stB] using e2
        rw [List.getElem?_map] at e1' e2'
        cases hj : fr[k]? with
        | none => rw [hj] at e1'; cases e1'
        | some j =>
          rw [hj] at e1' e2'
          have ey : X.N.getD j "" = y := Option.some.inj e1'
          have ev : (σ[j]?).join = some v := Option.some.inj e2'
          have hjm : j ∈ fr := List.mem_of_getElem? hj
          have hjl := S.inN j hjm
          have eN : X.N[j]? = some y := by rw [← ey]; simp [List.getD, hjl]
          have eσ : σ[j]? = some (some v) := by
            cases q : σ[j]? with
            | none => rw [q] at ev; cases ev
            | some w => rw [q] at ev; rw [show w = some v from ev]
          have hfree : scope.names.lookup y = some .free := by rw [← ey]; exact S.isf j hjm
          have hm : (y, NameKind.free) ∈ scope.names := PySem.mem_of_lookup hfree
          obtain ⟨m, hn, hl⟩ := I.loc
          obtain ⟨u, r, l⟩ := hl j y v eN eσ (by rcases S.fre _ hm rfl with z | z; exact .inr (.inl z); exact .inr (.inr z))
          refine ⟨u, r, ?_⟩
          rcases l with ⟨k1, _⟩ | ⟨_, c, ec, o, ho, hd⟩
          · exact absurd k1 (by rw [← ey]; exact S.cel j hjm)
          · obtain ⟨c', e'⟩ := closOf_has X.env scope.names [] y hm ⟨c, ec⟩
            have e2 := sub y c' e'
            rw [ec] at e2
            cases e2
            exact .inr ⟨relabel_isfree hfree, c, e', o, old _ _ (hGp _ _ ho), hd⟩
    · obtain ⟨v, o, ho, hd⟩ := I.cell y c (sub y c e)
      exact ⟨v, o, old _ _ (hGp _ _ ho), hd⟩
    · show (stB fr σ).length = N.length
      rw [S.eqN]
      simp [stB]
  have fr0 : ∀ b ∈ fp, (upd H D (.lst [])) b = none := fun b hb => by
    obtain ⟨o, e, _⟩ := T.obj 0 _ st b hb
    rw [upd_ne (by intro z; rw [z, ← hDD] at e; exact absurd (Heap.lt_size e) (Nat.lt_irrefl _))]
    exact (f2 b hb).1
  have st₁ : tn 0 h₁ := T.keep _ _ _ st fun b _ o e => old _ _ (hGp _ _ e)
  have stat : ∀ {H' : Hp}, (∀ b ∈ fp, H' b = none) → ∀ b ∈ fp, FpOk (X.blk scope (closOf X.env scope.names []) G.objs.size N { s₂ with heap := G } (upd H D (.lst [])) fp) [] H' b := fun hn b hb =>
    ⟨hn b hb, (IY.ok.exf b hb).1, IY.ok.exfs b hb, .inl hb, (IY.ok.exf b hb).2, fun p hp => absurd (show p ∈ ([] : List (Addr × Obj)) from hp) (by simp)⟩
  have loop : codeAny (model X.prog X.w) X.A (.compLoop (.ListComp elt [⟨.Name x px, iter, ifs, 0⟩] scope pos) 0 (.ref it) (.ref D) (compEnvC scope (closOf X.env scope.names []) G.objs.size X.env)) (RR (.ref D) G.objs.size)
      { s₂ with heap := h₁, toks := s₂.toks + ([] : List (Str × Value)).length } := by
    refine comp_loop (fun n s' => ∃ i ys H', Inv (X.blk scope (closOf X.env scope.names []) G.objs.size N { s₂ with heap := G } (upd H D (.lst [])) fp) [] (stB fr σ) H' s' ∧ tn i s'.heap ∧ (∀ b ∈ fp, H' b = none) ∧ W i n ys H') ?_ m0 ⟨0, [], _, IY, st₁, fr0, w0⟩
    rintro n s3 ⟨i, ys, H3, I3, st3, fr3, w3⟩
    rcases turn i n ys H3 w3 with ⟨stop, q⟩ | ⟨go, step⟩
    · refine thn (T.done (X.blk scope (closOf X.env scope.names []) G.objs.size N { s₂ with heap := G } (upd H D (.lst [])) fp) rfl rfl rfl hc i [] s3 _ H3 _ I3 (stat fr3) st3 stop) fun r s4 ⟨hr, I4⟩ => ?_
      subst hr
      obtain ⟨m', hn', _⟩ := I4.loc
      have u : Un (frs X.stack) fp H H3 s₂.heap s4.heap := Un.trans (Un.laid hGp (Nat.le_of_eq hDD) hD) I4.base
      refine hRR D G.objs.size s4 m' H3 (I.call' I4.os u I4.hok I4.bare fun b hb => ⟨(f2 b hb).2.2.2.1, (f2 b hb).2.1, (f2 b hb).2.2.2.2.1, (f2 b hb).2.2.2.2.2⟩) hn' (I.fpOk (by omega) I4.free) q
    · refine thn (T.item (X.blk scope (closOf X.env scope.names []) G.objs.size N { s₂ with heap := G } (upd H D (.lst [])) fp) rfl rfl rfl hc i [] s3 _ H3 _ I3 (stat fr3) st3 go) fun r s4 ⟨u, hr, h4⟩ => ?_
      subst hr
      refine thn h4 fun _ s5 ⟨x', H5, I5, r5, y5, st5, fr5⟩ => ?_
      have I5' := I5.pinned (stat fr5) (T.obj _ _ st5)
      refine wpAny_assign_Name (store_ok (i := 0) I5' S.nd (by show N[0]? = some x; rw [S.eqN]; rfl) (.inl (lookup_relabel_local S.hx)) r5 (fun s6 I6 => ?_) (.inr (lookup_relabel_local S.hx)))
      have I6' : Inv (X.blk scope (closOf X.env scope.names []) G.objs.size N { s₂ with heap := G } (upd H D (.lst [])) fp) ([] ++ pinsAt fp s5.heap) (stB1 x' fr σ) H5 s6 := I6
      have again : ∀ {H8 : Hp} {s8 : Shared} {ys' : List V}, Inv (X.blk scope (closOf X.env scope.names []) G.objs.size N { s₂ with heap := G } (upd H D (.lst [])) fp) ([] ++ pinsAt fp s5.heap) (stB1 x' fr σ) H8 s8 → (∃ m', m' < n ∧ W (i + 1) m' ys' H8) →
          ∃ m, m < n ∧ ∃ i ys H', Inv (X.blk scope (closOf X.env scope.names []) G.objs.size N { s₂ with heap := G } (upd H D (.lst [])) fp) [] (stB fr σ) H' s8 ∧ tn i s8.heap ∧ (∀ b ∈ fp, H' b = none) ∧ W i m ys H' := fun {H8 s8 ys'} I8 ⟨m', hm, w8⟩ => by
        refine ⟨m', hm, i + 1, ys', H8, I8.unpinned.weak (by simp [stB, stB1]) (fun j v e => ?_), T.keep _ _ _ st5 fun b hb o e => (I8.pin (b, o) (List.mem_append_right _ (List.mem_append_right _ (mem_pinsAt hb e)))).1, fun b hb => ?_, w8⟩
        · cases j with
          | zero => simp [stB] at e
          | succ k => simpa [stB, stB1] using e
        · obtain ⟨o, e, d⟩ := T.obj _ _ st5 b hb
          exact (I8.pin (b, o) (List.mem_append_right _ (List.mem_append_right _ (mem_pinsAt hb e)))).2.1
      refine thn (ht _ _ _ _ _ _ s6 (stB1 x' fr σ) H5 _ I6' (step x' H5 y5)) fun b s7 ⟨H7, I7, q7⟩ => ?_
      cases b with
      | false => exact again I7 q7
      | true =>
        refine thn (he _ _ _ _ _ _ s7 _ H7 _ I7 q7) fun yv s8 ⟨y, H8, I8, r8, hD8, hz, q8⟩ => ?_
        refine thn (mt_append _ s8 _ H8 (.ref D) [y] (.ref D) [yv] (fun _ H9 => H9 = upd H8 D (.lst (ys ++ [y]))) I8 rfl (.cons r8 .nil) ⟨D, ys, y, rfl, rfl, hD8, hz, rfl⟩) fun _ s9 ⟨_, H9, I9, _, e9⟩ => ?_
        subst e9
        exact again I9 q8
  exact codeAny_compStart_list loop (T.self _ 0 _ _ _ st₁ loop)
/-- [elt for x in iter if ..] -/
theorem pe_comp (hc : X.calm = true) (S : CSc scope X.env.scope x N X.N fr) (hi : PI X (.Name x px) iter wi) (ht : ∀ cl C s₀ H₀ ex, PTs (X.blk scope cl C N s₀ H₀ ex) ifs tt) (he : ∀ cl C s₀ H₀ ex, PE (X.blk scope cl C N s₀ H₀ ex) elt te)
    (hs : ∀ v, foldedSetIterable iter X.env v = pure v := by intro _; rfl) : PE X (.ListComp elt [⟨.Name x px, iter, ifs, 0⟩] scope pos) (tComp wi fr tt te) := by
  intro pins s σ H Q I h
  rw [eval_ListComp]
  refine wpAny_comprehension_free (use := none) rfl hs (clos_eq X.env scope (csc_has S I)) S.kind S.names (thn (hi pins s σ H _ I h) fun v s1 h1 => thn h1 fun itv s2 h2 => ?_)
  obtain ⟨it, fp, tn, J, H2, e, I2, T, st2, f2, R⟩ := h2
  subst e
  refine comp_block (RR := fun acc C => compPost (model X.prog X.w) X.A X.xe none (EP X pins σ Q) acc C) hc S ht he I2 T st2 f2 R fun D C s' m H' I' hn hf q => ?_
  exact ⟨m, hn, fun h' hs' => ⟨.ref D, H', I'.turned (t' := s'.toks) (fun b o hb e => hs'.extBut b o hb e) hf.1 hf.2.1 hf.2.2.2.1 hf.2.2.2.2.1 hf.2.2.2.2.2, rfl, q⟩⟩
/-- y = [elt for x in iter if ..] -/
theorem ps_setC {i : Nat} {y : Str} {py spos : Pos} (hN : X.N.Nodup) (hi' : X.N[i]? = some y) (hy : Loc X.env.scope y) (hc : X.calm = true) (S : CSc scope X.env.scope x N X.N fr) (hi : PI X (.Name x px) iter wi)
    (ht : ∀ cl C s₀ H₀ ex, PTs (X.blk scope cl C N s₀ H₀ ex) ifs tt) (he : ∀ cl C s₀ H₀ ex, PE (X.blk scope cl C N s₀ H₀ ex) elt te)
    (hsw : swapsWith (.ListComp elt [⟨.Name x px, iter, ifs, 0⟩] scope pos) (some (.Name y py)) spos.line X.env = pure true := by rfl)
    (hs : ∀ v, foldedSetIterable iter X.env v = pure v := by intro _; rfl) (hf : X.fn y = true ∨ X.env.scope.names.lookup y = some .local := by first | exact .inl rfl | exact .inr rfl | assumption) :
    PS X (.Assign [.Name y py] (.ListComp elt [⟨.Name x px, iter, ifs, 0⟩] scope pos) spos) (tAsg (tComp wi fr tt te) (gName i)) := by
  intro pins s σ H D I h
  rw [exec_Assign_Name_used _ _ _ _ hsw]
  refine wpAny_bind (wpAny_standAt (wpAny_bind ?_))
  show wpAny (model X.prog X.w) X.A (comprehension (.ListComp elt [⟨.Name x px, iter, ifs, 0⟩] scope pos) scope X.env _ (newList []) false (eval iter X.env) (some (assign (.Name y py) X.env)) >>= fun _ => pure ()) _ _ s
  refine wpAny_bind (wpAny_mono (wpAny_comprehension_free (use := some (assign (.Name y py) X.env)) (Q := fun _ s' => SP X pins D .next s') rfl hs (clos_eq X.env scope (csc_has S I)) S.kind S.names
    (thn (hi pins s σ H _ I h) fun v s1 h1 => thn h1 fun itv s2 h2 => ?_)) (fun _ s' hq => wpAny_pure (wpAny_pure hq)) fun _ _ e => e)
  obtain ⟨it, fp, tn, J, H2, e, I2, T, st2, f2, R⟩ := h2
  subst e
  refine comp_block (RR := fun acc C => compPost (model X.prog X.w) X.A X.xe (some (assign (.Name y py) X.env)) (fun _ s' => SP X pins D .next s') acc C) hc S ht he I2 T st2 f2 R fun Dl C s' m H' I' hn hf' q => ?_
  show wpAny (model X.prog X.w) X.A (assign (.Name y py) X.env (.ref Dl)) _ _ _
  refine wpAny_assign_Name (store_ok2 I' hN hi' hy (show RelV (.ref Dl) (.ref Dl) from rfl) (fun s'' I'' ⟨a, sb, ha⟩ => ?_) hf)
  have hCa : C ≠ a := by
    rcases ha with z | z
    · rw [z]; exact hf'.2.1
    · exact fun w => hf'.2.2.2.2.1 y a z w.symm
  exact ⟨m, hn.sameBut sb hCa, fun h' hs' => ⟨_, H', I''.turned (t' := s''.toks) (fun b o hb e => hs'.extBut b o hb e) hf'.1 hf'.2.1 hf'.2.2.2.1 hf'.2.2.2.2.1 hf'.2.2.2.2.2, q⟩⟩
end
end L2

set_option Elab.async false
set_option linter.all false
set_option maxRecDepth 100000
namespace L2
open PySem PySem.Spec PyProof.Rows
/-! ### texts by their codes -/
abbrev tx (l : List Nat) : Str := ⟨l.toArray⟩
theorem tx_len (l : List Nat) : (tx l).length = l.length := by simp [Str.length]
theorem tx_list (l : List Nat) : (tx l).cps.toList = l := by simp [tx]
theorem tx_app (a b : List Nat) : tx a ++ tx b = tx (a ++ b) := by
  show (⟨a.toArray ++ b.toArray⟩ : Str) = ⟨(a ++ b).toArray⟩
  simp
theorem tx_inj {a b : List Nat} : tx a = tx b ↔ a = b := by simp [tx]
/-- a text's part -/
def cutS (z : Str) (lo hi : Option Int) : Str := Txt.slice z lo hi
def rSlS : V → Option Int → Option Int → Hp → VK → Prop := fun x lo hi H Q => ∃ z, x = .str z ∧ z.length ≤ sizeLine ∧
  ((∃ j, lo = none ∧ hi = some j ∧ 0 ≤ j ∧ Q (.str (tx (z.cps.toList.take j.toNat))) H) ∨ (∃ i, lo = some i ∧ hi = none ∧ 0 ≤ i ∧ Q (.str (tx (z.cps.toList.drop i.toNat))) H))
section
variable {X : Cx}
/-! ### methods of texts -/
def rStarts : V → List V → Hp → VK → Prop := fun x xs H Q => ∃ z y, x = .str z ∧ xs = [.str y] ∧ Q (.bl (Txt.startswith z y)) H
def rFind : V → List V → Hp → VK → Prop := fun x xs H Q => ∃ z y, x = .str z ∧ xs = [.str y] ∧ Q (.int (Txt.find z y)) H
theorem strsAre_of : ∀ {ys : List Str} {us : List Value}, Vals (ys.map V.str) us → StrsAre us ys
  | [], us, r => by
    cases r
    exact .nil
  | y :: ys, us, r => by
    rw [List.map_cons] at r
    cases r with
    | cons r1 r2 =>
      obtain ⟨t, rfl⟩ := r1
      exact .cons y t (strsAre_of r2)
def rJoin (K : PySem.W.Frag) : V → List V → Hp → VK → Prop := fun x xs H Q => ∃ (p : Addr) (ys : List (List Nat)), x = .str ⟨#[]⟩ ∧ xs = [.ref p] ∧ SqL K H p (ys.map fun l => V.str (tx l)) ∧ (ys.map List.length).sum ≤ 16777216 ∧ Q (.str (tx ys.flatten)) H
theorem join_codes (ys : List (List Nat)) : Txt.join ⟨#[]⟩ (ys.map tx) = tx ys.flatten := by
  unfold Txt.join
  rw [StrLaws.glued_eq_join]
  induction ys with
  | nil => rfl
  | cons a r ih =>
    cases r with
    | nil => simp [Str.join, tx]
    | cons b r =>
      show tx a ++ ⟨#[]⟩ ++ Str.join ⟨#[]⟩ ((b :: r).map tx) = _
      rw [ih, show tx a ++ (⟨#[]⟩ : Str) = tx a from (tx_app a []).trans (by rw [List.append_nil]), tx_app]
      rfl
theorem mt_join : MtR X "str.join" (rJoin X.K) := by
  intro pins s σ H x xs v us Q I rx rs h
  obtain ⟨p, ys, rfl, rfl, hq, hz, q⟩ := h
  obtain ⟨t, rfl⟩ := rx
  obtain ⟨u, rfl, hu⟩ := rs.one
  cases hu
  obtain ⟨its, r, pl, _⟩ := I.list hq
  have r' : Vals ((ys.map tx).map V.str) its := by rw [List.map_map]; exact r
  refine join_list pl.isList (strsAre_of r') ?_ fun t' k => ⟨.str (tx ys.flatten), H, I.tok _, ⟨t', ?_⟩, q⟩
  · have e : (ys.map tx).map (·.length) = ys.map List.length := by
      rw [List.map_map]
      exact List.map_congr_left fun a _ => tx_len a
    rw [e]
    show _ + _ * 0 ≤ _
    omega
  · rw [join_codes]
/-! ### functions -/
/-- isinstance(x, T), T a built-in type -/
theorem call_isinst : CallR X (.builtin "isinstance") (fun xs H Q => ∃ x t c b, xs = [x, .ty c] ∧ TyOf X.K H x t ∧ PySem.W.kitOne X.K t (.type c) = some b ∧ Q (.bl b) H) := by
  intro pins s σ H xs us Q I r h
  obtain ⟨x, t, c, b, rfl, ty, e, q⟩ := h
  obtain ⟨u, v, rfl, ru, rv⟩ := r.two
  cases rv
  exact isinst_ok I ru ty e fun tk => ⟨.bl b, H, I.tok _, rfl, q⟩
end
theorem kit_bb (K : PySem.W.Frag) : PySem.W.kitOne K (.type "bool") (.type "bool") = some true := by rfl
end L2

set_option Elab.async false
set_option linter.all false
set_option maxRecDepth 100000
namespace L2
open PySem PySem.Spec PyProof.Rows
/-! ### comprehensions by their items -/
theorem Same.upd_new {H H' : Hp} {a : Addr} {o : HO} (s : Same H H') (h : H a = none) : Same H (upd H' a o) := fun b u e => by
  rw [upd_ne (ne_of_none e h)]
  exact s b u e
theorem Same.new {H : Hp} {a : Addr} {o : HO} (h : H a = none) : Same H (upd H a o) := (Same.refl H).upd_new h
/-- an iterator that tells just the items xs as long as what H1 tracks stays -/
structure Tells (J : It) (H1 : Hp) (xs : List V) : Prop where
  go : ∀ i H, i < xs.length → Same H1 H → J.go i H
  stop : ∀ H, Same H1 H → J.stop xs.length H
  yld : ∀ i H x H', Same H1 H → i < xs.length → J.yld i H x H' → H' = H ∧ xs[i]? = some x
theorem comp_by {α : Type} {J : It} {H1 : Hp} {fr : List Nat} {σ : St} {tt : TT} {te : TE} {Q : VK} {cs : List α} {g : α → V} (T : Tells J H1 (cs.map g)) (p : α → Bool) (f : α → V) (hz : cs.length ≤ sizeLine)
    (ht : ∀ c H2 Q2, c ∈ cs → Same H1 H2 → (∀ H3, Same H2 H3 → Q2 (p c) H3) → tt (stB1 (g c) fr σ) H2 Q2)
    (he : ∀ c H2 Q2, c ∈ cs → p c = true → Same H1 H2 → (∀ H3, Same H2 H3 → Q2 (f c) H3) → te (stB1 (g c) fr σ) H2 Q2)
    (hQ : ∀ D H2, H1 D = none → Same H1 H2 → H2 D = some (.lst ((cs.filter p).map f)) → Q (.ref D) H2) : CompR J H1 fr σ tt te Q := by
  intro D hD
  have hlen : (cs.map g).length = cs.length := List.length_map ..
  refine ⟨fun i m ys H2 => m = cs.length - i ∧ i ≤ cs.length ∧ ys = ((cs.take i).filter p).map f ∧ Same H1 H2 ∧ H2 D = some (.lst ys), ⟨_, rfl, Nat.zero_le _, rfl, Same.new hD, upd_same⟩, ?_⟩
  rintro i m ys H2 ⟨rfl, hi, rfl, s2, d2⟩
  by_cases hlt : i < cs.length
  · refine .inr ⟨T.go i H2 (by rw [hlen]; exact hlt) s2, fun x H3 y => ?_⟩
    obtain ⟨rfl, hx⟩ := T.yld i H2 x H3 s2 (by rw [hlen]; exact hlt) y
    rw [List.getElem?_map] at hx
    cases hc : cs[i]? with
    | none => rw [hc] at hx; cases hx
    | some c =>
      rw [hc] at hx
      obtain rfl : g c = x := Option.some.inj hx
      have hm : c ∈ cs := List.mem_of_getElem? hc
      have tk : (cs.take (i + 1)).filter p = (cs.take i).filter p ++ (if p c then [c] else []) := take_succ_filter p cs i c hc
      refine ht c H3 _ hm s2 fun H4 s4 => ?_
      cases hp : p c with
      | false =>
        rw [hp] at tk
        refine ⟨_, ?_, rfl, hlt, by rw [tk]; simp, s2.trans s4, s4 _ _ d2⟩
        omega
      | true =>
        rw [hp] at tk
        refine he c H4 _ hm hp (s2.trans s4) fun H5 s5 => ⟨s5 _ _ (s4 _ _ d2), ?_, _, ?_, rfl, hlt, by rw [tk]; simp, ((s2.trans s4).trans s5).upd_new hD, upd_same⟩
        · have h1 := List.length_filter_le p (cs.take i)
          rw [List.length_take] at h1
          rw [List.length_map]
          omega
        · omega
  · obtain rfl : i = cs.length := by omega
    exact .inl ⟨by have := T.stop H2 s2; rw [hlen] at this; exact this, hQ D H2 hD s2 (by rw [List.take_length] at d2; exact d2)⟩
theorem tells_range {H1 : Hp} {lo : Int} {n : Nat} : Tells (Itr lo n) H1 ((List.range n).map fun k : Nat => V.int (lo + (k : Int))) where
  go := fun i H hi _ => by
    rw [List.length_map, List.length_range] at hi
    exact hi
  stop := fun H _ => by
    rw [List.length_map, List.length_range]
    exact Nat.le_refl _
  yld := fun i H x H' _ hi y => by
    obtain ⟨e, rfl⟩ := y
    rw [List.length_map, List.length_range] at hi
    refine ⟨e, ?_⟩
    rw [List.getElem?_map, List.getElem?_range hi]
    rfl
theorem tells_list {K : PySem.W.Frag} {H1 : Hp} {a : Addr} {xs : List V} (h : SqL K H1 a xs) : Tells (Itl K a) H1 xs where
  go := fun i H hi s => ⟨xs, xs[i], s.seq h, by simp [hi]⟩
  stop := fun H s => ⟨xs, s.seq h, Nat.le_refl _⟩
  yld := fun i H x H' s _ y => ⟨y.1, y.2 xs (s.seq h)⟩
/-- the same for one test-free clause -/
theorem comp_map {α : Type} {J : It} {H1 : Hp} {fr : List Nat} {σ : St} {te : TE} {Q : VK} {cs : List α} {g : α → V} (T : Tells J H1 (cs.map g)) (f : α → V) (hz : cs.length ≤ sizeLine)
    (he : ∀ c H2 Q2, c ∈ cs → Same H1 H2 → (∀ H3, Same H2 H3 → Q2 (f c) H3) → te (stB1 (g c) fr σ) H2 Q2)
    (hQ : ∀ D H2, H1 D = none → Same H1 H2 → H2 D = some (.lst (cs.map f)) → Q (.ref D) H2) : CompR J H1 fr σ tYes te Q :=
  comp_by T (fun _ => true) f hz (fun c H2 Q2 _ _ h => h H2 (Same.refl _)) (fun c H2 Q2 hm _ s h => he c H2 Q2 hm s h) fun D H2 hD s d => hQ D H2 hD s (by rw [List.filter_eq_self.mpr (fun _ _ => rfl)] at d; exact d)
end L2

set_option Elab.async false
set_option linter.all false
set_option maxRecDepth 100000
namespace L2
open PySem PySem.Spec PyProof.Rows
/-! ### short forms -/
/-- a def of the text, with its binding and its global name -/
structure DefOk (K : PySem.W.Frag) (mg : Str → Option Value) (x : Str) (st : Stmt) (ps : List Str) (f : Addr) (fd : FuncData) : Prop where
  fn : Fun K x x st f fd
  b : Binds K fd ps []
  g : mg x = some (.ref f)
section
variable {X : Cx}
/-- a constant of the module -/
theorem pe_const {x : Str} {v : V} {pos : Pos} (h : ∃ u, X.mg x = some u ∧ RelV v u) (hg : Gl X x := by rfl) (hd : (x == ("__debug__" : Str)) = false := by decide) : PE X (.Name x pos) (tC v) := by
  obtain ⟨u, e, r⟩ := h
  exact pe_glob hg e r hd
/-- a built-in type as a value -/
theorem pe_ty {x : Str} {T : String} {pos : Pos} (hm : X.mg x = none) (hv : bootBuiltins x = some (.type T)) (hg : Gl X x := by rfl) (hn : x ≠ "__name__" := by decide) (hd : (x == ("__debug__" : Str)) = false := by decide) : PE X (.Name x pos) (tC (.ty T)) :=
  pe_bltn hg hm hv rfl hn hd
end
/-- the looks of a block's scope, computed -/
def cscOk (sc so : Scope) (x : Str) (N XN : List Str) (fr : List Nat) : Bool :=
  decide (sc.kind = .function) && sc.names.all (fun y => decide (y.2 ≠ .cell)) && sc.names.all (fun y => decide (y.2 = .local → sc.names.lookup y.1 = some .local)) && decide (sc.names.lookup x = some .local) && decide N.Nodup &&
  decide (N = x :: fr.map (fun j => XN.getD j "")) && fr.all (fun j => decide (j < XN.length)) && sc.names.all (fun y => decide (y.2 = .free → so.names.lookup y.1 = some .cell ∨ so.names.lookup y.1 = some .free)) &&
  fr.all (fun j => decide (sc.names.lookup (XN.getD j "") = some .free)) && fr.all (fun j => decide (so.names.lookup (XN.getD j "") ≠ some .local))
theorem CSc.of {sc so : Scope} {x : Str} {N XN : List Str} {fr : List Nat} (h : cscOk sc so x N XN fr = true) : CSc sc so x N XN fr := by
  unfold cscOk at h
  simp only [Bool.and_eq_true, List.all_eq_true, decide_eq_true_eq] at h
  obtain ⟨⟨⟨⟨⟨⟨⟨⟨⟨h1, h2⟩, h3⟩, h4⟩, h5⟩, h6⟩, h7⟩, h8⟩, h9⟩, h10⟩ := h
  exact ⟨h1, h2, h3, h4, h5, h6, h7, h8, h9, h10⟩
/-! ### readings, one by one -/
theorem map_get {α β : Type} {f : α → β} {l : List α} {i : Nat} {y : β} (h : (l.map f)[i]? = some y) : ∃ z, l[i]? = some z ∧ y = f z := by
  rw [List.getElem?_map] at h
  cases e : l[i]? with
  | none => rw [e] at h; cases h
  | some z => rw [e] at h; exact ⟨z, rfl, (Option.some.inj h).symm⟩
theorem cxOf_K {CX : CXT} {P : Program} {w : World} {K : PySem.W.Frag} {mg : Str → Option Value} {base : Heap} {N : List Str} {qual : Str} {scope : Scope} {f : Addr} {cd : Value} {A : Around} {outer : List Env} {s : Shared} {H : Hp} {E : XK} :
    (cxOf CX P w K mg base N qual scope f cd A outer s H E).K = K := rfl
/-- a <= b <= k, k a written number or a constant of the module -/
def tBetw (ta tb : TE) (k : Int) : TE := fun σ H Q => ta σ H fun x H1 => tb σ H1 fun y H2 => ∃ i j, x = .int i ∧ y = .int j ∧ Q (.bl (decide (i ≤ j) && decide (j ≤ k))) H2
def tBetwT (ta tb : TE) (k : Int) : TT := fun σ H Q => ta σ H fun x H1 => tb σ H1 fun y H2 => ∃ i j, x = .int i ∧ y = .int j ∧ Q (decide (i ≤ j) && decide (j ≤ k)) H2
/-! ### slices, beginnings, written texts -/
def rTo : V → Option Int → Option Int → Hp → VK → Prop := fun x lo hi H Q => ∃ z j, x = .str z ∧ lo = none ∧ hi = some j ∧ z.length ≤ sizeLine ∧ 0 ≤ j ∧ Q (.str (tx (z.cps.toList.take j.toNat))) H
def rFr : V → Option Int → Option Int → Hp → VK → Prop := fun x lo hi H Q => ∃ z j, x = .str z ∧ lo = some j ∧ hi = none ∧ z.length ≤ sizeLine ∧ 0 ≤ j ∧ Q (.str (tx (z.cps.toList.drop j.toNat))) H
theorem starts1 (l : List Nat) (c : Nat) : Txt.startswith (tx l) (tx [c]) = decide (l.head? = some c) := by
  unfold Txt.startswith
  cases l with
  | nil => rfl
  | cons a r =>
    rw [Bool.eq_iff_iff]
    simp [Builtin.Str.subAt, Str.length, tx]
end L2

set_option Elab.async false
set_option linter.all false
set_option maxRecDepth 100000
/-! ### numbers as texts, by codes -/
namespace L2
open PySem
def digs : List Nat := [48, 49, 50, 51, 52, 53, 54, 55, 56, 57]
def numC (n : Int) : List Nat := (Str.ofString (toString n)).cps.toList
def figsC (l : List Nat) : Bool := decide (1 ≤ l.length ∧ l.length ≤ 60) && (!(decide (l.head? = some 48) && decide (l ≠ [48]))) && l.all fun c => decide (c ∈ digs)
def readC (l : List Nat) : Option Int :=
  if l = [45, 48] ∨ figsC (if l.head? = some 45 then l.drop 1 else l) = false then none
  else some (if l.head? = some 45 then -((NumText.digitsVal (l.drop 1) : Nat) : Int) else ((NumText.digitsVal l : Nat) : Int))
/-- the figures of a natural number -/
def digC (m : Nat) : List Nat := (Nat.toDigits 10 m).map Char.toNat
theorem atI_zero {α : Type} {a : α} {r : List α} : atI (a :: r) 0 = some a := by
  have e := atI_nat (xs := a :: r) (j := 0) (v := a) rfl
  simpa using e
end L2

set_option Elab.async false
set_option linter.all false
set_option maxRecDepth 100000
/-! ### exceptions of own classes under ValueError: raised, passed on -/
namespace L2
open PySem PySem.Spec PyProof.Rows
abbrev veB : List Value := [.type "ValueError", .type "Exception", .type "BaseException", .type "object"]
structure XCls (K : PySem.W.Frag) (mg : Str → Option Value) (x : Str) (C : Addr) : Prop where
  g : mg x = some (.ref C)
  ex : PySem.W.excIn K C veB "ValueError.__new__" = true
theorem XCls.own {K : PySem.W.Frag} {mg : Str → Option Value} {x : Str} {C : Addr} {h : Heap} (T : XCls K mg x C) (X : K.In h) : OwnCls x C veB "ValueError.__new__" mg h := by
  refine ⟨T.g, ?_⟩
  have q := T.ex
  unfold PySem.W.excIn at q
  split at q
  · rename_i dd cd sl ho
    split at q
    · rename_i C' bm k0 k1 k2 k3 n k5 hm hs
      simp only [Bool.and_eq_true, beq_iff_eq, Bool.not_eq_true'] at q
      obtain ⟨⟨⟨⟨⟨e1, e2⟩, e3⟩, e4⟩, e5⟩, e6⟩ := q
      subst e1 e2
      obtain ⟨nm, bs, mro, ns, qn, hd, sn, sub, ab, col, del⟩ := cd
      dsimp only at hm e3 e5 e6
      subst hm e3
      obtain rfl : sl = #[k0, k1, k2, k3, some (.builtin "ValueError.__new__"), k5] := by
        obtain ⟨l⟩ := sl
        simp only at hs
        rw [hs]
      exact ⟨bm, ns, nm, qn, bs, hd, sn, sub, ab, col, dd, k0, k1, k2, k3, k5, _, X _ _ ho, .of_isNs (PySem.W.isNs_of_in X e5), PySem.W.nsMap_none_of_in X e5 e6, PySem.W.tail_of_in X e4⟩
    · cases q
  · cases q
/-- an exception in flight over the frames outer: a its object, C its class; H, s: ahead of the call; H', s': behind it -/
structure Fly (P : Program) (w : World) (outer : List Env) (H : Hp) (s : Shared) (H' : Hp) (a C : Addr) (s' : Shared) : Prop where
  os : s'.os = s.os
  bare : AllBare s'.gens
  fly : ∃ a0 B, Heap.FlyingW B outer a (.ref C) a0 s'.heap ∧ HOk P w H' B ∧ (∀ b o, s.heap.get? b = some o → H b = none → b ∉ frs outer → B.get? b = some o) ∧ ∀ b o, s.heap.get? b = some o → b ∉ frs outer → ∃ o', B.get? b = some o'
  slot : ∀ b o, s.heap.get? b = some o → H b = none → b ∈ frs outer → ∃ sl, s'.heap.get? b = some { o with slots := sl }
  free : ∀ b o, s.heap.get? b = some o → H b = none → H' b = none
  tups : ∀ b xs, H b = some (.tup xs) → H' b = some (.tup xs)
  frzs : ∀ b o u, H b = some (.frz o u) → H' b = some (.frz o u)
  tbls : ∀ b ps, H b = some (.tbl ps) → ∃ more, H' b = some (.tbl (ps ++ more))
def CX1 (P : Program) (w : World) : CXT := fun outer H s E e s' => ∃ a C H', e = .ref a ∧ Fly P w outer H s H' a C s' ∧ E (.ref C) none H'
/-- what a raise wants of the wish -/
def Raises (X : Cx) (E : XK) : Prop := ∀ (pins : List (Addr × Obj)) (σ : St) (H : Hp) (s : Shared) (h' : Heap) (e C : Addr) (vs : List Value), Inv X pins σ H s → Heap.MadeExcOf s.heap h' e (.ref C) vs → E (.ref C) none H → X.xe (.ref e) { s with heap := h' }
section
variable {P : Program} {w : World} {K : PySem.W.Frag} {mg : Str → Option Value} {base : Heap} {N : List Str} {qual : Str} {scope : Scope} {f : Addr} {cd : Value} {A : Around} {outer : List Env} {s : Shared} {H : Hp} {E : XK}
end
theorem pass0' {P : Program} {w : World} {X : Cx} : Passes (CX1 P w) X E0 := fun _ _ _ _ _ _ _ ⟨_, _, _, _, _, z⟩ => z.elim
/-- raise C(e) -/
def tRaise (E : XK) (C : Addr) (te : TE) : TS := fun _ σ H => te σ H fun _ H1 => E (.ref C) none H1
end L2

set_option Elab.async false
set_option linter.all false
set_option maxRecDepth 100000
/-! ### isinstance of an exception -/
namespace L2
open PySem PySem.Spec PyProof.Rows PySem.W PySem.Builtin PySem.Builtin.ObjectAttr PySem.Builtin.Getset_descriptor
/-- what is asked of an own exception class, for isinstance -/
structure XLook (K : Frag) (C : Addr) : Prop where
  ga : findIn K (.ref C) "__getattribute__" = some (some (.builtin "BaseException.__getattribute__"))
  gn : findIn K (.ref C) "__getattr__" = some none
  cl : findIn K (.ref C) "__class__" = some (some (.builtin "object.__class__"))
  hc : (clsIn K C).isSome = true
  hn : specialIn K (.builtin "object.__class__") "__get__" = some (some (.builtin "getset_descriptor.__get__"))
  tk : takesIn K (.builtin "object.__class__") = some true
  mo : mroIn K C (.type "object") = some true
  mb : mroIn K C (.type "BaseException") = some true
/-- an object of the class at C -/
def OfCls (h : Heap) (x C : Addr) : Prop := ∃ ox, h.get? x = some ox ∧ ox.cls = .ref C
theorem OfCls.type {M : Model} {h : Heap} {x C : Addr} (I : OfCls h x C) : Looks M h (typeOf (.ref x)) (.ref C) := by
  obtain ⟨ox, e, c⟩ := I
  exact c ▸ (Looks.ld e).andThen .now
section
variable {prog : Program} {w : World} {A : Around} {E : Value → Shared → Prop} {s : Shared} {K : Frag} {x C : Addr}
end
/-- an exception object of the class at C, known to the abstract heap -/
abbrev hoExc (a C : Addr) : HO := .ext fun h => OfCls h a C
section
variable {X : Cx}
end
end L2

set_option Elab.async false
set_option linter.all false
set_option maxRecDepth 100000
/-! ### try, except C as e -/
namespace L2
open PySem PySem.Spec PyProof.Rows
/-! ### judgements that tell the names' values where an exception leaves -/
def PEat (X : Cx) (pins : List (Addr × Obj)) (σ : St) (e : Expr) (t : TE) : Prop := ∀ (s : Shared) (H : Hp) (Q : VK), Inv X pins σ H s → t σ H Q → wpAny (model X.prog X.w) X.A (eval e X.env) (EP X pins σ Q) X.xe s
def PassesAt (CX : CXT) (X : Cx) (pins : List (Addr × Obj)) (σ : St) (E : XK) : Prop := ∀ (H : Hp) (s : Shared) (e : Value) (s' : Shared), Inv X pins σ H s → CX X.stack H s E e s' → X.xe e s'
section
variable {X : Cx} {CX : CXT} {k : Nat} {f C : Addr} {fd : FuncData} {ps : List Str} {sp : Sp} {dvs : List V} {ds : List Value} {E : XK} {x m : Str} {p pos apos : Pos} {e o : Expr} {es : List Expr} {ta : TE} {t : TA} {pins : List (Addr × Obj)} {σ : St}
end
/-- where an exception leaves a statement: the names' values and the call -/
def XPX (X : Cx) (CX : CXT) (pins : List (Addr × Obj)) (EX : St → XK) : Value → Shared → Prop := fun e s' => ∃ σ H s, Inv X pins σ H s ∧ CX X.stack H s (EX σ) e s'
abbrev TSX := Ends → (St → XK) → St → Hp → Prop
def PSX1 (CX : CXT) (X : Cx) (st : Stmt) (t : TSX) : Prop := ∀ (pins : List (Addr × Obj)) (s : Shared) (σ : St) (H : Hp) (D : Ends) (EX : St → XK), Inv X pins σ H s → t D EX σ H → wpAny (model X.prog X.w) X.A (exec st X.env) (SP X pins D) (XPX X CX pins EX) s
def PSX (CX : CXT) (X : Cx) (sts : List Stmt) (t : TSX) : Prop := ∀ (pins : List (Addr × Obj)) (s : Shared) (σ : St) (H : Hp) (D : Ends) (EX : St → XK), Inv X pins σ H s → t D EX σ H → wpAny (model X.prog X.w) X.A (execs sts X.env) (SP X pins D) (XPX X CX pins EX) s
section
variable {X : Cx} {CX : CXT} {st : Stmt} {rest : List Stmt} {t u : TSX} {e : Expr} {pos : Pos} {te : XK → TE}
def xSeq (t u : TSX) : TSX := fun D EX σ H => t { D with nx := u D EX } EX σ H
/-- the expression of a statement, whatever is wanted of its exceptions -/
def XE (CX : CXT) (X : Cx) (e : Expr) (te : XK → TE) : Prop := ∀ (xe : Value → Shared → Prop) (pins : List (Addr × Obj)) (σ : St) (E : XK), PassesAt CX (X.wish xe) pins σ E → PEat (X.wish xe) pins σ e (te E)
end
end L2

set_option Elab.async false
set_option linter.all false
set_option maxRecDepth 100000
namespace L2
open PySem PySem.Spec PyProof.Rows
/-- within an except suite -/
abbrev Cx.hdl (X : Cx) (a : Addr) : Cx := { X with A := X.A.mark (some (.ref a)), calm := false, xe := fun _ _ => False }
section
variable {X : Cx} {pins : List (Addr × Obj)} {σ : St} {H : Hp} {s : Shared} {a : Addr}
theorem Inv.hdl (I : Inv X pins σ H s) (a : Addr) : Inv (X.hdl a) pins σ H s :=
  ⟨⟨I.ok.mod, I.ok.kind, I.ok.glob, I.ok.blt, I.ok.above, I.ok.inj, I.ok.has, I.ok.cab, fun z => (nomatch z), I.ok.frames, I.ok.stk, I.ok.exf, I.ok.bs, I.ok.bsz, I.ok.noex, I.ok.exfs, I.ok.funs, I.ok.frf⟩, I.os, I.bare, I.base, I.loc, I.cell, I.free, I.freeC, I.pin, I.hok, I.len⟩
/-- a local name goes -/
theorem Inv.goes {i : Nat} {n : Str} {h' : Heap} {v : Option Value} {m : Str → Option Value} {t' : Nat} (I : Inv X pins σ H s) (hN : X.N.Nodup) (hi : X.N[i]? = some n)
    (hl : ∀ (j : Nat) (x : Str) (v : V), X.N[j]? = some x → σ[j]? = some (some v) → Vis X.env.scope x → ∃ u, RelV v u ∧ Look X.env s.heap m x u)
    (hn' : h'.Ns X.env.locals (fun x => if x = n then v else m x)) (sb : Heap.SameBut X.env.locals s.heap h') : Inv X pins (σ.set i none) H { s with heap := h', toks := t' } := by
  have ne : ∀ b o, X.s₀.heap.get? b = some o → b ≠ X.env.locals := fun b o e => Nat.ne_of_lt (Nat.lt_of_lt_of_le (Heap.lt_size e) I.ok.above)
  have hcell : ∀ x c, X.env.cells.lookup x = some c → ∀ u, s.heap.IsCell c u → h'.IsCell c u := fun x c e u ⟨o, ho, hd⟩ => ⟨o, (sb.2 c (I.cne x c e)).trans ho, hd⟩
  refine ⟨I.ok, I.os, I.bare, ⟨fun b o e n hb hx => (sb.2 b (ne b o e)).trans (I.base.keep b o e n hb hx), fun b o e n hb hx => ?_, I.base.free, fun b o e hx => ?_, I.base.tups, I.base.frzs, I.base.tbls⟩, ⟨_, hn', fun j x v' e1 e2 e3 => ?_⟩, fun x c e => ?_, I.free, I.freeC, fun p hp => ?_, fun b u e => ?_, by simpa using I.len⟩
  · obtain ⟨sl, q⟩ := I.base.slot b o e n hb hx
    exact ⟨sl, (sb.2 b (ne b o e)).trans q⟩
  · obtain ⟨o', q⟩ := I.base.there b o e hx
    exact ⟨o', (sb.2 b (ne b o e)).trans q⟩
  · by_cases hj : j = i
    · subst hj
      have hl2 : j < σ.length := by
        have := (List.getElem?_eq_some_iff.mp e2).1
        simpa using this
      rw [List.getElem?_set_self hl2] at e2
      cases e2
    · rw [List.getElem?_set_ne (Ne.symm hj)] at e2
      obtain ⟨u, r, q⟩ := hl j x v' e1 e2 e3
      refine ⟨u, r, ?_⟩
      rcases q with ⟨k, q⟩ | ⟨k, c, q, z⟩
      · have hxn : x ≠ n := fun z => hj (nodup_ix hN e1 (z ▸ hi))
        exact .inl ⟨k, (if_neg hxn).trans q⟩
      · exact .inr ⟨k, c, q, hcell x c q _ z⟩
  · obtain ⟨u, z⟩ := I.cell x c e
    exact ⟨u, hcell x c e u z⟩
  · obtain ⟨e, nn, ne', nf, d⟩ := I.pin p hp
    exact ⟨(sb.2 p.1 ne').trans e, nn, ne', nf, d⟩
  · refine (I.hok b u e).stay (fun c w hc q => (sb.2 c ?_).trans q) (fun _ q => q) fun _ _ q => q
    rintro rfl
    rcases hc with z | z
    · rw [← z, I.free] at e
      cases e
    · rw [I.free] at z
      cases z
end
/-- try: body; except D0 as n: suite. Any exception that the body lets out is of a class under D0 -/
def tTry (Ok : Addr → Prop) (i : Nat) (tb : TSX) (th : TS) : TS := fun D σ H => tb D (fun σ' c _ H' => ∃ C, c = .ref C ∧ Ok C ∧
  ∀ a, H' a = none → th { nx := fun σ2 H2 => D.nx (σ2.set i none) H2, rt := D.rt } (σ'.set i (some (.ref a))) (upd H' a (hoExc a C))) σ H
end L2

set_option Elab.async false
set_option linter.all false
set_option maxRecDepth 100000
/-! ### defs that are called within an except suite: no loops, no exceptions of their own -/
namespace L2
open PySem PySem.Spec PyProof.Rows
structure RoomH (k : Nat) (A : Around) : Prop where
  dp : A.depth + 3 * k + 5 < recursionLimit
  un : A.units + 16 * k + 200 < cLine
theorem Room.h {k : Nat} {A : Around} (r : Room k A) (e : Option Value) : RoomH k (A.mark e) := ⟨r.dp, r.un⟩
theorem RoomH.deeper {k : Nat} {A : Around} (r : RoomH (k + 1) A) (env : Env) : RoomH k (A.deeper env) :=
  ⟨by have := r.dp; show A.depth + 1 + 3 * k + 5 < _; omega, by have := r.un; show A.units + 3 + 16 * k + 200 < _; omega⟩
theorem RoomH.mono {j k : Nat} {A : Around} (r : RoomH k A) (h : j ≤ k) : RoomH j A := ⟨by have := r.dp; omega, by have := r.un; omega⟩
structure FnOkH (P : Program) (w : World) (K : PySem.W.Frag) (mg : Str → Option Value) (base : Heap) (k : Nat) (f : Addr) (fd : FuncData) (ps : List Str) (sp : Sp) : Prop where
  len : ∀ vs H Q E, sp vs H Q E → vs.length = ps.length
  run : ∀ (A : Around) (outer : List Env) (s : Shared) (H : Hp) (args : Args) (us : List Value) (vs : List V) (Q : VK), RoomH k A → Env0 P w K mg base A outer s H → BindsTo s fd args (ps.zip us) → Vals vs us → sp vs H Q E0 →
    codeAny (model P w) A (.call (.ref f) args) (CR CX0 outer P w H s Q E0) s
theorem FnOkH.mono {P : Program} {w : World} {K : PySem.W.Frag} {mg : Str → Option Value} {base : Heap} {j k : Nat} {f : Addr} {fd : FuncData} {ps : List Str} {sp : Sp} (F : FnOkH P w K mg base j f fd ps sp) (h : j ≤ k) : FnOkH P w K mg base k f fd ps sp :=
  ⟨F.len, fun A outer s H args us vs Q hr => F.run A outer s H args us vs Q (hr.mono h)⟩
/-- the context of such a def's body -/
def cxH (P : Program) (w : World) (K : PySem.W.Frag) (mg : Str → Option Value) (base : Heap) (N : List Str) (qual : Str) (scope : Scope) (f : Addr) (cd : Value) (A : Around) (outer : List Env) (s : Shared) (H : Hp) : Cx :=
  { cxOf CX0 P w K mg base N qual scope f cd A outer s H E0 with calm := false, xe := fun _ _ => False }
section
variable {P : Program} {w : World} {K : PySem.W.Frag} {mg : Str → Option Value} {base : Heap}
/-- a def that may raise -/
theorem Fun.okX {x qual : Str} {st : Stmt} {f : Addr} {fd : FuncData} {N ps : List Str} {k : Nat} {sp : Sp} (F : Fun K x qual st f fd) (S : FnScope N ps (defScope st)) (len : ∀ vs H Q E, sp vs H Q E → vs.length = ps.length)
    (hbody : ∀ (cdv : Value) (A : Around) (outer : List Env) (s : Shared) (H : Hp) (vs : List V) (Q : VK) (E : XK), Room k (A.deeper (envOfC qual (defScope st) s.heap.objs.size f cdv)) → sp vs H Q E →
      ∃ t, PSs (cxOf (CX1 P w) P w K mg base N qual (defScope st) f cdv A outer s H E) (defBody st) t ∧ t { nx := fun _ H' => Q .non H', rt := Q } (start N vs) H) : FnOk P w K mg base (CX1 P w) (k + 1) f fd ps sp := by
  obtain ⟨oc, od, kV, doc, pm, an, cdv, ct, osl, rfl, lk, hcd⟩ := F.ex
  exact fn_of lk hcd S len fun A outer s H vs Q E hr hsp => hbody cdv A outer s H vs Q E hr hsp
/-- a def that lets no exception out, over the same calls -/
theorem Fun.okN {x qual : Str} {st : Stmt} {f : Addr} {fd : FuncData} {N ps : List Str} {k : Nat} {sp : Sp} (F : Fun K x qual st f fd) (S : FnScope N ps (defScope st)) (len : ∀ vs H Q E, sp vs H Q E → vs.length = ps.length)
    (hbody : ∀ (cdv : Value) (A : Around) (outer : List Env) (s : Shared) (H : Hp) (vs : List V) (Q : VK) (E : XK), Room k (A.deeper (envOfC qual (defScope st) s.heap.objs.size f cdv)) → sp vs H Q E →
      ∃ t, PSs (cxOf (CX1 P w) P w K mg base N qual (defScope st) f cdv A outer s H E).nox (defBody st) t ∧ t { nx := fun _ H' => Q .non H', rt := Q } (start N vs) H) : FnOk P w K mg base (CX1 P w) (k + 1) f fd ps sp :=
  F.okX S len fun cdv A outer s H vs Q E hr hsp => by
    obtain ⟨t, h, q⟩ := hbody cdv A outer s H vs Q E hr hsp
    exact ⟨t, h.nox, q⟩
end
section
variable {X : Cx}
/-- f(e, ..) of a def over CX1: no exception, or one that goes on -/
theorem pe_fnx {P : Program} {w : World} {k : Nat} {f : Addr} {fd : FuncData} {ps : List Str} {sp : Sp} {E : XK} {x : Str} {st : Stmt} {p pos : Pos} {e : Expr} {es : List Expr} {t : TA} (D : DefOk X.K X.mg x st ps f fd) (F : FnOk X.prog X.w X.K X.mg X.base (CX1 P w) k f fd ps sp) (hr : Room k X.A)
    (hx : Passes (CX1 P w) X E) (ha : PA X (e :: es) t) (hg : Gl X x := by rfl) (hdb : (x == ("__debug__" : Str)) = false := by decide) (he : starEach (e :: es) X.env = (false, eval e X.env) :: starEach es X.env := by rfl) (hpl : (backTo pos (starEach es X.env)).any (·.1) = false := by rfl) :
    PE X (.Call (.Name x p) (e :: es) [] pos) (tCall sp [] E t) := pe_call F hr hg D.g D.fn.kp D.b .nil hx ha hdb he hpl
end
end L2

set_option Elab.async false
set_option linter.all false
set_option maxRecDepth 100000
/-! ### the refusals of a text, as one set -/
namespace L2
open PySem PySem.Spec PyProof.Rows PySem.W
/-- what is asked of the class at C, one of cs, all of them under S -/
abbrev xRow (K : Frag) (S : Addr) (cs : List Addr) (C : Addr) :=
  ((excIn K C veB "ValueError.__new__", findIn K (.ref C) "__getattribute__", findIn K (.ref C) "__getattr__", findIn K (.ref C) "__class__"),
   ((clsIn K C).isSome, specialIn K (.builtin "object.__class__") "__get__", takesIn K (.builtin "object.__class__"), mroIn K C (.type "object")),
   (mroIn K C (.type "BaseException"), exmOne K (.ref C) (.ref S), kitOne K (.ref C) (.type "ValueError"), cs.map fun D => kitOne K (.ref C) (.ref D)))
abbrev xRow0 (cs : List Addr) (C : Addr) : (Bool × Option (Option Value) × Option (Option Value) × Option (Option Value)) × (Bool × Option (Option Value) × Option Bool × Option Bool) × (Option Bool × Option Bool × Option Bool × List (Option Bool)) :=
  ((true, some (some (.builtin "BaseException.__getattribute__")), some none, some (some (.builtin "object.__class__"))),
   (true, some (some (.builtin "getset_descriptor.__get__")), some true, some true),
   (some true, some true, some true, cs.map fun D => some (decide ((C : Nat) = D))))
structure XSet (K : Frag) (S : Addr) (cs : List Addr) : Prop where
  rows : cs.map (xRow K S cs) = cs.map (xRow0 cs)
  nd : decide (@List.Nodup Nat cs) = true
section
variable {K : Frag} {S : Addr} {cs : List Addr} {C D : Addr}
theorem XSet.row (T : XSet K S cs) (h : C ∈ cs) : xRow K S cs C = xRow0 cs C := (List.map_inj_left.mp T.rows) C h
theorem XSet.look (T : XSet K S cs) (h : C ∈ cs) : XLook K C := by
  have e := T.row h
  simp only [Prod.mk.injEq] at e
  exact ⟨e.1.2.1, e.1.2.2.1, e.1.2.2.2, e.2.1.1, e.2.1.2.1, e.2.1.2.2.1, e.2.1.2.2.2, e.2.2.1⟩
theorem XSet.exc (T : XSet K S cs) (h : C ∈ cs) : excIn K C veB "ValueError.__new__" = true := by
  have e := T.row h
  simp only [Prod.mk.injEq] at e
  exact e.1.1
theorem XSet.val (T : XSet K S cs) (h : C ∈ cs) : kitOne K (.ref C) (.type "ValueError") = some true := by
  have e := T.row h
  simp only [Prod.mk.injEq] at e
  exact e.2.2.2.2.1
theorem XSet.two (T : XSet K S cs) (h : C ∈ cs) (h' : D ∈ cs) : kitOne K (.ref C) (.ref D) = some (decide ((C : Nat) = D)) := by
  have e := T.row h
  simp only [Prod.mk.injEq] at e
  exact (List.map_inj_left.mp e.2.2.2.2.2) D h'
theorem XSet.ne (T : XSet K S cs) {i j : Nat} (h : cs[i]? = some C) (h' : cs[j]? = some D) (hij : i ≠ j) : ¬ (C : Nat) = D := fun e => by
  have nd := of_decide_eq_true T.nd
  obtain ⟨hi, e1⟩ := List.getElem?_eq_some_iff.mp h
  obtain ⟨hj, e2⟩ := List.getElem?_eq_some_iff.mp h'
  exact hij ((List.getElem_inj nd).mp (show @getElem (List Nat) Nat Nat _ _ cs i hi = cs[j] from e1.trans (e.trans e2.symm)))
theorem XSet.cls {mg : Str → Option Value} {x : Str} (T : XSet K S cs) (h : C ∈ cs) (g : mg x = some (.ref C)) : XCls K mg x C := ⟨g, T.exc h⟩
end
section
variable {X : Cx} {S : Addr} {cs : List Addr}
/-- isinstance(e, D), e one of the refusals, D one of these classes -/
def rIsX (cs : List Addr) : List V → Hp → VK → Prop := fun xs H Q => ∃ (a : Addr) (d : V), xs = [.ref a, d] ∧ ∃ C : Addr, H a = some (hoExc a C) ∧ C ∈ cs ∧ ∃ D : Addr, d = .ref D ∧ D ∈ cs ∧ Q (.bl (decide ((C : Nat) = D))) H
def rIsV (cs : List Addr) : List V → Hp → VK → Prop := fun xs H Q => ∃ (a : Addr) (d : V), xs = [.ref a, d] ∧ d = .ty "ValueError" ∧ ∃ C : Addr, H a = some (hoExc a C) ∧ C ∈ cs ∧ Q (.bl true) H
end
/-! ### expressions of a try's body -/
section
variable {X : Cx} {CX : CXT} {e : Expr} {es : List Expr} {t : TE}
/-- an argument list -/
def XA (CX : CXT) (X : Cx) (es : List Expr) (ta : XK → TA) : Prop := ∀ (xe : Value → Shared → Prop) (pins : List (Addr × Obj)) (σ : St) (E : XK), PassesAt CX (X.wish xe) pins σ E →
  ∀ (pos : Pos) (s : Shared) (H : Hp) (Q : List V → Hp → Prop), Inv (X.wish xe) pins σ H s → ta E σ H Q → wpAny (model X.prog X.w) X.A (spliced (backTo pos (starEach es X.env))) (AP (X.wish xe) pins σ Q) xe s
end
/-! ### methods of the text -/
/-- a method m of the class at C, with its def and its binding; dvs, ds: the defaults that fill up -/
structure MethOk (K : PySem.W.Frag) (C : Addr) (m qual : Str) (st : Stmt) (ps : List Str) (f : Addr) (fd : FuncData) : Prop where
  at_ : Meth K C m f
  fn : Fun K m qual st f fd
  b : Binds K fd ps []
section
variable {X : Cx} {P : Program} {w : World} {k : Nat} {f C : Addr} {fd : FuncData} {ps : List Str} {sp : Sp} {E : XK} {m qual : Str} {st : Stmt} {apos pos : Pos} {e o : Expr} {es : List Expr} {ta : TE} {t : TA}
end
end L2

set_option Elab.async false
set_option linter.all false
set_option maxRecDepth 100000
namespace L2
open PySem PySem.Spec PyProof.Rows
end L2

set_option Elab.async false
set_option linter.all false
set_option maxRecDepth 100000
namespace L2
open PySem PySem.Spec PyProof.Rows
theorem atI_in {α : Type} {xs : List α} {i : Int} (h0 : 0 ≤ i) (h1 : i < xs.length) : ∃ v, atI xs i = some v ∧ xs[i.toNat]? = some v := by
  obtain ⟨j, rfl⟩ := Int.eq_ofNat_of_zero_le h0
  have hj : j < xs.length := by omega
  exact ⟨xs[j], atI_nat (by simp [hj]), by simp [hj]⟩
/-- an item of a list just written -/
theorem rd_pick {K : PySem.W.Frag} {H : Hp} {p : Addr} {xs : List V} {i : Int} {Q : VK} (h0 : 0 ≤ i) (h1 : i < xs.length) (k : ∀ v ∈ xs, Q v (upd H p (.lst xs))) : rIxL K (.ref p) (.int i) (upd H p (.lst xs)) Q := by
  obtain ⟨v, e, e2⟩ := atI_in h0 h1
  exact ⟨p, xs, i, v, rfl, rfl, SqL.of upd_same, e, k v (List.mem_of_getElem? e2)⟩
/-- a sign of a text -/
theorem rd_sign {H : Hp} {l : List Nat} {i : Int} {Q : VK} (hz : l.length ≤ sizeLine) (h0 : 0 ≤ i) (h1 : i < l.length) (k : ∀ c, l[i.toNat]? = some c → Q (.str (tx [c])) H) : rIxS (.str (tx l)) (.int i) H Q := by
  obtain ⟨v, e, e2⟩ := atI_in h0 h1
  exact ⟨_, i, v, rfl, rfl, by rw [tx_len]; exact hz, by rw [tx_list]; exact e, k v e2⟩
theorem sz_of {n : Nat} (h : n ≤ 100000) : n ≤ sizeLine := Nat.le_trans h (by rw [sizeLine_eq]; decide)
/-! ### the value of a text's figures, sign by sign -/
abbrev dgs : V := .str (tx [48, 49, 50, 51, 52, 53, 54, 55, 56, 57])
/-- what number_read tells, or none -/
def dueV (l : List Nat) : V := match readC l with | some n => .int n | none => .non
end L2

set_option Elab.async false
set_option linter.all false
set_option maxRecDepth 100000
/-! ### more of texts and lists -/
namespace L2
open PySem PySem.Spec PyProof.Rows PySem.P
/-! a sign some times over -/
theorem mul_one (c : Nat) {n : Int} (h : 0 ≤ n) : Txt.mul (tx [c]) n = tx (List.replicate n.toNat c) := by
  obtain ⟨k, rfl⟩ := Int.eq_ofNat_of_zero_le h
  have fo : ∀ (k : Nat) (acc : List Nat), (List.replicate k (tx [c]).cps).foldl (· ++ ·) acc.toArray = (acc ++ List.replicate k c).toArray := by
    intro k
    induction k with
    | zero => intro acc; simp
    | succ k ih =>
      intro acc
      rw [List.replicate_succ, List.foldl_cons]
      have e : acc.toArray ++ (tx [c]).cps = (acc ++ [c]).toArray := by simp [tx]
      rw [e, ih, List.append_assoc]
      rfl
  unfold Txt.mul
  by_cases h1 : ((k : Nat) : Int) < 1
  · rw [if_pos h1]
    have : k = 0 := by omega
    subst this
    rfl
  · rw [if_neg h1]
    by_cases h2 : k = 1
    · subst h2
      rfl
    · have e : ((((k : Nat) : Int) == 1) || (tx [c]).length == 0) = false := by
        have a : (((k : Nat) : Int) == 1) = false := by
          rw [beq_eq_false_iff_ne]
          omega
        rw [a]
        rfl
      first
        | rw [e, if_neg (by simp)]
        | skip
      have f := fo k []
      simp only [List.nil_append] at f
      simp [f]
      try omega
section
variable {X : Cx}
def rMulS : R2 := fun x y H Q => ∃ (c : Nat) (n : Int), x = .str (tx [c]) ∧ y = .int n ∧ 0 ≤ n ∧ n ≤ 1000 ∧ Q (.str (tx (List.replicate n.toNat c))) H
/-! ### count, index, remove -/
def rCount : V → List V → Hp → VK → Prop := fun x vs H Q => ∃ l xs y, x = .ref l ∧ vs = [y] ∧ H l = some (.lst xs) ∧ flatV y = true ∧ xs.all flatV = true ∧ Q (.int ((xs.countP fun z => eqV z y : Nat) : Int)) H
theorem get_eqU {x : V} : ∀ {xs : List V} {us : List Value} {m : Nat} (hm : m < us.length), Vals xs us → xs.all flatV = true → ∃ y, xs[m]? = some y ∧ eqU x us[m] = eqV y x
  | [], [], _, hm, _, _ => absurd hm (Nat.not_lt_zero _)
  | y :: xs, u :: us, 0, hm, .cons r t, f => by
    rw [List.all_cons, Bool.and_eq_true] at f
    exact ⟨y, rfl, eqU_of r f.1⟩
  | y :: xs, u :: us, m + 1, hm, .cons r t, f => by
    rw [List.all_cons, Bool.and_eq_true] at f
    exact get_eqU (xs := xs) (us := us) (m := m) (Nat.lt_of_succ_lt_succ hm) t f.2
def rIndex : V → List V → Hp → VK → Prop := fun x vs H Q => ∃ (l : Addr) (xs : List V) (y : V) (j : Nat) (z : V), x = .ref l ∧ vs = [y] ∧ H l = some (.lst xs) ∧ flatV y = true ∧ xs.all flatV = true ∧ xs[j]? = some z ∧ eqV z y = true ∧ (∀ (m : Nat) (z' : V), m < j → xs[m]? = some z' → eqV z' y = false) ∧ Q (.int (j : Int)) H
theorem mt_index : MtM X "list.index" rIndex := by
  intro pins s σ H x vs v us Q I rx rv h
  obtain ⟨l, xs, y, j, z', rfl, rfl, hH, fy, fx, hj, hit, hno, q⟩ := h
  cases rx
  obtain ⟨u, rfl, ru⟩ := rv.one
  obtain ⟨z, its, n, r, hl, e⟩ := I.lstM hH
  have hjl : j < its.length := by rw [← hl]; exact (List.getElem?_eq_some_iff.mp hj).1
  have big : (sizeLine : Int) < 2 ^ 63 - 1 := by rw [sizeLine_eq]; decide
  refine call_meets F.slot_list_index ⟨_, e, rfl⟩ F.entry_list_index (F.args_list_index_2 _ _) (SeqAt.list_indexAt l its.toArray n none #[] u (eqU y) j (by simpa using hjl) (by omega) ?_ ?_) ⟨e, fun w hw => mem_eqAt ru fy r fx w (by simpa using hw), ?_⟩
  · obtain ⟨y', e1, e2⟩ := get_eqU (x := y) hjl r fx
    rw [hj] at e1
    cases e1
    simpa using e2.trans hit
  · intro m hm hmj
    have hm' : m < its.length := by simpa using hm
    obtain ⟨y', e1, e2⟩ := get_eqU (x := y) hm' r fx
    simpa using e2.trans (hno m y' hmj e1)
  · exact ⟨.int _, H, I.tok _, ⟨_, rfl⟩, q⟩
/-- a list of texts, one of them goes -/
def rRemove : V → List V → Hp → VK → Prop := fun x vs H Q => ∃ (l : Addr) (ns : List (List Nat)) (a : List Nat), x = .ref l ∧ vs = [.str (tx a)] ∧ H l = some (.lst (ns.map fun z => .str (tx z))) ∧ a ∈ ns ∧ Q .non (upd H l (.lst ((ns.erase a).map fun z => .str (tx z))))
end
end L2

set_option Elab.async false
set_option linter.all false
set_option maxRecDepth 100000
/-! ### dicts that are walked; lists of a dict's keys -/
namespace L2
open PySem PySem.Spec PyProof.Rows PySem.P
/-- no frozen thing at a, at the entry -/
def NF (X : Cx) (a : Addr) : Prop := ∀ o u, X.H₀ a ≠ some (.frz o u)
section
variable {X : Cx} {pins : List (Addr × Obj)} {σ : St} {H : Hp} {s : Shared} {a : Addr} {o o' : HO}
theorem Inv.retag (I : Inv X pins σ H s) (e : H a = some o) (h1 : ∀ xs, o ≠ .tup xs) (h2 : ∀ y, o ≠ .own y) (h3 : ∀ ps, o ≠ .tbl ps) (h4 : NF X a) (new : ObjOk X.prog X.w (upd H a o') s.heap a o') : Inv X pins σ (upd H a o') s := by
  have nn : ∀ b, H b = none → b ≠ a := fun b z w => by rw [w, e] at z; cases z
  have un : ∀ b, H b = none → upd H a o' b = none := fun b z => by rw [upd_ne (nn b z)]; exact z
  refine ⟨I.ok, I.os, I.bare, ⟨I.base.keep, I.base.slot, fun b ob q n hx => un b (I.base.free b ob q n hx), I.base.there, fun b xs q => ?_, fun b ob u q => ?_, fun b ps q => ?_⟩, I.loc, I.cell, un _ I.free, fun x c q => un _ (I.freeC x c q), fun p hp => ?_, fun b u q => ?_, I.len⟩
  · have z := I.base.tups b xs q
    rw [upd_ne (fun w => by rw [w, e] at z; exact h1 xs (Option.some.inj z))]
    exact z
  · have hb : b ≠ a := fun w => h4 ob u (by rw [← w]; exact q)
    rw [upd_ne hb]
    exact I.base.frzs b ob u q
  · obtain ⟨more, z⟩ := I.base.tbls b ps q
    exact ⟨more, by rw [upd_ne (fun w => by rw [w, e] at z; exact h3 _ (Option.some.inj z))]; exact z⟩
  · obtain ⟨p1, p2, p3⟩ := I.pin p hp
    exact ⟨p1, un _ p2, p3⟩
  · by_cases hb : b = a
    · subst hb
      rw [upd_same] at q
      cases q
      exact new
    · rw [upd_ne hb] at q
      refine (I.hok b u q).stay (fun _ _ _ z => z) (fun c z => ?_) fun c xs z => ?_
      · rw [upd_ne (fun w => by rw [w, e] at z; exact h2 b (Option.some.inj z))]
        exact z
      · rw [upd_ne (fun w => by rw [w, e] at z; exact h1 xs (Option.some.inj z))]
        exact z
theorem objok_dK {P : Program} {w : World} {H H' : Hp} {h : Heap} {kvs : List (Key × V)} (x : ObjOk P w H h a (.dK kvs)) : ObjOk P w H' h a (.dK kvs) := x
theorem Inv.thaw {ob : Obj} {kvs : List (Key × V)} (I : Inv X pins σ H s) (e : H a = some (.frz ob (.dK kvs))) (nf : NF X a) : Inv X pins σ (upd H a (.dK kvs)) s :=
  I.retag e (fun _ z => nomatch z) (fun _ z => nomatch z) (fun _ z => nomatch z) nf (objok_dK (I.hok a _ e).2)
/-- behind a walk the dict may be written again -/
def Thaw (X : Cx) (P : Hp → Prop) (H : Hp) : Prop := ∃ a ob kvs, NF X a ∧ H a = some (.frz ob (.dK kvs)) ∧ P (upd H a (.dK kvs))
end
/-- the keys of the dict at d, known to the object ob -/
def Itd (d : Addr) (ob : Obj) (kvs : List (Key × V)) : It :=
  ⟨fun i H => i < kvs.length ∧ H d = some (.frz ob (.dK kvs)), fun i H x H' => H' = H ∧ (kvs.map fun kv => kV kv.1)[i]? = some x, fun i H => i = kvs.length ∧ H d = some (.frz ob (.dK kvs))⟩
section
variable {X : Cx} {y : Str} {py : Pos}
def iDict (X : Cx) (te : TE) : TI := fun σ H R => te σ H fun x H1 => ∃ a kvs, x = .ref a ∧ H1 a = some (.dK kvs) ∧ ∀ ob, NF X a → R (Itd a ob kvs) (upd H1 a (.frz ob (.dK kvs)))
/-- for x in d -/
def Dthaw (X : Cx) (D : Ends) : Ends := ⟨fun σ H => Thaw X (D.nx σ) H, fun v H => Thaw X (D.rt v) H, fun σ H => Thaw X (D.bk σ) H, fun σ H => Thaw X (D.ct σ) H⟩
def tForD (X : Cx) (te : TE) (g : TG) (tb : TS) : TS := fun D σ H => tFor (iDict X te) g tb (Dthaw X D) σ H
theorem SP.thaw {pins : List (Addr × Obj)} {D : Ends} {f : Flow} {s : Shared} (h : SP X pins (Dthaw X D) f s) : SP X pins D f s := by
  cases f with
  | next => obtain ⟨σ, H, I, a, ob, kvs, nf, e, q⟩ := h; exact ⟨σ, _, I.thaw e nf, q⟩
  | brk => obtain ⟨σ, H, I, a, ob, kvs, nf, e, q⟩ := h; exact ⟨σ, _, I.thaw e nf, q⟩
  | cont => obtain ⟨σ, H, I, a, ob, kvs, nf, e, q⟩ := h; exact ⟨σ, _, I.thaw e nf, q⟩
  | ret u => obtain ⟨v, σ, H, I, r, a, ob, kvs, nf, e, q⟩ := h; exact ⟨v, σ, _, I.thaw e nf, r, q⟩
def tCompD (X : Cx) (te : TE) (fr : List Nat) (tt : TT) (tel : TE) : TE := fun σ H Q => tComp (iDict X te) fr tt tel σ H fun v H2 => Thaw X (Q v) H2
section
variable {elt iter : Expr} {ifs : List Expr} {scope : Scope} {pos : Pos} {N : List Str} {fr : List Nat} {tt : TT} {te tel : TE}
end
end
end L2

set_option Elab.async false
set_option linter.all false
set_option maxRecDepth 100000
/-! ### == of two like data; frames of heaps -/
namespace L2
open PySem PySem.Spec PyProof.Rows PySem.P
mutual
inductive DatV (K : PySem.W.Frag) (H : Hp) : V → PyData → Prop
  | non : DatV K H .non .none
  | bl (b : Bool) : DatV K H (.bl b) (.bool b)
  | int (i : Int) : DatV K H (.int i) (.int i)
  | str (x : Str) : DatV K H (.str x) (.str x)
  | lst {a : Addr} {xs : List V} {ds : List PyData} : SqL K H a xs → DatVs K H xs ds → DatV K H (.ref a) (.list ds)
  | tup {a : Addr} {xs : List V} {ds : List PyData} : SqT K H a xs → DatVs K H xs ds → DatV K H (.ref a) (.tuple ds)
inductive DatVs (K : PySem.W.Frag) (H : Hp) : List V → List PyData → Prop
  | nil : DatVs K H [] []
  | cons {x : V} {xs : List V} {d : PyData} {ds : List PyData} : DatV K H x d → DatVs K H xs ds → DatVs K H (x :: xs) (d :: ds)
end
section
variable {X : Cx} {pins : List (Addr × Obj)} {σ : St} {H : Hp} {s : Shared}
mutual
theorem DatV.reads (I : Inv X pins σ H s) : ∀ {v : V} {d : PyData} {u : Value}, DatV X.K H v d → RelV v u → ∃ as, Reads s.heap u d as
  | _, _, _, .non, r => by cases r; exact ⟨_, .none⟩
  | _, _, _, .bl b, r => by cases r; exact ⟨_, .bool b⟩
  | _, _, _, .int i, r => by obtain ⟨t, rfl⟩ := r; exact ⟨_, .int i t⟩
  | _, _, _, .str x, r => by obtain ⟨t, rfl⟩ := r; exact ⟨_, .str x t⟩
  | _, _, _, .lst hq hs, r => by
    cases r
    obtain ⟨its, rv, pl, _⟩ := I.list hq
    obtain ⟨as, ra⟩ := DatVs.reads I hs rv
    obtain ⟨o, ho, hc, n, hd⟩ := pl.isList
    exact ⟨_, .list ho hc hd (by simpa using ra)⟩
  | _, _, _, .tup hq hs, r => by
    cases r
    obtain ⟨its, rv, pl, _⟩ := I.tuple hq
    obtain ⟨as, ra⟩ := DatVs.reads I hs rv
    obtain ⟨o, ho, hc, n, hd⟩ := pl
    exact ⟨_, .tuple ho hc hd (by simpa using ra)⟩
theorem DatVs.reads (I : Inv X pins σ H s) : ∀ {vs : List V} {ds : List PyData} {us : List Value}, DatVs X.K H vs ds → Vals vs us → ∃ as, ReadsAll s.heap us ds as
  | _, _, _, .nil, r => by cases r; exact ⟨_, .nil⟩
  | _, _, _, .cons h hs, r => by
    cases r with
    | cons r1 r2 =>
      obtain ⟨as, a1⟩ := DatV.reads I h r1
      obtain ⟨bs, b1⟩ := DatVs.reads I hs r2
      exact ⟨_, .cons a1 b1⟩
end
end
mutual
theorem eqv_refl : ∀ d : PyData, d.canLay0 = true → PyData.eqv d d = true
  | .none, _ => by simp [PyData.eqv]
  | .bool b, _ => by simp [PyData.eqv]
  | .int i, _ => by simp [PyData.eqv]
  | .str x, _ => by simp [PyData.eqv]
  | .list xs, h => by
    rw [PyData.eqv]
    exact eqvAll_refl xs (by simpa [PyData.canLay0] using h)
  | .tuple xs, h => by
    rw [PyData.eqv]
    exact eqvAll_refl xs (by simpa [PyData.canLay0] using h)
  | .dict _, h => by simp [PyData.canLay0] at h
theorem eqvAll_refl : ∀ ds : List PyData, PyData.canLayAll0 ds = true → PyData.eqvAll ds ds = true
  | [], _ => by simp [PyData.eqvAll]
  | d :: ds, h => by
    rw [PyData.canLayAll0, Bool.and_eq_true] at h
    rw [PyData.eqvAll, eqv_refl d h.1, eqvAll_refl ds h.2]
    rfl
end
/-- two like data -/
def rEqD (K : PySem.W.Frag) : R2 := fun x y H Q => ∃ d, DatV K H x d ∧ DatV K H y d ∧ SeqAt.shaped d = true ∧ Q (.bl true) H
def rNeD (K : PySem.W.Frag) : R2 := fun x y H Q => ∃ d, DatV K H x d ∧ DatV K H y d ∧ SeqAt.shaped d = true ∧ Q (.bl false) H
section
variable {X : Cx}
end
/-- signs of the common kind -/
def okT (l : List Nat) : Prop := ∀ c ∈ l, c < 1114112
/-! ### what a piece of code may have changed: the things at F; F': what is its own behind it -/
structure Step (H : Hp) (F : List Addr) (H' : Hp) (F' : List Addr) : Prop where
  off : ∀ b o, b ∉ F → H b = some o → H' b = some o
  own : ∀ b ∈ F', b ∈ F ∨ H b = none
  tup : ∀ b xs, H b = some (.tup xs) → H' b = some (.tup xs)
theorem Step.refl (H : Hp) (F : List Addr) : Step H F H F := ⟨fun _ _ _ e => e, fun _ h => .inl h, fun _ _ e => e⟩
theorem Step.same {H H' : Hp} {F : List Addr} (s : Same H H') : Step H F H' F := ⟨fun b o _ e => s b o e, fun _ h => .inl h, fun b xs e => s _ _ e⟩
theorem Step.trans {H H1 H2 : Hp} {F F1 F2 : List Addr} (a : Step H F H1 F1) (b : Step H1 F1 H2 F2) : Step H F H2 F2 := by
  refine ⟨fun c o hc e => b.off c o (fun h1 => ?_) (a.off c o hc e), fun c hc => ?_, fun c xs e => b.tup c xs (a.tup c xs e)⟩
  · rcases a.own c h1 with z | z
    · exact hc z
    · rw [e] at z
      cases z
  · rcases b.own c hc with h1 | h1
    · exact a.own c h1
    · by_cases hF : c ∈ F
      · exact .inl hF
      · refine .inr ?_
        cases q : H c with
        | none => rfl
        | some o =>
          rw [a.off c o hF q] at h1
          cases h1
/-- what stands elsewhere stays elsewhere -/
theorem Step.apart {H H' : Hp} {F F' : List Addr} (a : Step H F H' F') {b : Addr} {o : HO} (hb : b ∉ F) (e : H b = some o) : b ∉ F' := fun h => by
  rcases a.own b h with z | z
  · exact hb z
  · rw [e] at z
    cases z
end L2

set_option Elab.async false
set_option linter.all false
set_option maxRecDepth 100000
/-! ### the web: a mirror of its own, and how it lies on the heap -/
namespace L2
open PySem
abbrev Nm := List Nat
def abc : List Nat := [97, 98, 99, 100, 101, 102, 103, 104, 105, 106, 107, 108, 109, 110, 111, 112, 113, 114, 115, 116, 117, 118, 119, 120, 121, 122]
theorem mem_abc {c : Nat} : c ∈ abc ↔ 97 ≤ c ∧ c ≤ 122 := by
  unfold abc
  simp only [List.mem_cons, List.not_mem_nil, or_false]
  omega
def goodC (l : Nm) : Bool := decide (1 ≤ l.length ∧ l.length ≤ 12) && l.all fun c => decide (c ∈ abc)
/-- the refusals of the web, in the order of the classes -/
inductive Rf where
  | noName | noNumber | noThing | noKey | noTie | twice | stillTied | full
  deriving DecidableEq
def Rf.ix : Rf → Nat
  | .noName => 0 | .noNumber => 1 | .noThing => 2 | .noKey => 3 | .noTie => 4 | .twice => 5 | .stillTied => 6 | .full => 7
structure Tie where
  start : Nm
  name : Nm
  stop : Nm
  weight : Int
  deriving DecidableEq
/-- what a web tells -/
structure WA where
  things : List (Nm × List (Nm × Int))
  ties : List (Int × Tie)
  next : Int
def WA.names (A : WA) : List Nm := A.things.map (·.1)
def WA.addThing (A : WA) (l : Nm) : Except Rf WA :=
  if goodC l = false then .error .noName else if l ∈ A.names then .error .twice else if 100 ≤ A.things.length then .error .full else .ok { A with things := A.things ++ [(l, [])] }
def WA.at_ (A : WA) (f : Tie → Nm) (l : Nm) : List Int := (A.ties.filter fun x => decide (f x.2 = l)).map (·.1)
def WA.dropThing (A : WA) (l : Nm) : Except Rf WA :=
  if l ∉ A.names then .error .noThing else if A.at_ Tie.start l ≠ [] ∨ A.at_ Tie.stop l ≠ [] then .error .stillTied else .ok { A with things := A.things.filter fun x => decide (x.1 ≠ l) }
/-- the same with the places of its parts -/
structure WS where
  dx : Addr
  dv : Addr
  dt : Addr
  vals : List (Nm × Addr × List (Nm × Int))
  ties : List (Int × Addr × Tie)
  next : Int
def WS.abs (W : WS) : WA := ⟨W.vals.map fun x => (x.1, x.2.2), W.ties.map fun x => (x.1, x.2.2), W.next⟩
def WS.own (W : WS) (p : Addr) : List Addr := p :: W.dv :: W.dt :: W.vals.map (·.2.1)
def kvVals (vals : List (Nm × Addr × List (Nm × Int))) : List (Key × V) := vals.map fun x => (.inr (tx x.1), .ref x.2.1)
def kvTies (ties : List (Int × Addr × Tie)) : List (Key × V) := ties.map fun x => (.inl x.1, .ref x.2.1)
def kvNums (m : List (Nm × Int)) : List (Key × V) := m.map fun y => (.inr (tx y.1), .int y.2)
def tieV (t : Tie) : List V := [.str (tx t.start), .str (tx t.name), .str (tx t.stop), .int t.weight]
structure WebAt (C : Addr) (H : Hp) (p : Addr) (W : WS) : Prop where
  obj : H p = some (.ins C W.dx [("kept_values", .ref W.dv), ("kept_ties", .ref W.dt), ("coming_number", .int W.next)])
  val : H W.dv = some (.dK (kvVals W.vals))
  tie : H W.dt = some (.dK (kvTies W.ties))
  each : ∀ x ∈ W.vals, H x.2.1 = some (.dK (kvNums x.2.2))
  tups : ∀ x ∈ W.ties, H x.2.1 = some (.tup (tieV x.2.2))
  nd : (W.dv :: W.dt :: W.vals.map (·.2.1)).Nodup
  names : (W.vals.map (·.1)).Nodup
  nums : (W.ties.map (·.1)).Nodup
  few : W.vals.length ≤ 100
  fewT : W.ties.length ≤ 400
/-! #### tables -/
theorem find_none {α β : Type} [DecidableEq β] {f : α → β} {b : β} {l : List α} : l.find? (fun x => decide (f x = b)) = none ↔ b ∉ l.map f := by
  rw [List.find?_eq_none]
  constructor
  · intro h m
    obtain ⟨x, hx, e⟩ := List.mem_map.mp m
    exact h x hx (decide_eq_true e)
  · intro h x hx e
    exact h (List.mem_map.mpr ⟨x, hx, of_decide_eq_true e⟩)
theorem find_some {α β : Type} [DecidableEq β] {f : α → β} {b : β} {l : List α} (h : b ∈ l.map f) : ∃ x, l.find? (fun x => decide (f x = b)) = some x ∧ x ∈ l ∧ f x = b := by
  cases q : l.find? (fun x => decide (f x = b)) with
  | none => exact absurd h (find_none.mp q)
  | some x => exact ⟨x, rfl, List.mem_of_find?_eq_some q, by have z := List.find?_some q; simpa using z⟩
theorem dropK_vals (l : Nm) (vals : List (Nm × Addr × List (Nm × Int))) : dropK (kvVals vals) (.inr (tx l)) = kvVals (vals.filter fun x => decide (x.1 ≠ l)) := by
  unfold dropK kvVals
  rw [List.filter_map]
  congr 1
  apply List.filter_congr
  intro x _
  simp only [Function.comp]
  rw [decide_eq_decide]
  exact not_congr ⟨fun z => tx_inj.mp (Sum.inr.inj z), fun z => by rw [z]⟩
theorem dropK_ties (n : Int) (ties : List (Int × Addr × Tie)) : dropK (kvTies ties) (.inl n) = kvTies (ties.filter fun x => decide (x.1 ≠ n)) := by
  unfold dropK kvTies
  rw [List.filter_map]
  congr 1
  apply List.filter_congr
  intro x _
  simp only [Function.comp]
  rw [decide_eq_decide]
  exact not_congr ⟨fun z => Sum.inl.inj z, fun z => by rw [z]⟩
/-! #### the web, as far as it stays -/
theorem WebAt.dvdt {C : Addr} {H : Hp} {p : Addr} {W : WS} (w : WebAt C H p W) : W.dv ≠ W.dt := fun z => by
  have := (List.nodup_cons.mp w.nd).1
  exact this (by rw [z]; exact List.mem_cons_self)
theorem WebAt.pdv {C : Addr} {H : Hp} {p : Addr} {W : WS} (w : WebAt C H p W) : W.dv ≠ p := ne_of w.val w.obj (by intro z; cases z)
theorem WebAt.pdt {C : Addr} {H : Hp} {p : Addr} {W : WS} (w : WebAt C H p W) : W.dt ≠ p := ne_of w.tie w.obj (by intro z; cases z)
theorem WebAt.dvx {C : Addr} {H : Hp} {p : Addr} {W : WS} (w : WebAt C H p W) {x : Nm × Addr × List (Nm × Int)} (h : x ∈ W.vals) : x.2.1 ≠ W.dv := fun z => by
  have := (List.nodup_cons.mp w.nd).1
  exact this (List.mem_cons_of_mem _ (by rw [← z]; exact List.mem_map.mpr ⟨x, h, rfl⟩))
theorem WebAt.dtx {C : Addr} {H : Hp} {p : Addr} {W : WS} (w : WebAt C H p W) {x : Nm × Addr × List (Nm × Int)} (h : x ∈ W.vals) : x.2.1 ≠ W.dt := fun z => by
  have := (List.nodup_cons.mp (List.nodup_cons.mp w.nd).2).1
  exact this (by rw [← z]; exact List.mem_map.mpr ⟨x, h, rfl⟩)
/-- all that it owns, and the ties' tuples, are as they were -/
theorem WebAt.keep {C : Addr} {H H' : Hp} {p : Addr} {W : WS} (w : WebAt C H p W) (h : ∀ b o, b ∈ W.own p → H b = some o → H' b = some o) (ht : ∀ b xs, H b = some (.tup xs) → H' b = some (.tup xs)) : WebAt C H' p W := by
  refine ⟨h _ _ (by simp [WS.own]) w.obj, h _ _ (by simp [WS.own]) w.val, h _ _ (by simp [WS.own]) w.tie, fun x hx => h _ _ ?_ (w.each x hx), fun x hx => ht _ _ (w.tups x hx), w.nd, w.names, w.nums, w.few, w.fewT⟩
  simp only [WS.own, List.mem_cons, List.mem_map]
  exact .inr (.inr (.inr ⟨x, hx, rfl⟩))
theorem WebAt.same {C : Addr} {H H' : Hp} {p : Addr} {W : WS} (w : WebAt C H p W) (s : Same H H') : WebAt C H' p W := w.keep (fun b o _ e => s b o e) fun b xs e => s b _ e
theorem WebAt.own_some {C : Addr} {H : Hp} {p : Addr} {W : WS} (w : WebAt C H p W) {b : Addr} (h : b ∈ W.own p) : ∃ o, H b = some o ∧ ∀ xs, o ≠ .tup xs := by
  simp only [WS.own, List.mem_cons, List.mem_map] at h
  rcases h with rfl | rfl | rfl | ⟨x, hx, rfl⟩
  · exact ⟨_, w.obj, fun _ z => nomatch z⟩
  · exact ⟨_, w.val, fun _ z => nomatch z⟩
  · exact ⟨_, w.tie, fun _ z => nomatch z⟩
  · exact ⟨_, w.each x hx, fun _ z => nomatch z⟩
/-- another step leaves it -/
theorem WebAt.step {C : Addr} {H H' : Hp} {p : Addr} {W : WS} {F F' : List Addr} (w : WebAt C H p W) (s : Step H F H' F') (d : ∀ b ∈ W.own p, b ∉ F) : WebAt C H' p W ∧ ∀ b ∈ W.own p, b ∉ F' :=
  ⟨w.keep (fun b o hb e => s.off b o (d b hb) e) s.tup, fun b hb => let ⟨_, e, _⟩ := w.own_some hb; s.apart (d b hb) e⟩
/-- a thing goes -/
theorem WebAt.dropped {C : Addr} {H : Hp} {p : Addr} {W : WS} {l : Nm} (w : WebAt C H p W) :
    WebAt C (upd H W.dv (.dK (dropK (kvVals W.vals) (.inr (tx l))))) p { W with vals := W.vals.filter fun x => decide (x.1 ≠ l) } ∧
    Step H (W.own p) (upd H W.dv (.dK (dropK (kvVals W.vals) (.inr (tx l))))) (WS.own { W with vals := W.vals.filter fun x => decide (x.1 ≠ l) } p) := by
  rw [dropK_vals]
  have oth : ∀ b o, b ≠ W.dv → H b = some o → upd H W.dv (.dK (kvVals (W.vals.filter fun x => decide (x.1 ≠ l)))) b = some o := fun b o hb e => by
    rw [upd_ne hb]
    exact e
  have sub : ∀ x ∈ W.vals.filter (fun x => decide (x.1 ≠ l)), x ∈ W.vals := fun x hx => (List.mem_filter.mp hx).1
  refine ⟨⟨oth _ _ w.pdv.symm w.obj, upd_same, oth _ _ w.dvdt.symm w.tie, fun x hx => oth _ _ (w.dvx (sub x hx)) (w.each x (sub x hx)), fun x hx => oth _ _ (ne_of (w.tups x hx) w.val (by intro z; cases z)) (w.tups x hx), ?_, ?_, w.nums, Nat.le_trans (List.length_filter_le _ _) w.few, w.fewT⟩,
    ⟨fun b o hb e => oth b o (fun z => hb (by simp [WS.own, z])) e, fun b hb => .inl ?_, fun b xs e => oth b _ (ne_of e w.val (by intro z; cases z)) e⟩⟩
  · exact List.Sublist.nodup (List.Sublist.cons_cons _ (List.Sublist.cons_cons _ (List.Sublist.map _ List.filter_sublist))) w.nd
  · exact List.Sublist.nodup (List.Sublist.map _ List.filter_sublist) w.names
  · simp only [WS.own, List.mem_cons, List.mem_map] at hb ⊢
    rcases hb with h | h | h | ⟨x, hx, h⟩
    · exact .inl h
    · exact .inr (.inl h)
    · exact .inr (.inr (.inl h))
    · exact .inr (.inr (.inr ⟨x, sub x hx, h⟩))
end L2

set_option Elab.async false
set_option linter.all false
set_option maxRecDepth 100000
/-! ### the same rules, what is looked at put off to the end -/
namespace L2
open PySem PySem.Spec PyProof.Rows
section
variable {X : Cx} {a b e o i : Expr} {ta tb td ty : TE} {pos : Pos} {f : Str} {r : R2}
theorem pe_ixA (hr : IxR X r) (ha : PE X a ta) (hb : PE X b tb) (hs : PlainIx b := by exact fun _ _ => rfl) : PE X (.Subscript a b pos) (tOp r ta tb) := pe_ix hr ha hb hs
end
end L2
/-! ### the same with the written part named: for what stands within a comprehension -/
namespace L2
open PySem PySem.Spec PyProof.Rows
section
variable {X : Cx} {e : Expr} {ta : TE} {pos : Pos} {f : Str}
end
end L2
namespace L2
open PySem PySem.Spec PyProof.Rows
/-- whether the tie of that number has l at f -/
def tieP (ties : List (Int × Addr × Tie)) (f : Tie → Nm) (l : Nm) : Key → Bool
  | .inl n => ((ties.find? fun x => decide (x.1 = n)).map fun x => decide (f x.2.2 = l)).getD false
  | .inr _ => false
end L2

set_option Elab.async false
set_option linter.all false
set_option maxRecDepth 100000
/-! ### names by number and way -/
namespace L2
open PySem
def letC (n : Int) : Nat := 97 + (n % 26).toNat
theorem let_at (n : Int) : abc[(n % 26).toNat]? = some (letC n) := by
  unfold letC
  have h1 : (n % 26).toNat < 26 := by omega
  generalize (n % 26).toNat = k at h1
  have all : ∀ k < 26, abc[k]? = some (97 + k) := by decide
  exact all k h1
def sizeC (w : Int) : Int := 2 + w / 52 % 11
def atC (w : Int) : Int := w / 572 % (sizeC w - 1)
def nameC (n w : Int) : Nm :=
  if w % 2 = 0 then letC (n / 12 + w / 52) :: List.replicate (n % 12).toNat (letC (w / 2))
  else List.replicate (atC w).toNat (letC (w / 2)) ++ [letC n] ++ [letC (n / 26)] ++ List.replicate (sizeC w - 2 - atC w).toNat (letC (w / 2))
/-! ### texts that are no good names -/
/-! ### the words for the refusals -/
def Rf.word : Rf → Nm
  | .noName => [78, 111, 78, 97, 109, 101]
  | .noNumber => [78, 111, 78, 117, 109, 98, 101, 114]
  | .noThing => [78, 111, 84, 104, 105, 110, 103]
  | .noKey => [78, 111, 75, 101, 121]
  | .noTie => [78, 111, 84, 105, 101]
  | .twice => [84, 119, 105, 99, 101]
  | .stillTied => [83, 116, 105, 108, 108, 84, 105, 101, 100]
  | .full => [70, 117, 108, 108]
def doneC : Nm := [100, 111, 110, 101]
/-! ### one's own things since a beginning -/
structure Mine (H0 H : Hp) (F : List Addr) : Prop where
  same : Same H0 H
  new : ∀ b ∈ F, H0 b = none
theorem Mine.step {H0 H H' : Hp} {F F1 F2 : List Addr} (m : Mine H0 H F) (s : Step H F1 H' F2) (h : ∀ b ∈ F1, b ∈ F) : Mine H0 H' (F2 ++ F) := by
  have back : ∀ b, H b = none → H0 b = none := fun b z => by
    cases q : H0 b with
    | none => rfl
    | some o =>
      rw [m.same b o q] at z
      cases z
  refine ⟨fun b o e => s.off b o (fun z => ?_) (m.same b o e), fun b hb => ?_⟩
  · have := m.new b (h b z)
    rw [e] at this
    cases this
  · rcases List.mem_append.mp hb with z | z
    · rcases s.own b z with y | y
      · exact m.new b (h b y)
      · exact back b y
    · exact m.new b z
theorem Mine.mono {H0 H : Hp} {F F' : List Addr} (m : Mine H0 H F) (h : ∀ b ∈ F', b ∈ F) : Mine H0 H F' := ⟨m.same, fun b hb => m.new b (h b hb)⟩
theorem Mine.more {H0 H H' : Hp} {F : List Addr} (m : Mine H0 H F) (s : Same H H') : Mine H0 H' F := ⟨m.same.trans s, m.new⟩
theorem Mine.upd {H0 H : Hp} {F : List Addr} {b : Addr} {o : HO} (m : Mine H0 H F) (h : b ∈ F) : Mine H0 (upd H b o) F := ⟨fun c u e => by
  rw [upd_ne (fun z => by rw [z, m.new b h] at e; cases e)]
  exact m.same c u e, m.new⟩
theorem Mine.fresh {H0 H : Hp} {F : List Addr} {b : Addr} (m : Mine H0 H F) (h : H b = none) : H0 b = none := m.same.free h
end L2

set_option Elab.async false
set_option linter.all false
set_option maxRecDepth 100000
/-! ### written lists of constants; statements one by one -/
namespace L2
open PySem PySem.Spec PyProof.Rows
def strConsts : List Expr → Option (List Str)
  | [] => some []
  | .Constant (.str x) _ _ :: r => (strConsts r).map (x :: ·)
  | _ => none
def tLstC (vs : List V) : TE := fun _ H Q => vs.length ≤ sizeLine ∧ ∀ p, H p = none → Q (.ref p) (upd H p (.lst vs))
theorem pa_strs {X : Cx} : ∀ {es : List Expr} {xs : List Str}, strConsts es = some xs → PA X es (fun _ H Q => Q (xs.map V.str) H)
  | [], xs, h => by
    cases h
    exact pa_nil
  | e :: r, xs, h => by
    cases e with
    | Constant c j pos =>
      cases c with
      | str x =>
        unfold strConsts at h
        cases q : strConsts r with
        | none => rw [q] at h; cases h
        | some ys =>
          rw [q] at h
          cases h
          exact pa_cons (X := X) pe_str (pa_strs q) rfl
      | _ => cases h
    | _ => cases h
theorem pe_lstS {X : Cx} {es : List Expr} {xs : List Str} {pos : Pos} (h : strConsts es = some xs := by rfl) : PE X (.List es pos) (tLstC (xs.map V.str)) := fun pins s σ H Q I hq => pe_lst (pa_strs h) pins s σ H Q I hq
/-- a statement, what comes behind it told by a letter -/
theorem seq_rule {t u : TS} {D : Ends} {σ : St} {H : Hp} (h : ∀ N : St → Hp → Prop, (∀ σ' H', u D σ' H' → N σ' H') → t { D with nx := N } σ H) : tSeq t u D σ H := h _ fun _ _ z => z
/-- x in a list of texts -/
theorem rd_inS {K : PySem.W.Frag} {H : Hp} {a : Addr} {ns : List Nm} {l : Nm} {neg : Bool} {Q : VK} (ha : SqL K H a (ns.map fun z => V.str (tx z))) (q : Q (.bl (if neg then !decide (l ∈ ns) else decide (l ∈ ns))) H) : rIn K neg (.str (tx l)) (.ref a) H Q := by
  refine ⟨a, _, rfl, .inl ha, rfl, ?_, ?_⟩
  · rw [List.all_eq_true]
    intro v hv
    obtain ⟨b, _, rfl⟩ := List.mem_map.mp hv
    rfl
  · have e : inV (.str (tx l)) (ns.map fun z => V.str (tx z)) = decide (l ∈ ns) := by
      unfold inV
      rw [Bool.eq_iff_iff, List.any_eq_true, decide_eq_true_eq]
      constructor
      · rintro ⟨v, hv, e⟩
        obtain ⟨b, hb, rfl⟩ := List.mem_map.mp hv
        have : tx b = tx l := by simpa [eqV] using e
        rw [← tx_inj.mp this]
        exact hb
      · intro h
        exact ⟨_, List.mem_map.mpr ⟨l, h, rfl⟩, by simp [eqV]⟩
    rw [e]
    exact q
end L2

set_option Elab.async false
set_option linter.all false
set_option maxRecDepth 100000
/-! ### the rules, each judgement in a box: so that Lean does not look into it -/
namespace L2
open PySem PySem.Spec PyProof.Rows
structure Bx (p : Prop) : Prop where
  un : p
theorem bpss_nil {X : Cx} : Bx (PSs X [] tNext) := ⟨pss_nil ⟩
theorem bpss_one {X : Cx} {st : Stmt} {t : TS} (h1 : Bx (PS X st t)) : Bx (PSs X [st] t) := ⟨pss_one h1.un⟩
theorem bpss_cons {X : Cx} {st : Stmt} {rest : List Stmt} {t u : TS} (h1 : Bx (PS X st t)) (h2 : Bx (PSs X rest u)) : Bx (PSs X (st :: rest) (tSeq t u)) := ⟨pss_cons h1.un h2.un⟩
theorem bps_set {X : Cx} {pos : Pos} {i : Nat} {x : Str} {e : Expr} {te : TE} {pos' : Pos} (hN : List.Nodup (Cx.N X)) (hi : (Cx.N X)[i]? = some x) (hx : L2.Loc (Env.scope (Cx.env X)) x) (he : Bx (PE X e te)) (hs : swapsWith e (some (Expr.Name x pos')) (Pos.line pos) (Cx.env X) = pure false := by rfl) (hf : Cx.fn X x = true ∨ List.lookup x (Scope.names (Env.scope (Cx.env X))) = some NameKind.local := by first | exact .inl rfl | exact .inr rfl | assumption) : Bx (PS X (Stmt.Assign [Expr.Name x pos'] e pos) (tAsg te (gName i))) := ⟨ps_set hN hi hx he.un hs hf⟩
theorem bps_setC {X : Cx} {x : Str} {px : Pos} {elt iter : Expr} {ifs : List Expr} {scope : Scope} {pos : Pos} {N : List Str} {fr : List Nat} {tt : TT} {te : TE} {wi : TI} {i : Nat} {y : Str} {py spos : Pos} (hN : List.Nodup (Cx.N X)) (hi' : (Cx.N X)[i]? = some y) (hy : L2.Loc (Env.scope (Cx.env X)) y) (hc : Cx.calm X = true) (S : CSc scope (Env.scope (Cx.env X)) x N (Cx.N X) fr) (hi : Bx (PI X (Expr.Name x px) iter wi)) (ht : ∀ (cl : List (Str × Addr)) (C : Addr) (s₀ : Shared) (H₀ : Hp) (ex : List Addr), Bx (PTs (Cx.blk X scope cl C N s₀ H₀ ex) ifs tt)) (he : ∀ (cl : List (Str × Addr)) (C : Addr) (s₀ : Shared) (H₀ : Hp) (ex : List Addr), Bx (PE (Cx.blk X scope cl C N s₀ H₀ ex) elt te)) (hsw : swapsWith (Expr.ListComp elt [{ target := Expr.Name x px, iter := iter, ifs := ifs, is_async := (0 : Int) }] scope pos) (some (Expr.Name y py)) (Pos.line spos) (Cx.env X) = pure true := by rfl) (hs : ∀ (v : Value), foldedSetIterable iter (Cx.env X) v = pure v := by intro _; rfl) (hf : Cx.fn X y = true ∨ List.lookup y (Scope.names (Env.scope (Cx.env X))) = some NameKind.local := by first | exact .inl rfl | exact .inr rfl | assumption) : Bx (PS X (Stmt.Assign [Expr.Name y py] (Expr.ListComp elt [{ target := Expr.Name x px, iter := iter, ifs := ifs, is_async := (0 : Int) }] scope pos) spos) (tAsg (tComp wi fr tt te) (gName i))) := ⟨ps_setC hN hi' hy hc S hi.un (fun y0 y1 y2 y3 y4 => (ht y0 y1 y2 y3 y4).un) (fun y0 y1 y2 y3 y4 => (he y0 y1 y2 y3 y4).un) hsw hs hf⟩
theorem bps_asg {X : Cx} {pos : Pos} {tg e : Expr} {te : TE} {g : TG} (he : Bx (PE X e te)) (hg : Bx (PG X tg g)) (hs : swapsWithSole [tg] e (Pos.line pos) (Cx.env X) = pure false := by rfl) (hw : swappedStores [tg] e (Cx.env X) = pure none := by rfl) (h1 : List.map (fun (x : Bool × (Value → Sem Unit)) => Prod.snd x) (assignEach [tg] (Cx.env X)) = [assign tg (Cx.env X)] := by rfl) : Bx (PS X (Stmt.Assign [tg] e pos) (tAsg te g)) := ⟨ps_asg he.un hg.un hs hw h1⟩
theorem bps_if {X : Cx} {t u : TS} {pos : Pos} {c : Expr} {a b : List Stmt} {tc : TT} (hc : Bx (PT X c tc)) (ha : Bx (PSs X a t)) (hb : Bx (PSs X b u)) : Bx (PS X (Stmt.If c a b pos) (tIfS tc t u)) := ⟨ps_if hc.un ha.un hb.un⟩
theorem bps_ret {X : Cx} {e : Expr} {te : TE} {pos : Pos} (he : Bx (PE X e te)) : Bx (PS X (Stmt.Return (some e) pos) (tRet te)) := ⟨ps_ret he.un⟩
theorem bps_for {X : Cx} {tg iter : Expr} {body : List Stmt} {wi : TI} {g : TG} {tb : TS} {pos : Pos} (hp : PassesOwn (model (Cx.prog X) (Cx.w X)) (Cx.A X) (Cx.env X) (Cx.xe X)) (hc : Cx.calm X = true) (hi : Bx (PI X tg iter wi)) (hg : Bx (PG X tg g)) (hb : Bx (PSs X body tb)) (hs : ∀ (x : Value), foldedSetIterable iter (Cx.env X) x = pure x := by intro _; rfl) : Bx (PS X (Stmt.For tg iter body [] pos) (tFor wi g tb)) := ⟨ps_for hp hc hi.un hg.un hb.un hs⟩
theorem bps_expr {X : Cx} {e : Expr} {te : TE} {pos : Pos} (he : Bx (PE X e te)) (hs : swapsWith e none (Pos.line pos) (Cx.env X) = pure false := by rfl) : Bx (PS X (Stmt.Expr e pos) (tDrop te)) := ⟨ps_expr he.un hs⟩
theorem bpi_range1 {X : Cx} {tg a : Expr} {ta : TA} {p pos : Pos} (hg : Gl X (Str.ofString "range")) (hm : Cx.mg X (Str.ofString "range") = none) (ha : Bx (PA X [a] ta)) (hs : starEach [a] (Cx.env X) = [(false, eval a (Cx.env X))] := by rfl) : Bx (PI X tg (Expr.Call (Expr.Name (Str.ofString "range") p) [a] [] pos) (iRng1 ta)) := ⟨pi_range1 hg hm ha.un hs⟩
theorem bpi_list {X : Cx} {tg l : Expr} {tl : TE} (hl : Bx (PE X l tl)) : Bx (PI X tg l (iList (Cx.K X) tl)) := ⟨pi_list hl.un⟩
theorem bpg_name {X : Cx} {pos : Pos} {i : Nat} {x : Str} (hN : List.Nodup (Cx.N X)) (hi : (Cx.N X)[i]? = some x) (hx : L2.Loc (Env.scope (Cx.env X)) x) (hf : Cx.fn X x = true ∨ List.lookup x (Scope.names (Env.scope (Cx.env X))) = some NameKind.local := by first | exact .inl rfl | exact .inr rfl | assumption) : Bx (PG X (Expr.Name x pos) (gName i)) := ⟨pg_name hN hi hx hf⟩
theorem bpg_sub {X : Cx} {pos : Pos} {o i : Expr} {to ti : TE} {t : TSet} (ho : Bx (PE X o to)) (hi : Bx (PE X i ti)) (hs : PSet X t)
    (ha : ∀ v, assign (.Subscript o i pos) X.env v = (do
      let ov ← holding [v] (eval o X.env)
      let iv ← holding [v, ov] (eval i X.env)
      standAt pos
      holding [v, ov, iv] (setItem ov iv v)
      release [v, ov, iv] []) := by intro _; rfl) : Bx (PG X (.Subscript o i pos) (gSub to ti t)) := ⟨pg_sub ho.un hi.un hs ha⟩
theorem bpe_comp {X : Cx} {x : Str} {px : Pos} {elt iter : Expr} {ifs : List Expr} {scope : Scope} {pos : Pos} {N : List Str} {fr : List Nat} {tt : TT} {te : TE} {wi : TI} (hc : Cx.calm X = true) (S : CSc scope (Env.scope (Cx.env X)) x N (Cx.N X) fr) (hi : Bx (PI X (Expr.Name x px) iter wi)) (ht : ∀ (cl : List (Str × Addr)) (C : Addr) (s₀ : Shared) (H₀ : Hp) (ex : List Addr), Bx (PTs (Cx.blk X scope cl C N s₀ H₀ ex) ifs tt)) (he : ∀ (cl : List (Str × Addr)) (C : Addr) (s₀ : Shared) (H₀ : Hp) (ex : List Addr), Bx (PE (Cx.blk X scope cl C N s₀ H₀ ex) elt te)) (hs : ∀ (v : Value), foldedSetIterable iter (Cx.env X) v = pure v := by intro _; rfl) : Bx (PE X (Expr.ListComp elt [{ target := Expr.Name x px, iter := iter, ifs := ifs, is_async := (0 : Int) }] scope pos) (tComp wi fr tt te)) := ⟨pe_comp hc S hi.un (fun y0 y1 y2 y3 y4 => (ht y0 y1 y2 y3 y4).un) (fun y0 y1 y2 y3 y4 => (he y0 y1 y2 y3 y4).un) hs⟩
theorem bpts_nil {X : Cx} : Bx (PTs X [] tYes) := ⟨pts_nil ⟩
theorem bpa_nil {X : Cx} : Bx (PA X [] tNil) := ⟨pa_nil ⟩
theorem bpa_cons {X : Cx} {e : Expr} {es : List Expr} {te : TE} {t : TA} (ha : Bx (PE X e te)) (hr : Bx (PA X es t)) (hs : starEach (e :: es) (Cx.env X) = (false, eval e (Cx.env X)) :: starEach es (Cx.env X) := by rfl) : Bx (PA X (e :: es) (tCons te t)) := ⟨pa_cons ha.un hr.un hs⟩
theorem bpt_cmpR {X : Cx} {a b : Expr} {ta tb : TE} {pos : Pos} {op : CmpOp} {r : R2} (ho : OpR X (compareOp op) r) (ha : Bx (PE X a ta)) (hb : Bx (PE X b tb)) (hm : behindInMarks op b = false) : Bx (PT X (Expr.Compare a [op] [b] pos) (tTest (tOp r ta tb))) := ⟨pt_cmpR ho ha.un hb.un hm⟩
theorem bpw_and1 {X : Cx} {a : Expr} {pos : Pos} {tA : TT} (ha : Bx (PT X a tA)) : Bx (PW X (Expr.BoolOp BoolOp.And [a] pos) tA) := ⟨pw_and1 ha.un⟩
theorem bpw_and {X : Cx} {a b : Expr} {pos : Pos} {tA tB' : TT} {rest : List Expr} (ha : Bx (PT X a tA)) (hb : Bx (PW X (Expr.BoolOp BoolOp.And (b :: rest) pos) tB')) : Bx (PW X (Expr.BoolOp BoolOp.And (a :: b :: rest) pos) (tAnd tA tB')) := ⟨pw_and ha.un hb.un⟩
theorem bpw_or1 {X : Cx} {a : Expr} {pos : Pos} {tA : TT} (ha : Bx (PT X a tA)) : Bx (PW X (Expr.BoolOp BoolOp.Or [a] pos) tA) := ⟨pw_or1 ha.un⟩
theorem bpw_or {X : Cx} {a b : Expr} {pos : Pos} {tA tB' : TT} {rest : List Expr} (ha : Bx (PT X a tA)) (hb : Bx (PW X (Expr.BoolOp BoolOp.Or (b :: rest) pos) tB')) : Bx (PW X (Expr.BoolOp BoolOp.Or (a :: b :: rest) pos) (tOr tA tB')) := ⟨pw_or ha.un hb.un⟩
theorem bpt_not {X : Cx} {a : Expr} {pos : Pos} {tA : TT} (ha : Bx (PT X a tA)) : Bx (PT X (Expr.UnaryOp UnaryOp.Not a pos) (tNot tA)) := ⟨pt_not ha.un⟩
theorem bpt_val {X : Cx} {e : Expr} {t : TE} (h : Bx (PE X e t)) (he : ∀ whole, isTrue e X.env whole = (do let v ← whole; standAt e.pos; holding [v] (truthy v)) := by intro _; rfl) : Bx (PT X e (tB t)) := ⟨pt_val h.un he⟩
theorem bpe_cmpR {X : Cx} {a b : Expr} {ta tb : TE} {pos : Pos} {op : CmpOp} {r : R2} (ho : OpR X (compareOp op) r) (ha : Bx (PE X a ta)) (hb : Bx (PE X b tb)) (hm : behindInMarks op b = false) : Bx (PE X (Expr.Compare a [op] [b] pos) (tOp r ta tb)) := ⟨pe_cmpR ho ha.un hb.un hm⟩
theorem bpv {X : Cx} (i : Nat) {x : Str} {pos : Pos} (hN : (Cx.N X)[i]? = some x := by rfl) (hv : Vis (Env.scope (Cx.env X)) x := by first | exact Or.inl rfl | exact Or.inr (Or.inl rfl) | exact Or.inr (Or.inr rfl)) (hd : (x == Str.ofString "__debug__") = false := by decide) (hcd : (x == Str.ofString "__classdict__") = false := by decide) : Bx (PE X (Expr.Name x pos) (tVar i)) := ⟨pv i hN hv hd hcd⟩
theorem bpe_const {X : Cx} {x : Str} {v : V} {pos : Pos} (h : ∃ (u : Value), Cx.mg X x = some u ∧ L2.RelV v u) (hg : Gl X x := by rfl) (hd : (x == Str.ofString "__debug__") = false := by decide) : Bx (PE X (Expr.Name x pos) (tC v)) := ⟨pe_const h hg hd⟩
theorem bpe_ty {X : Cx} {x : Str} {T : String} {pos : Pos} (hm : Cx.mg X x = none) (hv : bootBuiltins x = some (Value.type T)) (hg : Gl X x := by rfl) (hn : x ≠ Str.ofString "__name__" := by decide) (hd : (x == Str.ofString "__debug__") = false := by decide) : Bx (PE X (Expr.Name x pos) (tC (V.ty T))) := ⟨pe_ty hm hv hg hn hd⟩
theorem bpe_bl {X : Cx} {b : Bool} {j : Nat} {pos : Pos} : Bx (PE X (Expr.Constant (Const.bool b) j pos) (tC (V.bl b))) := ⟨pe_bl ⟩
theorem bpe_int {X : Cx} {i : Int} {j : Nat} {pos : Pos} : Bx (PE X (Expr.Constant (Const.int i) j pos) (tC (V.int i))) := ⟨pe_int ⟩
theorem bpe_str {X : Cx} {x : Str} {j : Nat} {pos : Pos} : Bx (PE X (Expr.Constant (Const.str x) j pos) (tC (V.str x))) := ⟨pe_str ⟩
theorem bpe_op {X : Cx} {a b : Expr} {ta tb : TE} {pos : Pos} {op : Operator} {r : R2} (ho : OpR X (binaryOp op) r) (ha : Bx (PE X a ta)) (hb : Bx (PE X b tb)) : Bx (PE X (Expr.BinOp a op b pos) (tOp r ta tb)) := ⟨pe_op ho ha.un hb.un⟩
theorem bpe_not {X : Cx} {a : Expr} {ta : TE} {pos : Pos} (ha : Bx (PE X a ta)) : Bx (PE X (Expr.UnaryOp UnaryOp.Not a pos) (tNotV ta)) := ⟨pe_not ha.un⟩
theorem bpe_one {X : Cx} {a : Expr} {pos : Pos} {op : BoolOp} {t : TE} (h : Bx (PE X a t)) : Bx (PE X (Expr.BoolOp op [a] pos) t) := ⟨pe_one h.un⟩
theorem bpe_and {X : Cx} {a b : Expr} {ta tb : TE} {pos : Pos} {rest : List Expr} (ha : Bx (PE X a ta)) (hb : Bx (PE X (Expr.BoolOp BoolOp.And (b :: rest) pos) tb)) : Bx (PE X (Expr.BoolOp BoolOp.And (a :: b :: rest) pos) (tAndV ta tb)) := ⟨pe_and ha.un hb.un⟩
theorem bpe_or {X : Cx} {a b : Expr} {ta tb : TE} {pos : Pos} {rest : List Expr} (ha : Bx (PE X a ta)) (hb : Bx (PE X (Expr.BoolOp BoolOp.Or (b :: rest) pos) tb)) : Bx (PE X (Expr.BoolOp BoolOp.Or (a :: b :: rest) pos) (tOrV ta tb)) := ⟨pe_or ha.un hb.un⟩
theorem bpe_ixA {X : Cx} {a b : Expr} {ta tb : TE} {pos : Pos} {r : R2} (hr : IxR X r) (ha : Bx (PE X a ta)) (hb : Bx (PE X b tb)) (hs : PlainIx b := by exact fun _ _ => rfl) : Bx (PE X (Expr.Subscript a b pos) (tOp r ta tb)) := ⟨pe_ixA hr ha.un hb.un hs⟩
theorem bpe_lst {X : Cx} {es : List Expr} {t : TA} {pos : Pos} (h : Bx (PA X es t)) : Bx (PE X (Expr.List es pos) (tLst t)) := ⟨pe_lst h.un⟩
theorem bpe_lstS {X : Cx} {es : List Expr} {xs : List Str} {pos : Pos} (h : strConsts es = some xs := by rfl) : Bx (PE X (Expr.List es pos) (tLstC (List.map V.str xs))) := ⟨pe_lstS h⟩
theorem bpe_tup {X : Cx} {es : List Expr} {t : TA} {pos : Pos} {x1 : Nat} (h : Bx (PA X es t)) : Bx (PE X (Expr.Tuple es x1 pos) (tTup t)) := ⟨pe_tup h.un⟩
theorem bpe_fnx {X : Cx} {P : Program} {w : World} {k : Nat} {f : Addr} {fd : FuncData} {ps : List Str} {sp : Sp} {E : XK} {x : Str} {st : Stmt} {p pos : Pos} {e : Expr} {es : List Expr} {t : TA} (D : DefOk (Cx.K X) (Cx.mg X) x st ps f fd) (F : FnOk (Cx.prog X) (Cx.w X) (Cx.K X) (Cx.mg X) (Cx.base X) (CX1 P w) k f fd ps sp) (hr : Room k (Cx.A X)) (hx : Passes (CX1 P w) X E) (ha : Bx (PA X (e :: es) t)) (hg : Gl X x := by rfl) (hdb : (x == Str.ofString "__debug__") = false := by decide) (he : starEach (e :: es) (Cx.env X) = (false, eval e (Cx.env X)) :: starEach es (Cx.env X) := by rfl) (hpl : (List.any (backTo pos (starEach es (Cx.env X))) fun (x : Bool × Sem Value) => Prod.fst x) = false := by rfl) : Bx (PE X (Expr.Call (Expr.Name x p) (e :: es) [] pos) (tCall sp [] E t)) := ⟨pe_fnx D F hr hx ha.un hg hdb he hpl⟩
theorem bpe_callB {X : Cx} {x : Str} {p pos : Pos} {e : Expr} {es : List Expr} {t : TA} {id : String} {r : List V → Hp → VK → Prop} (hc : CallR X (Value.builtin id) r) (hg : Gl X x) (hm : Cx.mg X x = none) (hv : bootBuiltins x = some (Value.builtin id)) (ha : Bx (PA X (e :: es) t)) (hn : x ≠ Str.ofString "__name__" := by decide) (hdb : (x == Str.ofString "__debug__") = false := by decide) (he : starEach (e :: es) (Cx.env X) = (false, eval e (Cx.env X)) :: starEach es (Cx.env X) := by rfl) (hpl : (List.any (backTo pos (starEach es (Cx.env X))) fun (x : Bool × Sem Value) => Prod.fst x) = false := by rfl) : Bx (PE X (Expr.Call (Expr.Name x p) (e :: es) [] pos) (tCB r t)) := ⟨pe_callB hc hg hm hv ha.un hn hdb he hpl⟩
theorem bpe_callTy {X : Cx} {x : Str} {p pos : Pos} {e : Expr} {es : List Expr} {t : TA} {T : String} {r : List V → Hp → VK → Prop} (hc : CallR X (Value.type T) r) (hg : Gl X x) (hm : Cx.mg X x = none) (hv : bootBuiltins x = some (Value.type T)) (ha : Bx (PA X (e :: es) t)) (hn : x ≠ Str.ofString "__name__" := by decide) (hdb : (x == Str.ofString "__debug__") = false := by decide) (he : starEach (e :: es) (Cx.env X) = (false, eval e (Cx.env X)) :: starEach es (Cx.env X) := by rfl) (hpl : (List.any (backTo pos (starEach es (Cx.env X))) fun (x : Bool × Sem Value) => Prod.fst x) = false := by rfl) : Bx (PE X (Expr.Call (Expr.Name x p) (e :: es) [] pos) (tCB r t)) := ⟨pe_callTy hc hg hm hv ha.un hn hdb he hpl⟩
theorem bpe_bm {X : Cx} {o e : Expr} {es : List Expr} {to : TE} {t : TA} {name : Str} {apos cpos : Pos} {T id : String} {r : V → List V → Hp → VK → Prop} (pa : PlainAttrs T) (slot : Slot T name id) (hty : typeOf (.builtin id) = pure (.type "method_descriptor")) (hm : MtR X id r) (ho : Bx (PE X o to)) (ha : Bx (PA X (e :: es) t))
    (hbase : attributeBase o name X.env (eval o X.env) = eval o X.env := by rfl)
    (hfew : ((backTo cpos (starEach (e :: es) X.env)).all (fun x => !x.1) && (backToKw cpos (keywordEach [] X.env)).all (fun x => x.1.isSome) && decide ((e :: es).length + ([] : List Keyword).length + (if ([] : List Keyword).isEmpty then 0 else 1) < 30)) = true := by rfl)
    (hline : (apos.endLine == cpos.line) = true := by rfl) (hs : starEach (e :: es) X.env = (false, eval e X.env) :: starEach es X.env := by rfl) (hplain : (backTo cpos (starEach es X.env)).any (·.1) = false := by rfl) :
    Bx (PE X (.Call (.Attribute o name apos) (e :: es) [] cpos) (tBM X.K T r to t)) := ⟨pe_bm pa slot hty hm ho.un ha.un hbase hfew hline hs hplain⟩
theorem Bx.bpt {X : Cx} {e : Expr} {t : TT} (h : Bx (PW X e t)) : Bx (PT X e t) := ⟨PW.pt h.un⟩
end L2

set_option Elab.async false
set_option linter.all false
set_option maxRecDepth 100000
namespace L2
open PySem PySem.Spec PyProof.Rows
theorem cxH_K {P : Program} {w : World} {K : PySem.W.Frag} {mg : Str → Option Value} {base : Heap} {N : List Str} {qual : Str} {scope : Scope} {f : Addr} {cd : Value} {A : Around} {outer : List Env} {s : Shared} {H : Hp} :
    (cxH P w K mg base N qual scope f cd A outer s H).K = K := rfl
theorem tyV_str {K : PySem.W.Frag} {z : Str} {H : Hp} : tyV K "str" (.str z) H = True := eq_true rfl
theorem tyV_lst {K : PySem.W.Frag} {p : Addr} {H : Hp} {xs : List V} (h : SqL K H p xs) : tyV K "list" (.ref p) H := .inl ⟨rfl, xs, h⟩
theorem ite_F {A B : Prop} {c : Prop} [Decidable c] (hc : ¬ c) (h : B) : if c then A else B := by rw [if_neg hc]; exact h
end L2
namespace L2
open PySem PySem.Spec PyProof.Rows
end L2

set_option Elab.async false
set_option linter.all false
set_option maxRecDepth 100000
/-! ### sorted of a list that rises already: one run, whatever its length -/
namespace L2
open PySem PySem.Spec PyProof.Rows
section
variable {prog : Program} {w : World} {A : Around} {E : Value → Shared → Prop} {s : Shared} {a₀ : Array Keyed} {κ : PyProof.Rows.KeyKind}
end
end L2
namespace L2
open PySem PySem.Spec PyProof.Rows
section
variable {prog : Program} {w : World} {A : Around} {E : Value → Shared → Prop} {s : Shared}
end
end L2

set_option Elab.async false
set_option linter.all false
set_option maxRecDepth 100000
/-! ### texts cut at a sign, put together with it, one sign struck out -/
namespace L2
open PySem PySem.Spec PyProof.Rows PySem.Builtin PySem.Builtin.Str
def cutC (c : Nat) : List Nat → List (List Nat)
  | [] => [[]]
  | a :: r => if a = c then [] :: cutC c r else match cutC c r with
    | [] => [[a]]
    | p :: q => (a :: p) :: q
def joinC (c : Nat) : List (List Nat) → List Nat
  | [] => []
  | [p] => p
  | p :: q :: r => p ++ c :: joinC c (q :: r)
section
variable {X : Cx}
def rSplit : V → List V → Hp → VK → Prop := fun x xs H Q => ∃ (c : Nat) (l : List Nat), x = .str (tx l) ∧ xs = [.str ⟨#[c]⟩] ∧ l.length + 2 ≤ sizeLine ∧ ∀ p, H p = none → Q (.ref p) (upd H p (.lst ((cutC c l).map fun z => .str (tx z))))
def rJoinS (K : PySem.W.Frag) : V → List V → Hp → VK → Prop := fun x xs H Q => ∃ (p : Addr) (ys : List (List Nat)) (c : Nat), x = .str (tx [c]) ∧ xs = [.ref p] ∧ SqL K H p (ys.map fun l => V.str (tx l)) ∧ (ys.map List.length).sum + ys.length ≤ 16777216 ∧ Q (.str (tx (joinC c ys))) H
end
/-! ### where a fresh value's mark is not nought: once one was made, for ever -/
def PEp (X : Cx) (e : Expr) (t : TE) : Prop := ∀ (pins : List (Addr × Obj)) (s : Shared) (σ : St) (H : Hp) (Q : VK), 1 ≤ s.toks → Inv X pins σ H s → t σ H Q → wpAny (model X.prog X.w) X.A (eval e X.env) (EP X pins σ Q) X.xe s
def PAp (X : Cx) (es : List Expr) (t : TA) : Prop := ∀ (pos : Pos) (pins : List (Addr × Obj)) (s : Shared) (σ : St) (H : Hp) (Q : List V → Hp → Prop), 1 ≤ s.toks → Inv X pins σ H s → t σ H Q → wpAny (model X.prog X.w) X.A (spliced (backTo pos (starEach es X.env))) (AP X pins σ Q) X.xe s
def PSp (X : Cx) (st : Stmt) (t : TS) : Prop := ∀ (pins : List (Addr × Obj)) (s : Shared) (σ : St) (H : Hp) (D : Ends), 1 ≤ s.toks → Inv X pins σ H s → t D σ H → wpAny (model X.prog X.w) X.A (exec st X.env) (SP X pins D) X.xe s
def PSsp (X : Cx) (st : List Stmt) (t : TS) : Prop := ∀ (pins : List (Addr × Obj)) (s : Shared) (σ : St) (H : Hp) (D : Ends), 1 ≤ s.toks → Inv X pins σ H s → t D σ H → wpAny (model X.prog X.w) X.A (execs st X.env) (SP X pins D) X.xe s
section
variable {X : Cx} {st : Stmt} {rest : List Stmt} {t u : TS} {e : Expr} {es : List Expr} {te : TE} {ta : TA}
/-- x.replace(c, '') -/
def tRepl (c : Str) (d : Str) (to : TE) : TE := fun σ H Q => to σ H fun x H1 => ∃ (l : List Nat) (k : Nat), x = .str (tx l) ∧ c = ⟨#[k]⟩ ∧ d = ⟨#[]⟩ ∧ l.length ≤ 100000 ∧ Q (.str (tx (l.filter (· != k)))) H1
end
end L2
namespace L2
open PySem PySem.Spec PyProof.Rows
section
variable {X : Cx} {st : Stmt} {rest : List Stmt} {t u : TS} {e : Expr} {es : List Expr} {te : TE} {ta : TA}
end
end L2
namespace L2
end L2

set_option Elab.async false
set_option linter.all false
set_option maxRecDepth 100000
/-! ### sum of a list of numbers; while in a box; patterns as trees of tuples -/
namespace L2
open PySem PySem.Spec PyProof.Rows
section
variable {X : Cx}
end
/-- a pattern's mark: its name, its back, its sign, its number -/
structure Mrk where
  nm : List Nat
  back : Bool
  sg : List Nat
  num : Int
structure MrkOk (m : Mrk) : Prop where
  nm : okT m.nm
  sg : okT m.sg
def markC : List Nat := [109, 97, 114, 107]
def rowC : List Nat := [114, 111, 119]
def orC : List Nat := [111, 114]
def manyC : List Nat := [109, 97, 110, 121]
def someC : List Nat := [115, 111, 109, 101]
def maybeC : List Nat := [109, 97, 121, 98, 101]
def ones : List (List Nat) := [manyC, someC, maybeC]
def twos : List (List Nat) := [rowC, orC]
inductive Tr where
  | mark (m : Mrk)
  | two (k : List Nat) (l r : Tr)
  | one (k : List Nat) (t : Tr)
def Tr.deep : Tr → Nat
  | .mark _ => 1
  | .two _ l r => max l.deep r.deep + 1
  | .one _ t => t.deep + 1
def Tr.marks : Tr → List Mrk
  | .mark m => [m]
  | .two _ l r => l.marks ++ r.marks
  | .one _ t => t.marks
def Mrk.turn (m : Mrk) : Mrk := { m with back := !m.back }
def Tr.turn : Tr → Tr
  | .mark m => .mark m.turn
  | .two k l r => if k = rowC then .two k r.turn l.turn else .two k l.turn r.turn
  | .one k t => .one k t.turn
def mkV (m : Mrk) : List V := [.str (tx markC), .str (tx m.nm), .bl m.back, .str (tx m.sg), .int m.num]
inductive TreeAt (H : Hp) : Addr → Tr → Prop
  | mark {a : Addr} {m : Mrk} : H a = some (.tup (mkV m)) → MrkOk m → TreeAt H a (.mark m)
  | two {a l r : Addr} {k : List Nat} {x y : Tr} : H a = some (.tup [.str (tx k), .ref l, .ref r]) → k ∈ twos → TreeAt H l x → TreeAt H r y → TreeAt H a (.two k x y)
  | one {a i : Addr} {k : List Nat} {x : Tr} : H a = some (.tup [.str (tx k), .ref i]) → k ∈ ones → TreeAt H i x → TreeAt H a (.one k x)
theorem TreeAt.keep {H H' : Hp} {a : Addr} {t : Tr} (k : ∀ b xs, H b = some (.tup xs) → H' b = some (.tup xs)) (h : TreeAt H a t) : TreeAt H' a t := by
  induction h with
  | mark e o => exact .mark (k _ _ e) o
  | two e hk _ _ i1 i2 => exact .two (k _ _ e) hk i1 i2
  | one e hk _ i1 => exact .one (k _ _ e) hk i1
theorem TreeAt.same {H H' : Hp} {a : Addr} {t : Tr} (s : Same H H') (h : TreeAt H a t) : TreeAt H' a t := h.keep fun b xs e => s b _ e
theorem TreeAt.step {H H' : Hp} {F F' : List Addr} {a : Addr} {t : Tr} (s : Step H F H' F') (h : TreeAt H a t) : TreeAt H' a t := h.keep s.tup
theorem TreeAt.some {H : Hp} {a : Addr} {t : Tr} (h : TreeAt H a t) : ∃ xs, H a = some (.tup xs) := by
  cases h with
  | mark e _ => exact ⟨_, e⟩
  | two e _ _ _ => exact ⟨_, e⟩
  | one e _ _ => exact ⟨_, e⟩
theorem Mrk.turn_turn (m : Mrk) : m.turn.turn = m := by
  cases m
  simp [Mrk.turn]
theorem Tr.turn_turn : ∀ t : Tr, t.turn.turn = t
  | .mark m => by simp [Tr.turn, Mrk.turn_turn]
  | .two k l r => by
    have h1 := l.turn_turn
    have h2 := r.turn_turn
    by_cases h : k = rowC
    · simp [Tr.turn, h, h1, h2]
    · simp [Tr.turn, h, h1, h2]
  | .one k t => by
    have h1 := t.turn_turn
    simp [Tr.turn, h1]
/-- as deep as the law lets a pattern become -/
def Tr.Low (t : Tr) : Prop := t.deep + 1 ≤ 24 + t.marks.length
end L2
namespace L2
open PySem PySem.Spec PyProof.Rows
inductive All2 {α β : Type} (R : α → β → Prop) : List α → List β → Prop
  | nil : All2 R [] []
  | cons {a : α} {b : β} {as : List α} {bs : List β} : R a b → All2 R as bs → All2 R (a :: as) (b :: bs)
theorem All2.imp {α β : Type} {R S : α → β → Prop} (h : ∀ a b, R a b → S a b) : ∀ {as : List α} {bs : List β}, All2 R as bs → All2 S as bs
  | _, _, .nil => .nil
  | _, _, .cons r t => .cons (h _ _ r) (t.imp h)
theorem All2.snoc {α β : Type} {R : α → β → Prop} {a : α} {b : β} (r : R a b) : ∀ {as : List α} {bs : List β}, All2 R as bs → All2 R (as ++ [a]) (bs ++ [b])
  | _, _, .nil => .cons r .nil
  | _, _, .cons r' t => .cons r' (t.snoc r)
theorem All2.append {α β : Type} {R : α → β → Prop} : ∀ {as cs : List α} {bs ds : List β}, All2 R as bs → All2 R cs ds → All2 R (as ++ cs) (bs ++ ds)
  | _, _, _, _, .nil, h => h
  | _, _, _, _, .cons r t, h => .cons r (t.append h)
theorem All2.len {α β : Type} {R : α → β → Prop} : ∀ {as : List α} {bs : List β}, All2 R as bs → as.length = bs.length
  | _, _, .nil => rfl
  | _, _, .cons _ t => by simp [t.len]
theorem All2.get {α β : Type} {R : α → β → Prop} : ∀ {as : List α} {bs : List β} {i : Nat} {a : α} {b : β}, All2 R as bs → as[i]? = some a → bs[i]? = some b → R a b
  | _, _, 0, _, _, .cons r _, h1, h2 => by
    simp at h1 h2
    rw [← h1, ← h2]
    exact r
  | _, _, i + 1, _, _, .cons _ t, h1, h2 => t.get (i := i) (by simpa using h1) (by simpa using h2)
theorem rd_ixT {K : PySem.W.Frag} {H : Hp} {a : Addr} {xs : List V} {i : Int} {v : V} {Q : VK} (h : H a = some (.tup xs)) (e : atI xs i = some v) (q : Q v H) : rIxT K (.ref a) (.int i) H Q := ⟨a, xs, i, v, rfl, rfl, SqT.of h, e, q⟩
theorem rd_ixL {K : PySem.W.Frag} {H : Hp} {a : Addr} {xs : List V} {i : Int} {v : V} {Q : VK} (h : H a = some (.lst xs)) (e : atI xs i = some v) (q : Q v H) : rIxL K (.ref a) (.int i) H Q := ⟨a, xs, i, v, rfl, rfl, SqL.of h, e, q⟩
theorem TreeAt.off {H : Hp} {a D : Addr} {t : Tr} {ys : List V} {o : HO} (h : TreeAt H a t) (d : H D = Option.some (HO.lst ys)) : TreeAt (upd H D o) a t := h.keep fun b xs e => by
  rw [upd_ne (fun z => by rw [z, d] at e; cases e)]
  exact e
def Tr.kids : Tr → List Tr
  | .mark _ => []
  | .two _ l r => [l, r]
  | .one _ t => [t]
def Tr.kind : Tr → List Nat
  | .mark _ => markC
  | .two k _ _ => k
  | .one k _ => k
theorem TreeAt.kids {H : Hp} {a : Addr} {tr : Tr} (h : TreeAt H a tr) : (∃ m, tr = .mark m ∧ H a = Option.some (.tup (mkV m)) ∧ MrkOk m) ∨
    (∃ as : List Addr, H a = Option.some (.tup (.str (tx tr.kind) :: as.map V.ref)) ∧ All2 (TreeAt H) as tr.kids ∧ tr.kind ∈ twos ++ ones ∧ tr.kind ≠ markC ∧ as.length ≤ 2 ∧ 1 ≤ as.length) := by
  have ne : ∀ k ∈ twos ++ ones, k ≠ markC := by decide
  cases h with
  | mark e o => exact .inl ⟨_, rfl, e, o⟩
  | @two _ l r k _ _ e hk hl hr => exact .inr ⟨[l, r], e, .cons hl (.cons hr .nil), List.mem_append_left _ hk, ne _ (List.mem_append_left _ hk), by simp, by simp⟩
  | @one _ i k _ e hk hi => exact .inr ⟨[i], e, .cons hi .nil, List.mem_append_right _ hk, ne _ (List.mem_append_right _ hk), by simp, by simp⟩
theorem All2.zip {α β : Type} {R : α → β → Prop} : ∀ {as : List α} {bs : List β}, All2 R as bs → ∀ c ∈ as.zip bs, R c.1 c.2
  | _, _, .nil, c, h => nomatch h
  | _, _, .cons r t, c, h => by
    rcases List.mem_cons.mp h with rfl | h
    · exact r
    · exact t.zip c h
theorem All2.rev {α β : Type} {R : α → β → Prop} : ∀ {as : List α} {bs : List β}, All2 R as bs → All2 R as.reverse bs.reverse
  | _, _, .nil => .nil
  | _, _, .cons r t => by
    rw [List.reverse_cons, List.reverse_cons]
    exact t.rev.snoc r
theorem TreeAt.turned {H0 H : Hp} {a p : Addr} {tr : Tr} {cs : List Addr} (ha : TreeAt H0 a tr) (nm : tr.kind ≠ markC) (e : H p = Option.some (.tup (.str (tx tr.kind) :: cs.map V.ref)))
    (h : All2 (TreeAt H) cs (if tr.kind = rowC then (tr.kids.map Tr.turn).reverse else tr.kids.map Tr.turn)) : TreeAt H p tr.turn := by
  cases ha with
  | mark _ _ => exact absurd rfl nm
  | two _ hk _ _ =>
    simp only [Tr.kind, Tr.kids, Tr.turn, List.map_cons, List.map_nil, List.reverse_cons, List.reverse_nil, List.nil_append, List.cons_append] at *
    split at h
    · rename_i hr
      rw [if_pos hr]
      cases h with
      | cons h1 h =>
        cases h with
        | cons h2 h =>
          cases h
          exact .two e hk h1 h2
    · rename_i hr
      rw [if_neg hr]
      cases h with
      | cons h1 h =>
        cases h with
        | cons h2 h =>
          cases h
          exact .two e hk h1 h2
  | one _ hk _ =>
    have ne : ∀ k ∈ ones, k ≠ rowC := by decide
    simp only [Tr.kind, Tr.kids, Tr.turn, List.map_cons, List.map_nil, if_neg (ne _ hk)] at *
    cases h with
    | cons h1 h =>
      cases h
      exact .one e hk h1
end L2

set_option Elab.async false
set_option linter.all false
set_option maxRecDepth 100000
/-! ### texts looked at from a place on; parted at a sign; their inner parts -/
namespace L2
open PySem PySem.Spec PyProof.Rows PySem.Builtin PySem.Builtin.Str
/-- the first place of c -/
def firstAt (c : Nat) : List Nat → Option Nat
  | [] => none
  | a :: r => if a = c then some 0 else (firstAt c r).map (· + 1)
def findV (c : Nat) (l : List Nat) (i : Nat) : Int := match firstAt c (l.drop i) with | some j => ((i + j : Nat) : Int) | none => -1
section
variable {X : Cx}
def rStartsF : V → List V → Hp → VK → Prop := fun x xs H Q => ∃ (l : List Nat) (c i : Nat), x = .str (tx l) ∧ xs = [.str (tx [c]), .int (i : Int)] ∧ Q (.bl (decide (l[i]? = some c))) H
def rFindF : V → List V → Hp → VK → Prop := fun x xs H Q => ∃ (l : List Nat) (c i : Nat), x = .str (tx l) ∧ xs = [.str (tx [c]), .int (i : Int)] ∧ Q (.int (findV c l i)) H
def partC (c : Nat) (l : List Nat) : List Nat × List Nat × List Nat := match firstAt c l with | some j => (l.take j, [c], l.drop (j + 1)) | none => (l, [], [])
def rPartition : V → List V → Hp → VK → Prop := fun x xs H Q => ∃ (l : List Nat) (c : Nat), x = .str (tx l) ∧ xs = [.str (tx [c])] ∧ l.length ≤ sizeLine ∧ ∀ p, H p = none → Q (.ref p) (upd H p (.tup [.str (tx (partC c l).1), .str (tx (partC c l).2.1), .str (tx (partC c l).2.2)]))
/-- text[i:j] -/
def rMid : V → Option Int → Option Int → Hp → VK → Prop := fun x lo hi H Q => ∃ (l : List Nat) (i j : Nat), x = .str (tx l) ∧ lo = some (i : Int) ∧ hi = some (j : Int) ∧ i ≤ j ∧ j ≤ l.length ∧ l.length ≤ sizeLine ∧ Q (.str (tx ((l.drop i).take (j - i)))) H
/-- text[1:-1] -/
def rInner : V → Option Int → Option Int → Hp → VK → Prop := fun x lo hi H Q => ∃ l : List Nat, x = .str (tx l) ∧ lo = some 1 ∧ hi = some (-1) ∧ 2 ≤ l.length ∧ l.length ≤ sizeLine ∧ Q (.str (tx ((l.drop 1).take (l.length - 2)))) H
end
end L2
namespace L2
open PySem PySem.Spec PyProof.Rows
/-! #### a pattern's text by its pieces -/
def singles : List Nat := [46, 124, 42, 43, 63, 40, 41]
def isL (c : Nat) : Bool := decide (c ∈ abc)
def nameLen (r : List Nat) : Nat := if r.head? = some 95 then 1 else (r.takeWhile isL).length
def condLen (r : List Nat) : Option Nat := if r.head? = some 91 then (firstAt 93 r).map (· + 1) else some 0
def pieceLen (r : List Nat) : Option Nat := match r with
  | [] => none
  | c :: _ => if c ∈ singles then some 1 else (condLen (r.drop ((if c = 60 then 1 else 0) + nameLen (r.drop (if c = 60 then 1 else 0))))).map (((if c = 60 then 1 else 0) + nameLen (r.drop (if c = 60 then 1 else 0))) + ·)
structure MrkW (m : Mrk) : Prop where
  nm : m.nm = [95] ∨ (1 ≤ m.nm.length ∧ m.nm.length ≤ 12 ∧ ∀ x ∈ m.nm, x ∈ abc)
  sg : m.sg ∈ [[], [60], [62], [61], [33]]
  num : m.num.natAbs < 10 ^ 60
  non : m.sg = [] → m.num = 0
theorem abc_ok {x : Nat} (h : x ∈ abc) : x < 1114112 := by
  have := mem_abc.mp h
  omega
theorem MrkW.ok {m : Mrk} (h : MrkW m) : MrkOk m := by
  refine ⟨fun x hx => ?_, fun x hx => ?_⟩
  · rcases h.nm with e | ⟨_, _, e⟩
    · rw [e, List.mem_singleton] at hx
      rw [hx]
      decide
    · exact abc_ok (e x hx)
  · have all : ∀ l ∈ [[], [60], [62], [61], [33]], ∀ x ∈ l, x < 1114112 := by decide
    exact all _ h.sg x hx
def condC (m : Mrk) : List Nat := if m.sg = [] then [] else 91 :: (m.sg ++ numC m.num ++ [93])
def markT (m : Mrk) : List Nat := (if m.back = true then [60] else []) ++ (m.nm ++ condC m)
inductive Pc where
  | sign (c : Nat)
  | mark (m : Mrk)
def Pc.shown : Pc → List Nat
  | .sign c => [c]
  | .mark m => markT m
def PcW : Pc → Prop
  | .sign c => c ∈ singles
  | .mark m => MrkW m
/-- its last sign, its first sign a letter -/
def Pc.endsL (p : Pc) : Bool := match p.shown.getLast? with | some c => isL c | none => false
def Pc.startsL (p : Pc) : Bool := match p.shown.head? with | some c => isL c | none => false
end L2

set_option Elab.async false
set_option linter.all false
set_option maxRecDepth 100000
/-! ### sorted of a dict whose keys are numbers that rise -/
namespace L2
open PySem PySem.Spec PyProof.Rows
@[reducible] def intK : PyProof.Rows.KeyKind where
  α := Int
  blt a b := decide (a < b)
  irrefl a := by simp
  trans a b c h1 h2 := by simp only [decide_eq_true_eq] at *; omega
  negTrans a b c h := by
    simp only [decide_eq_true_eq] at *
    omega
  total a b h1 h2 := by simp only [decide_eq_false_iff_not] at *; omega
  keyOf v := match v with | .int x _ => some x | _ => none
  dflt := 0
section
variable {X : Cx}
end
end L2

set_option Elab.async false
set_option linter.all false
set_option maxRecDepth 100000
/-! ### defs with a default; the web's ties -/
namespace L2
open PySem PySem.Spec PyProof.Rows
structure FunD (K : PySem.W.Frag) (x qual : Str) (st : Stmt) (f : Addr) (fd : FuncData) : Prop where
  ex : ∃ (oc : Value) (od : Option Addr) (dV kV doc pm : Value) (an : Option Addr) (cdv ct : Value) (osl : Array (Option Value)),
    fd = PySem.W.fnOf x qual (defArgs st) (defBody st) (defScope st) dV kV doc pm an cdv ct ∧ K.lookup f = some ⟨oc, od, .func fd, osl⟩ ∧ PySem.W.codeIn K cdv qual = true
  kp : PySem.W.keepIn K (.ref f) = true
section
variable {P : Program} {w : World} {K : PySem.W.Frag} {mg : Str → Option Value} {base : Heap}
theorem FunD.okX {x qual : Str} {st : Stmt} {f : Addr} {fd : FuncData} {N ps : List Str} {k : Nat} {sp : Sp} (F : FunD K x qual st f fd) (S : FnScope N ps (defScope st)) (len : ∀ vs H Q E, sp vs H Q E → vs.length = ps.length)
    (hbody : ∀ (cdv : Value) (A : Around) (outer : List Env) (s : Shared) (H : Hp) (vs : List V) (Q : VK) (E : XK), Room k (A.deeper (envOfC qual (defScope st) s.heap.objs.size f cdv)) → sp vs H Q E →
      ∃ t, PSs (cxOf (CX1 P w) P w K mg base N qual (defScope st) f cdv A outer s H E) (defBody st) t ∧ t { nx := fun _ H' => Q .non H', rt := Q } (start N vs) H) : FnOk P w K mg base (CX1 P w) (k + 1) f fd ps sp := by
  obtain ⟨oc, od, dV, kV, doc, pm, an, cdv, ct, osl, rfl, lk, hcd⟩ := F.ex
  exact fn_of lk hcd S len fun A outer s H vs Q E hr hsp => hbody cdv A outer s H vs Q E hr hsp
end
structure MethOkD (K : PySem.W.Frag) (C : Addr) (m qual : Str) (st : Stmt) (ps : List Str) (dvs : List V) (f : Addr) (fd : FuncData) : Prop where
  at_ : Meth K C m f
  fn : FunD K m qual st f fd
  b : Binds K fd ps []
  bd : ∃ ds, Vals dvs ds ∧ Binds K fd ps ds
section
variable {X : Cx} {P : Program} {w : World} {k : Nat} {f C : Addr} {fd : FuncData} {ps : List Str} {sp : Sp} {E : XK} {m qual : Str} {st : Stmt} {apos pos : Pos} {e o : Expr} {es : List Expr} {ta : TE} {t : TA} {dvs : List V}
theorem MethOkD.run {K : PySem.W.Frag} (D : MethOkD K C m qual st ps dvs f fd) : Meth K C m f ∧ Binds K fd ps [] := ⟨D.at_, D.b⟩
end
def WA.addTie (A : WA) (s n e : Nm) (w : Int) : Except Rf WA :=
  if s ∉ A.names ∨ e ∉ A.names then .error .noThing else if goodC n = false then .error .noName else if 10 ^ 60 ≤ w.natAbs then .error .noNumber else if 400 ≤ A.ties.length then .error .full
  else .ok { A with ties := A.ties ++ [(A.next, ⟨s, n, e, w⟩)], next := A.next + 1 }
def WA.cutTie (A : WA) (k : Int) : Except Rf WA :=
  if k ∉ A.ties.map (·.1) then .error .noTie else .ok { A with ties := A.ties.filter fun x => decide (x.1 ≠ k) }
/-- a tie goes -/
theorem WebAt.cut {C : Addr} {H : Hp} {p : Addr} {W : WS} {n : Int} (w : WebAt C H p W) :
    WebAt C (upd H W.dt (.dK (dropK (kvTies W.ties) (.inl n)))) p { W with ties := W.ties.filter fun x => decide (x.1 ≠ n) } ∧
    Step H (W.own p) (upd H W.dt (.dK (dropK (kvTies W.ties) (.inl n)))) (WS.own { W with ties := W.ties.filter fun x => decide (x.1 ≠ n) } p) := by
  rw [dropK_ties]
  have oth : ∀ b o, b ≠ W.dt → H b = some o → upd H W.dt (.dK (kvTies (W.ties.filter fun x => decide (x.1 ≠ n)))) b = some o := fun b o hb e => by
    rw [upd_ne hb]
    exact e
  have sub : ∀ x ∈ W.ties.filter (fun x => decide (x.1 ≠ n)), x ∈ W.ties := fun x hx => (List.mem_filter.mp hx).1
  refine ⟨⟨oth _ _ w.pdt.symm w.obj, oth _ _ w.dvdt w.val, upd_same, fun x hx => oth _ _ (w.dtx hx) (w.each x hx), fun x hx => oth _ _ (ne_of (w.tups x (sub x hx)) w.tie (by intro z; cases z)) (w.tups x (sub x hx)), w.nd, w.names, ?_, w.few, Nat.le_trans (List.length_filter_le _ _) w.fewT⟩,
    ⟨fun b o hb e => oth b o (fun z => hb (by simp [WS.own, z])) e, fun b hb => .inl hb, fun b xs e => oth b _ (ne_of e w.tie (by intro z; cases z)) e⟩⟩
  exact List.Sublist.nodup (List.Sublist.map _ List.filter_sublist) w.nums
end L2

set_option Elab.async false
set_option linter.all false
set_option maxRecDepth 100000
/-! ### a comprehension over a dict, bound to a name -/
namespace L2
open PySem PySem.Spec PyProof.Rows
section
variable {X : Cx} {y : Str} {py : Pos} {elt iter : Expr} {ifs : List Expr} {scope : Scope} {pos : Pos} {N : List Str} {fr : List Nat} {tt : TT} {te tel : TE}
end
end L2

set_option Elab.async false
set_option linter.all false
set_option maxRecDepth 100000
/-! ### sorted by what it asks: the same questions, the same order -/
namespace L2
open PySem PySem.Spec PyProof.Rows PySem.W
def evK {α : Type} (lt : Nat → Nat → Bool) : KasT α → α
  | .ret a => a
  | .ask i j k => evK lt (k (lt i j))
def InK {α : Type} (n : Nat) (P : α → Prop) : KasT α → Prop
  | .ret a => P a
  | .ask i j k => i < n ∧ j < n ∧ ∀ b, InK n P (k b)
theorem InK.bind {α β : Type} {n : Nat} {P : α → Prop} {R : β → Prop} {f : α → KasT β} : ∀ {t : KasT α}, InK n P t → (∀ a, P a → InK n R (f a)) → InK n R (t.bind f)
  | .ret a, h, hf => hf a h
  | .ask _ _ _, h, hf => ⟨h.1, h.2.1, fun b => InK.bind (h.2.2 b) hf⟩
theorem InK.ev {α : Type} {n : Nat} {P : α → Prop} {lt : Nat → Nat → Bool} : ∀ {t : KasT α}, InK n P t → P (evK lt t)
  | .ret _, h => h
  | .ask i j k, h => InK.ev (t := k (lt i j)) (h.2.2 (lt i j))
def PermOk (n : Nat) (p : Array Nat) : Prop := p.toList.Perm (List.range n)
theorem PermOk.lt {n : Nat} {p : Array Nat} (h : PermOk n p) (hn : 0 < n) (i : Nat) : p.getD i 0 < n := by
  by_cases hi : i < p.size
  · have : p.getD i 0 ∈ p.toList := by
      simp [Array.getD, hi]
    exact List.mem_range.mp (h.mem_iff.mp this)
  · simp [Array.getD, hi, hn]
theorem PermOk.rev {n : Nat} {p : Array Nat} (h : PermOk n p) (i j : Nat) : PermOk n (kas_rev p i j) := (Array.perm_iff_toList_perm.mp (mirror_perm _ _ _ _)).trans h
/-- the order that sorted makes of n items by the answers lt -/
def sortP (lt : Nat → Nat → Bool) (n : Nat) : List Nat := if n < 2 then List.range n else (evK lt (kas_sort n)).toList
end L2

set_option Elab.async false
set_option linter.all false
set_option maxRecDepth 100000
/-! ### sorted(d.items()), sorted(d) of a dict of texts -/
namespace L2
open PySem PySem.Spec PyProof.Rows
section
variable {X : Cx} {pins : List (Addr × Obj)} {σ : List (Option V)} {H H' : Hp} {s : Shared} {h' : Heap}
end
def keyAt (m : List (Nm × Int)) (i : Nat) : Nm := (m.getD i ([], 0)).1
def ltN (m : List (Nm × Int)) (i j : Nat) : Bool := decide ((tx (keyAt m i)).cps.toList < (tx (keyAt m j)).cps.toList)
def layT (H : Hp) : List Addr → List (Nm × Int) → Hp
  | a :: as, y :: m => upd (layT H as m) a (.tup [.str (tx y.1), .int y.2])
  | _, _ => H
section
variable {prog : Program} {w : World} {A : Around} {E : Value → Shared → Prop} {z : Shared}
def pairObj (y : Nm × Int) (t u : Tok) : Obj := { cls := .type "tuple", data := .seq #[.str (tx y.1) t, .int y.2 u] }
end
def tSortI (to : TE) : TE := fun σ H Q => to σ H fun x H1 => ∃ (d : Addr) (m : List (Nm × Int)), x = .ref d ∧ Rd H1 d (.dK (kvNums m)) ∧ m.length < 64 ∧ (m.map (·.1)).Nodup ∧
  ∀ (l : Addr) (as : List Addr) (H2 : Hp), H1 l = none → as.length = m.length → Same H1 H2 → H2 l = some (.lst ((sortP (ltN m) m.length).map fun i => .ref (as.getD i 0))) → (∀ a ∈ as, H1 a = none ∧ a ≠ l) →
    (∀ (i : Nat) (a : Addr) (y : Nm × Int), as[i]? = some a → m[i]? = some y → H2 a = some (.tup [.str (tx y.1), .int y.2])) → Q (.ref l) H2
section
variable {X : Cx}
end
def ltT (ks : List Nm) (i j : Nat) : Bool := decide ((tx (ks.getD i [])).cps.toList < (tx (ks.getD j [])).cps.toList)
section
variable {X : Cx}
end
end L2

set_option Elab.async false
set_option linter.all false
set_option maxRecDepth 100000
/-! ### the web's values -/
namespace L2
open PySem PySem.Spec PyProof.Rows
def putN (m : List (Nm × Int)) (k : Nm) (v : Int) : List (Nm × Int) := if k ∈ m.map (·.1) then m.map (fun y => if y.1 = k then (y.1, v) else y) else m ++ [(k, v)]
def dropN (m : List (Nm × Int)) (k : Nm) : List (Nm × Int) := m.filter fun y => decide (y.1 ≠ k)
def lookN (m : List (Nm × Int)) (k : Nm) : Option Int := (m.find? fun y => decide (y.1 = k)).map (·.2)
/-- a thing's values -/
def WA.look (A : WA) (n : Nm) : Option (List (Nm × Int)) := (A.things.find? fun x => decide (x.1 = n)).map (·.2)
def WA.setv (A : WA) (n : Nm) (m : List (Nm × Int)) : WA := { A with things := A.things.map fun x => if x.1 = n then (x.1, m) else x }
def WA.setValue (A : WA) (n k : Nm) (v : Int) : Except Rf WA :=
  match A.look n with
  | none => .error .noThing
  | some m => if goodC k = false then .error .noName else if 10 ^ 60 ≤ v.natAbs then .error .noNumber else .ok (A.setv n (putN m k v))
def WA.takeValue (A : WA) (n k : Nm) : Except Rf WA :=
  match A.look n with
  | none => .error .noThing
  | some m => if k ∉ m.map (·.1) then .error .noKey else .ok (A.setv n (dropN m k))
def WS.setv (W : WS) (n : Nm) (m : List (Nm × Int)) : WS := { W with vals := W.vals.map fun x => if x.1 = n then (x.1, x.2.1, m) else x }
theorem WS.setv_own (W : WS) (n : Nm) (m : List (Nm × Int)) (p : Addr) : (W.setv n m).own p = W.own p := by
  unfold WS.setv WS.own
  simp only [List.map_map]
  congr 3
  refine List.map_congr_left fun x _ => ?_
  dsimp only [Function.comp]
  split <;> rfl
theorem WS.setv_names (W : WS) (n : Nm) (m : List (Nm × Int)) : (W.setv n m).vals.map (·.1) = W.vals.map (·.1) := by
  unfold WS.setv
  simp only [List.map_map]
  refine List.map_congr_left fun x _ => ?_
  dsimp only [Function.comp]
  split <;> rfl
theorem WebAt.setv {C : Addr} {H : Hp} {p : Addr} {W : WS} {x : Nm × Addr × List (Nm × Int)} {m : List (Nm × Int)} (w : WebAt C H p W) (hx : x ∈ W.vals) :
    WebAt C (upd H x.2.1 (.dK (kvNums m))) p (W.setv x.1 m) ∧ Step H (W.own p) (upd H x.2.1 (.dK (kvNums m))) ((W.setv x.1 m).own p) := by
  have hin : x.2.1 ∈ W.own p := by
    unfold WS.own
    exact List.mem_cons_of_mem _ (List.mem_cons_of_mem _ (List.mem_cons_of_mem _ (List.mem_map.mpr ⟨x, hx, rfl⟩)))
  have oth : ∀ b o, b ≠ x.2.1 → H b = some o → upd H x.2.1 (.dK (kvNums m)) b = some o := fun b o hb e => by
    rw [upd_ne hb]
    exact e
  have exx := w.each x hx
  have kv : kvVals (W.setv x.1 m).vals = kvVals W.vals := by
    unfold kvVals WS.setv
    simp only [List.map_map]
    refine List.map_congr_left fun y _ => ?_
    dsimp only [Function.comp]
    split <;> rfl
  have ad : (W.setv x.1 m).vals.map (·.2.1) = W.vals.map (·.2.1) := by
    unfold WS.setv
    simp only [List.map_map]
    refine List.map_congr_left fun y _ => ?_
    dsimp only [Function.comp]
    split <;> rfl
  refine ⟨⟨oth _ _ (ne_of w.obj exx (by intro z; cases z)) w.obj, ?_, oth _ _ (w.dtx hx).symm w.tie, fun y hy => ?_, fun y hy => oth _ _ (ne_of (w.tups y hy) exx (by intro z; cases z)) (w.tups y hy), ?_, ?_, w.nums, ?_, w.fewT⟩, ?_⟩
  · rw [kv]
    exact oth _ _ (w.dvx hx).symm w.val
  · unfold WS.setv at hy
    obtain ⟨z, hz, rfl⟩ := List.mem_map.mp hy
    by_cases e : z.1 = x.1
    · rw [if_pos e]
      have zx : z = x := by
        have := w.names
        obtain ⟨i, hi⟩ := List.mem_iff_getElem?.mp hz
        obtain ⟨j, hj⟩ := List.mem_iff_getElem?.mp hx
        have li := (List.getElem?_eq_some_iff.mp hi)
        have lj := (List.getElem?_eq_some_iff.mp hj)
        obtain ⟨li, ei⟩ := li
        obtain ⟨lj, ej⟩ := lj
        have ij : i = j := by
          refine (List.getElem_inj (h₀ := by rw [List.length_map]; exact li) (h₁ := by rw [List.length_map]; exact lj) this).mp ?_
          rw [List.getElem_map, List.getElem_map, ei, ej]
          exact e
        subst ij
        rw [← ei, ← ej]
      rw [zx]
      exact upd_same
    · rw [if_neg e]
      refine oth _ _ (fun q => e ?_) (w.each z hz)
      have nda := (List.nodup_cons.mp (List.nodup_cons.mp w.nd).2).2
      obtain ⟨i, hi⟩ := List.mem_iff_getElem?.mp hz
      obtain ⟨j, hj⟩ := List.mem_iff_getElem?.mp hx
      obtain ⟨li, ei⟩ := List.getElem?_eq_some_iff.mp hi
      obtain ⟨lj, ej⟩ := List.getElem?_eq_some_iff.mp hj
      have ij : i = j := by
        refine (List.getElem_inj (h₀ := by rw [List.length_map]; exact li) (h₁ := by rw [List.length_map]; exact lj) nda).mp ?_
        rw [List.getElem_map, List.getElem_map, ei, ej]
        exact q
      subst ij
      rw [← ei, ← ej]
  · rw [ad]
    exact w.nd
  · rw [WS.setv_names]
    exact w.names
  · unfold WS.setv
    dsimp only
    rw [List.length_map]
    exact w.few
  · rw [WS.setv_own]
    exact ⟨fun b o hb e => oth b o (fun z => hb (by rw [z]; exact hin)) e, fun b hb => .inl hb, fun b xs e => oth b _ (ne_of e exx (by intro z; cases z)) e⟩
end L2

set_option Elab.async false
set_option linter.all false
set_option maxRecDepth 100000
/-! ### a law's own web: things, values and ties in plain lists and dicts -/
namespace L2
open PySem PySem.Spec PyProof.Rows
abbrev Nums := List (Nm × Int)
def lookV (vs : List (Nm × Addr × Nums)) (n : Nm) : Option Nums := (vs.find? fun x => decide (x.1 = n)).map (·.2.2)
structure ValsAt (H : Hp) (g : Addr) (vs : List (Nm × Addr × Nums)) : Prop where
  at_ : H g = some (.dK (kvVals vs))
  each : ∀ x ∈ vs, H x.2.1 = some (.dK (kvNums x.2.2))
  nd : (g :: vs.map (·.2.1)).Nodup
  names : (vs.map (·.1)).Nodup
def ownV (g : Addr) (vs : List (Nm × Addr × Nums)) : List Addr := g :: vs.map (·.2.1)
theorem ValsAt.same {H H' : Hp} {g : Addr} {vs : List (Nm × Addr × Nums)} (h : ValsAt H g vs) (s : Same H H') : ValsAt H' g vs := ⟨s _ _ h.at_, fun x hx => s _ _ (h.each x hx), h.nd, h.names⟩
def setV (vs : List (Nm × Addr × Nums)) (n : Nm) (a : Option Addr) (m : Nums) : List (Nm × Addr × Nums) := vs.map fun x => if x.1 = n then (x.1, a.getD x.2.1, m) else x
theorem setV_names (vs : List (Nm × Addr × Nums)) (n : Nm) (a : Option Addr) (m : Nums) : (setV vs n a m).map (·.1) = vs.map (·.1) := by
  unfold setV
  rw [List.map_map]
  refine List.map_congr_left fun x _ => ?_
  dsimp only [Function.comp]
  split <;> rfl
theorem same_at {vs : List (Nm × Addr × Nums)} {α : Type} [DecidableEq α] {f : Nm × Addr × Nums → α} (nd : (vs.map f).Nodup) {x y : Nm × Addr × Nums} (hx : x ∈ vs) (hy : y ∈ vs) (e : f x = f y) : x = y := by
  obtain ⟨i, hi⟩ := List.mem_iff_getElem?.mp hx
  obtain ⟨j, hj⟩ := List.mem_iff_getElem?.mp hy
  obtain ⟨li, ei⟩ := List.getElem?_eq_some_iff.mp hi
  obtain ⟨lj, ej⟩ := List.getElem?_eq_some_iff.mp hj
  have ij : i = j := by
    refine (List.getElem_inj (h₀ := by rw [List.length_map]; exact li) (h₁ := by rw [List.length_map]; exact lj) nd).mp ?_
    rw [List.getElem_map, List.getElem_map, ei, ej]
    exact e
  subst ij
  rw [← ei, ← ej]
/-- a thing's own dict is written -/
theorem ValsAt.setv {H : Hp} {g : Addr} {vs : List (Nm × Addr × Nums)} {x : Nm × Addr × Nums} {m : Nums} (h : ValsAt H g vs) (hx : x ∈ vs) :
    ValsAt (upd H x.2.1 (.dK (kvNums m))) g (setV vs x.1 none m) ∧ Step H (ownV g vs) (upd H x.2.1 (.dK (kvNums m))) (ownV g (setV vs x.1 none m)) := by
  have ex := h.each x hx
  have hxg : x.2.1 ≠ g := fun z => (List.nodup_cons.mp h.nd).1 (by rw [← z]; exact List.mem_map.mpr ⟨x, hx, rfl⟩)
  have kv : kvVals (setV vs x.1 none m) = kvVals vs := by
    unfold kvVals setV
    rw [List.map_map]
    refine List.map_congr_left fun y _ => ?_
    dsimp only [Function.comp]
    split <;> rfl
  have ad : (setV vs x.1 none m).map (·.2.1) = vs.map (·.2.1) := by
    unfold setV
    rw [List.map_map]
    refine List.map_congr_left fun y _ => ?_
    dsimp only [Function.comp]
    split <;> rfl
  have nda := (List.nodup_cons.mp h.nd).2
  refine ⟨⟨?_, fun y hy => ?_, by rw [ad]; exact h.nd, by rw [setV_names]; exact h.names⟩, ?_⟩
  · rw [kv, upd_ne hxg.symm]
    exact h.at_
  · unfold setV at hy
    obtain ⟨z, hz, rfl⟩ := List.mem_map.mp hy
    by_cases e : z.1 = x.1
    · rw [if_pos e, same_at h.names hz hx e]
      exact upd_same
    · rw [if_neg e, upd_ne (fun q => e (by rw [same_at nda hz hx q]))]
      exact h.each z hz
  · unfold ownV
    rw [ad]
    refine ⟨fun b o hb e => ?_, fun b hb => .inl hb, fun b ys e => ?_⟩
    · rw [upd_ne (fun z => hb (by rw [z]; exact List.mem_cons_of_mem _ (List.mem_map.mpr ⟨x, hx, rfl⟩)))]
      exact e
    · rw [upd_ne (ne_of e ex (by intro z; cases z))]
      exact e
theorem ValsAt.own_some {H : Hp} {g : Addr} {vs : List (Nm × Addr × Nums)} (h : ValsAt H g vs) {b : Addr} (hb : b ∈ ownV g vs) : ∃ kvs, H b = some (.dK kvs) := by
  rcases List.mem_cons.mp hb with z | z
  · rw [z]
    exact ⟨_, h.at_⟩
  · obtain ⟨x, hx, rfl⟩ := List.mem_map.mp z
    exact ⟨_, h.each x hx⟩
theorem ValsAt.step {H H' : Hp} {g : Addr} {vs : List (Nm × Addr × Nums)} {F F' : List Addr} (h : ValsAt H g vs) (s : Step H F H' F') (d : ∀ b ∈ ownV g vs, b ∉ F) : ValsAt H' g vs :=
  ⟨s.off _ _ (d _ List.mem_cons_self) h.at_, fun x hx => s.off _ _ (d _ (List.mem_cons_of_mem _ (List.mem_map.mpr ⟨x, hx, rfl⟩))) (h.each x hx), h.nd, h.names⟩
structure RowsAt (H : Hp) (r : Addr) (rs : List (Int × Addr × Tie)) : Prop where
  at_ : H r = some (.dK (kvTies rs))
  tups : ∀ x ∈ rs, H x.2.1 = some (.tup (tieV x.2.2))
def plain (rs : List (Int × Addr × Tie)) : List (Int × Tie) := rs.map fun x => (x.1, x.2.2)
structure TieOk (x : Tie) : Prop where
  s : okT x.start
  n : okT x.name
  e : okT x.stop
theorem RowsAt.keep {H H' : Hp} {r : Addr} {rs : List (Int × Addr × Tie)} (h : RowsAt H r rs) (e : H' r = H r) (k : ∀ b xs, H b = some (.tup xs) → H' b = some (.tup xs)) : RowsAt H' r rs := ⟨e.trans h.at_, fun x hx => k _ _ (h.tups x hx)⟩
theorem RowsAt.same {H H' : Hp} {r : Addr} {rs : List (Int × Addr × Tie)} (h : RowsAt H r rs) (s : Same H H') : RowsAt H' r rs := ⟨s _ _ h.at_, fun x hx => s _ _ (h.tups x hx)⟩
end L2

set_option Elab.async false
set_option linter.all false
set_option maxRecDepth 100000
namespace L2
open PySem PySem.Spec PyProof.Rows
theorem Step.frame {H H' : Hp} {F F' : List Addr} (s : Step H F H' F') (G : List Addr) : Step H (G ++ F) H' (G ++ F') :=
  ⟨fun b o hb e => s.off b o (fun z => hb (List.mem_append_right _ z)) e, fun b hb => by
    rcases List.mem_append.mp hb with z | z
    · exact .inl (List.mem_append_left _ z)
    · rcases s.own b z with y | y
      · exact .inl (List.mem_append_right _ y)
      · exact .inr y, s.tup⟩
theorem Step.at {H : Hp} {F : List Addr} {b : Addr} {o o' : HO} (hb : b ∈ F) (e : H b = some o) (ht : ∀ xs, o ≠ .tup xs) : Step H F (upd H b o') F :=
  ⟨fun c u hc h => by rw [upd_ne (fun z => hc (by rw [z]; exact hb))]; exact h, fun c h => .inl h, fun c ys h => by
    rw [upd_ne (fun z => by rw [z, e] at h; exact ht ys (Option.some.inj h))]
    exact h⟩
/-- a law's own web: names, values, ties, the number that comes, in a list of four -/
structure Mn where
  b0 : Addr
  g : Addr
  r : Addr
  ns : List Nm
  vs : List (Nm × Addr × Nums)
  rs : List (Int × Addr × Tie)
  c : Int
def Mn.abs (M : Mn) : WA := ⟨M.ns.map fun n => (n, (lookV M.vs n).getD []), plain M.rs, M.c⟩
def Mn.own (M : Mn) (mm : Addr) : List Addr := [mm, M.b0, M.r] ++ ownV M.g M.vs
structure MineAt (H : Hp) (mm : Addr) (M : Mn) : Prop where
  at_ : H mm = some (.lst [.ref M.b0, .ref M.g, .ref M.r, .int M.c])
  lst : H M.b0 = some (.lst (M.ns.map fun z => .str (tx z)))
  vals : ValsAt H M.g M.vs
  rows : RowsAt H M.r M.rs
  mb : mm ≠ M.b0
  rg : M.r ∉ ownV M.g M.vs
  sub : ∀ n ∈ M.ns, n ∈ M.vs.map (·.1)
  nd : M.ns.Nodup
theorem Mn.names (M : Mn) : M.abs.names = M.ns := by
  unfold WA.names Mn.abs
  rw [List.map_map]
  exact List.map_id _
theorem Mn.look (M : Mn) (n : Nm) : M.abs.look n = if n ∈ M.ns then some ((lookV M.vs n).getD []) else none := by
  unfold WA.look Mn.abs
  dsimp only
  rw [List.find?_map]
  by_cases h : n ∈ M.ns
  · rw [if_pos h]
    have : M.ns.find? ((fun x : Nm × Nums => decide (x.1 = n)) ∘ fun n => (n, (lookV M.vs n).getD [])) = some n := by
      obtain ⟨x, e, _, ex⟩ := find_some (f := fun z : Nm => z) (b := n) (l := M.ns) (by rw [List.map_id']; exact h)
      rw [show ((fun x : Nm × Nums => decide (x.1 = n)) ∘ fun n => (n, (lookV M.vs n).getD [])) = fun z => decide (z = n) from rfl, e, ex]
    rw [this]
    rfl
  · rw [if_neg h]
    have : M.ns.find? ((fun x : Nm × Nums => decide (x.1 = n)) ∘ fun n => (n, (lookV M.vs n).getD [])) = none := by
      rw [List.find?_eq_none]
      intro x hx z
      exact h (by rw [← of_decide_eq_true z]; exact hx)
    rw [this]
    rfl
theorem MineAt.same {H H' : Hp} {mm : Addr} {M : Mn} (h : MineAt H mm M) (s : Same H H') : MineAt H' mm M := ⟨s _ _ h.at_, s _ _ h.lst, h.vals.same s, h.rows.same s, h.mb, h.rg, h.sub, h.nd⟩
theorem MineAt.lv {H : Hp} {mm : Addr} {M : Mn} (h : MineAt H mm M) {b : Addr} (hb : b ∈ ownV M.g M.vs) : b ≠ mm ∧ b ≠ M.b0 := by
  obtain ⟨kvs, e⟩ := h.vals.own_some hb
  exact ⟨ne_of e h.at_ (by intro z; cases z), ne_of e h.lst (by intro z; cases z)⟩
theorem MineAt.rv {H : Hp} {mm : Addr} {M : Mn} (h : MineAt H mm M) : M.r ≠ mm ∧ M.r ≠ M.b0 := ⟨ne_of h.rows.at_ h.at_ (by intro z; cases z), ne_of h.rows.at_ h.lst (by intro z; cases z)⟩
/-- a change of the names alone -/
theorem MineAt.named {H : Hp} {mm : Addr} {M : Mn} {ns' : List Nm} (h : MineAt H mm M) (sub : ∀ n ∈ ns', n ∈ M.vs.map (·.1)) (nd : ns'.Nodup) :
    MineAt (upd H M.b0 (.lst (ns'.map fun z => .str (tx z)))) mm { M with ns := ns' } ∧ Step H (M.own mm) (upd H M.b0 (.lst (ns'.map fun z => .str (tx z)))) (Mn.own { M with ns := ns' } mm) := by
  have o1 : ∀ b, b ≠ M.b0 → ∀ o, H b = some o → upd H M.b0 (.lst (ns'.map fun z => .str (tx z))) b = some o := fun b hb o e => by
    rw [upd_ne hb]
    exact e
  refine ⟨⟨o1 _ h.mb _ h.at_, upd_same, ⟨o1 _ (h.lv List.mem_cons_self).2 _ h.vals.at_, fun x hx => o1 _ (h.lv (List.mem_cons_of_mem _ (List.mem_map.mpr ⟨x, hx, rfl⟩))).2 _ (h.vals.each x hx), h.vals.nd, h.vals.names⟩, h.rows.keep ?_ fun b xs e => o1 b (ne_of e h.lst (by intro z; cases z)) _ e, h.mb, h.rg, sub, nd⟩, Step.at (by unfold Mn.own; simp) h.lst (by intro xs z; cases z)⟩
  rw [h.rows.at_]
  exact o1 _ h.rv.2 _ h.rows.at_
end L2

set_option Elab.async false
set_option linter.all false
set_option maxRecDepth 100000
namespace L2
open PySem
theorem ite_both {A B : Prop} {c : Prop} [Decidable c] (h1 : c → A) (h2 : ¬ c → B) : if c then A else B := by
  by_cases h : c
  · rw [if_pos h]
    exact h1 h
  · rw [if_neg h]
    exact h2 h
/-- a row of figures below 26 is a text of small letters -/
theorem comp_word {K : PySem.W.Frag} {H1 : Hp} {r : Addr} {js : List Int} {fr : List Nat} {σ : St} {te : TE} {Q : VK} (h : SqL K H1 r (js.map V.int)) (hj : ∀ j ∈ js, 0 ≤ j ∧ j < 26) (hl : js.length ≤ 100)
    (he : ∀ j H2 Q2, rIxS (.str (tx abc)) (.int j) H2 Q2 → te (stB1 (.int j) fr σ) H2 Q2)
    (hQ : ∀ D H2, H1 D = none → Same H1 H2 → SqL K H2 D ((js.map fun j => [letC j]).map fun l => V.str (tx l)) → Q (.ref D) H2) : CompR (Itl K r) H1 fr σ tYes te Q := by
  refine comp_map (tells_list h) (fun j => .str (tx [letC j])) (sz_of (by omega)) (fun j H2 Q2 hm s k => he j H2 Q2 ?_) fun D H2 hD s d => hQ D H2 hD s (SqL.of (by rw [List.map_map]; exact d))
  obtain ⟨h0, h1⟩ := hj j hm
  refine rd_sign (by decide) h0 (by show j < 26; exact h1) fun c hc => ?_
  have e := let_at j
  rw [show j % 26 = j by omega] at e
  rw [e] at hc
  cases hc
  exact k _ (Same.refl _)
theorem word_flat (js : List Int) : (js.map fun j => [letC j]).flatten = js.map letC := by
  induction js with
  | nil => rfl
  | cons j r ih => simp [ih]
theorem word_sum (js : List Int) : ((js.map fun j => [letC j]).map List.length).sum = js.length := by
  induction js with
  | nil => rfl
  | cons j r ih =>
    simp only [List.map_cons, List.sum_cons, List.length_cons, List.length_nil] at ih ⊢
    omega
theorem word_abc (js : List Int) : ∀ x ∈ js.map letC, x ∈ abc := fun x hx => by
  obtain ⟨j, _, rfl⟩ := List.mem_map.mp hx
  exact List.mem_of_getElem? (let_at j)
theorem ixN_nat {n : Nat} {i : Int} (h0 : 0 ≤ i) (h1 : i < n) : ixN n i = some i.toNat := by
  unfold ixN
  rw [if_pos h0, if_pos h1]
theorem atI_any {α : Type} {xs : List α} {i : Int} (h0 : -(xs.length : Int) ≤ i) (h1 : i < xs.length) : ∃ v, atI xs i = some v ∧ v ∈ xs := by
  have at_ : ∀ j : Nat, j < xs.length → ∃ v, (xs[j]? = some v) ∧ v ∈ xs := fun j hj => ⟨xs[j], by simp [hj], List.getElem_mem hj⟩
  unfold atI ixN
  by_cases z : 0 ≤ i
  · rw [if_pos z, if_pos h1]
    exact at_ _ (by omega)
  · rw [if_neg z, if_pos h0]
    exact at_ _ (by omega)
end L2
namespace L2
open PySem PySem.Spec PyProof.Rows
section
set_option maxHeartbeats 4000000
variable {X : Cx}
/-- list + list, where one may be the script's own -/
def rCatK (K : PySem.W.Frag) : R2 := fun x y H Q => ∃ l b xs zs, x = .ref l ∧ y = .ref b ∧ SqL K H l xs ∧ SqL K H b zs ∧ xs.length + zs.length ≤ sizeLine ∧ ∀ p, H p = none → Q (.ref p) (upd H p (.lst (xs ++ zs)))
theorem op_catK (K : PySem.W.Frag) (hK : X.K = K := by rfl) : OpR X (binaryOp .Add) (rCatK K) := by
  subst hK
  rintro pins s σ H x y v u Q I rx ry ⟨l, b, xs, zs, rfl, rfl, hl, hb, hz, q⟩
  cases rx
  cases ry
  obtain ⟨vs, r1, p1, _⟩ := I.list hl
  obtain ⟨ws, r2, p2, _⟩ := I.list hb
  obtain ⟨⟨c1, d1, t1, sl1⟩, n1, g1, e1, f1, h1⟩ := p1
  obtain ⟨⟨c2, d2, t2, sl2⟩, n2, g2, e2, f2, h2⟩ := p2
  simp only at e1 h1 e2 h2 f1 f2
  subst e1 h1 e2 h2 f1 f2
  have both : vs.toArray ++ ws.toArray = (vs ++ ws).toArray := by simp
  have len : vs.toArray.size + ws.toArray.size ≤ sizeLine := by
    simp only [List.size_toArray, ← r1.length, ← r2.length]
    exact hz
  refine concat_meets ⟨_, g1, rfl⟩ ⟨_, g2, rfl⟩ noFill_list_add seq_list_add PySem.F.slot_list_add
    PySem.F.entry_list_add (PySem.F.args_list_add_2 _ _) (list_addW _ _ _ _ n1 n2 none none sl1 sl2 len) ⟨g1, g2, ?_⟩
  rw [both]
  exact ⟨.ref _, _, I.lnew (t' := s.toks) (r1.append r2) (by rw [List.length_append]; omega), rfl, q _ I.fresh⟩
end
end L2

set_option Elab.async false
set_option linter.all false
set_option maxRecDepth 100000
set_option maxHeartbeats 4000000
namespace K22
open PySem L2
def top (i : Nat) : Stmt := PySem.Challenge.pw_tieseek_k22_one_step_fits.main.body.getD i (.Pass ⟨0, 0, 0, 0⟩)
abbrev s_weight_meets : Stmt := top 2
abbrev s_fits : Stmt := top 3
abbrev s_l_cell_at : Stmt := top 5
abbrev s_l_mixed : Stmt := top 6
abbrev s_l_names : Stmt := top 7
abbrev s_l_base : Stmt := top 8
abbrev s_l_number : Stmt := top 9
abbrev s_l_mark_by : Stmt := top 10
abbrev s_l_step_by : Stmt := top 11
abbrev s_l_fit : Stmt := top 12
abbrev s_l_near_by : Stmt := top 13
abbrev s_law : Stmt := top 14
def v_ANY_NAME : Str := "_"
theorem cs0 : Str.ofString "<" = tx [60] := by decide +kernel
theorem cs1 : Str.ofString ">" = tx [62] := by decide +kernel
theorem cs2 : Str.ofString "=" = tx [61] := by decide +kernel
theorem cs3 : Str.ofString "!" = tx [33] := by decide +kernel
theorem cs4 : Str.ofString "abcdefghijklmnopqrstuvwxyz" = tx [97, 98, 99, 100, 101, 102, 103, 104, 105, 106, 107, 108, 109, 110, 111, 112, 113, 114, 115, 116, 117, 118, 119, 120, 121, 122] := by decide +kernel
theorem cs5 : Str.ofString "" = tx [] := by decide +kernel
theorem cs6 : Str.ofString "mark" = tx [109, 97, 114, 107] := by decide +kernel
theorem cs7 : Str.ofString "_" = tx [95] := by decide +kernel
theorem cv_ANY_NAME : v_ANY_NAME = tx [95] := by decide +kernel
local macro_rules | `(tactic| walk_at "rd") => `(tactic| simp only [L2.start, tVar, tC, tOp, tUn, tCB, tCons, tNil, tRet, tRetN, tDrop, tSeq, tNext, tBreak, tCont, tIfS, tTest, tB, tAnd, tOr, tNot, tAndV, tOrV, tNotV, tIf, tChain, tCall, tMeth, tMake, tTup, tLst, tAsg, gName, tSl, tPart, tNoPart, tBM, tBM0, rI, rI0, rU, List.map_cons, List.map_nil, List.length_cons, List.length_nil, List.replicate, List.cons_append, List.nil_append, List.append_nil, List.getElem?_cons_zero, List.getElem?_cons_succ, List.set_cons_zero, List.set_cons_succ, Option.some.injEq, V.int.injEq, V.str.injEq, V.bl.injEq, V.ref.injEq, V.ty.injEq, List.cons.injEq, and_true, true_and, exists_and_left, exists_eq_left', exists_eq_left, decide_eq_true_eq, Nat.sub_self, Nat.reduceSub, Nat.reduceAdd, tx_len, reduceCtorEq, false_and, exists_false, if_false, if_true, Bool.false_eq_true, and_assoc, stB1, Option.join, Option.bind_some, id_eq, rEq, rNe, scal, cxOf_K, tBetw, tBetwT, rStarts, rFind, Bool.not_eq_true', decide_eq_false_iff_not, Bool.not_true, Bool.not_false, not_true_eq_false, not_false_eq_true, tNever, tIsN, tNotN, decide_true, decide_false, rTo, rFr, tx_list, tx_app, starts1, tx_inj, CDiv, CPow, tyV_str, cxH_K, Int.reduceLT, Int.reduceLE, Int.reducePow, Nat.reduceLT, Nat.reduceLeDiff, Int.reduceToNat, Int.reduceNeg, Nat.reducePow, tRaise, xSeq, rIsX, rIsV, tFld, sFld, tDGet, tDIn, tDNotIn, sDPut, sDDel, tDNewK, tDGet1, tDPop1, rAppend, tTry, rMulS, rCount, rIndex, rRemove, rEqD, rNeD, Dthaw, tLstC, rCat, rCatK, tRepl, cs0, cs1, cs2, cs3, cs4, cs5, cs6, cs7, cv_ANY_NAME, gSub, rSetL])
local macro_rules | `(tactic| walk_at "rs") => `(tactic| simp only [L2.start, List.map_cons, List.map_nil, List.length_cons, List.length_nil, List.replicate, List.cons_append, List.nil_append, List.append_nil, Nat.sub_self, Nat.reduceSub, Nat.reduceAdd, cxOf_K, cxH_K])
local macro_rules | `(tactic| walk_at "rg") => `(tactic| simp only [gName, List.set_cons_zero, List.set_cons_succ])
structure Ad where
  a_weight_meets : Addr
  d_weight_meets : FuncData
  a_fits : Addr
  d_fits : FuncData
  a_l_cell_at : Addr
  d_l_cell_at : FuncData
  a_l_mixed : Addr
  d_l_mixed : FuncData
  a_l_names : Addr
  d_l_names : FuncData
  a_l_base : Addr
  d_l_base : FuncData
  a_l_number : Addr
  d_l_number : FuncData
  a_l_mark_by : Addr
  d_l_mark_by : FuncData
  a_l_step_by : Addr
  d_l_step_by : FuncData
  a_l_fit : Addr
  d_l_fit : FuncData
  a_l_near_by : Addr
  d_l_near_by : FuncData
structure Txt (K : PySem.W.Frag) (mg : Str → Option Value) (t : Ad) : Prop where
  weight_meets : DefOk K mg "weight_meets" s_weight_meets ["weight", "sign", "number"] t.a_weight_meets t.d_weight_meets
  fits : DefOk K mg "fits" s_fits ["mark", "step"] t.a_fits t.d_fits
  l_cell_at : DefOk K mg "_law_cell_at" s_l_cell_at ["script", "k"] t.a_l_cell_at t.d_l_cell_at
  l_mixed : DefOk K mg "_law_mixed" s_l_mixed ["cell"] t.a_l_mixed t.d_l_mixed
  l_names : DefOk K mg "_law_names" s_l_names ["cell"] t.a_l_names t.d_l_names
  l_base : DefOk K mg "_law_base" s_l_base ["cell"] t.a_l_base t.d_l_base
  l_number : DefOk K mg "_law_number" s_l_number ["cell", "turn", "base"] t.a_l_number t.d_l_number
  l_mark_by : DefOk K mg "_law_mark_by" s_l_mark_by ["cell", "names", "base"] t.a_l_mark_by t.d_l_mark_by
  l_step_by : DefOk K mg "_law_step_by" s_l_step_by ["cell", "names", "base"] t.a_l_step_by t.d_l_step_by
  l_fit : DefOk K mg "_law_fit" s_l_fit ["mark", "step"] t.a_l_fit t.d_l_fit
  l_near_by : DefOk K mg "_law_near_by" s_l_near_by ["cell", "mark", "names", "base"] t.a_l_near_by t.d_l_near_by
  c_ANY_NAME : ∃ u, mg "ANY_NAME" = some u ∧ RelV (.str v_ANY_NAME) u
  b_len : mg "len" = none
  b_isinstance : mg "isinstance" = none
  b_bool : mg "bool" = none
  b_range : mg "range" = none
  b_list : mg "list" = none
def GoodN (l : List Nat) : Prop := 1 ≤ l.length ∧ l.length ≤ 12 ∧ ∀ x ∈ l, x ∈ abc
def NamesAt (H : Hp) (p : Addr) (ns : List (List Nat)) : Prop := H p = some (.lst (ns.map fun l => .str (tx l))) ∧ ns.length = 4 ∧ ∀ l ∈ ns, GoodN l
def halfB (n : Int) : Prop := n.natAbs ≤ 500000000000000000000000000000000000000000000000000000000000
structure Stp where
  nm : List Nat
  wt : Int
  back : Bool
def stV (s : Stp) : List V := [.str (tx s.nm), .int s.wt, .bl s.back]
structure StpW (s : Stp) : Prop where
  nm : GoodN s.nm
  wt : s.wt.natAbs < 10 ^ 60
def meetC (w : Int) (sg : List Nat) (n : Int) : Bool := if sg = [60] then decide (w < n) else if sg = [62] then decide (w > n) else if sg = [61] then decide (w = n) else if sg = [33] then !decide (w = n) else true
def fitC (m : Mrk) (s : Stp) : Bool := decide (s.back = m.back) && (decide (m.nm = [95]) || decide (m.nm = s.nm)) && meetC s.wt m.sg m.num
def sp_l_cell_at (K : PySem.W.Frag) : Sp := fun vs H Q _ => ∃ (a : Addr) (ns : List Int) (k : Int), vs = [.ref a, .int k] ∧ SqL K H a (ns.map V.int) ∧ 0 ≤ k ∧ ∀ c, Q (.int c) H
def sp_l_mixed : Sp := fun vs H Q _ => ∃ c, vs = [.int c] ∧ ∀ m : Int, 0 ≤ m → m < 2147483629 → Q (.int m) H
def sp_l_names : Sp := fun vs H Q _ => ∃ c, vs = [.int c] ∧ ∀ p H' ns, H p = none → Same H H' → NamesAt H' p ns → Q (.ref p) H'
def sp_l_base : Sp := fun vs H Q _ => ∃ c, vs = [.int c] ∧ ∀ n : Int, halfB n → Q (.int n) H
def sp_l_number : Sp := fun vs H Q _ => ∃ c t b, vs = [.int c, .int t, .int b] ∧ halfB b ∧ ∀ n : Int, n.natAbs < 10 ^ 60 → Q (.int n) H
def sp_l_mark_by : Sp := fun vs H Q _ => ∃ c a ns b, vs = [.int c, .ref a, .int b] ∧ NamesAt H a ns ∧ halfB b ∧ ∀ m p H', MrkW m → H p = none → Same H H' → H' p = some (.tup (mkV m)) → Q (.ref p) H'
def sp_l_step_by : Sp := fun vs H Q _ => ∃ c a ns b, vs = [.int c, .ref a, .int b] ∧ NamesAt H a ns ∧ halfB b ∧ ∀ m p H', StpW m → H p = none → Same H H' → H' p = some (.tup (stV m)) → Q (.ref p) H'
def sp_weight_meets : Sp := fun vs H Q _ => ∃ w sg n, vs = [.int w, .str (tx sg), .int n] ∧ Q (.bl (meetC w sg n)) H
def sp_fits : Sp := fun vs H Q _ => ∃ a b m sp, vs = [.ref a, .ref b] ∧ H a = some (.tup (mkV m)) ∧ H b = some (.tup (stV sp)) ∧ Q (.bl (fitC m sp)) H
def sp_l_fit : Sp := fun vs H Q _ => ∃ a b m sp, vs = [.ref a, .ref b] ∧ H a = some (.tup (mkV m)) ∧ H b = some (.tup (stV sp)) ∧ MrkW m ∧ ∀ H', Same H H' → Q (.bl (fitC m sp)) H'
def sp_l_near_by : Sp := fun vs H Q _ => ∃ c d a ns b m, vs = [.int c, .ref d, .ref a, .int b] ∧ NamesAt H a ns ∧ halfB b ∧ H d = some (.tup (mkV m)) ∧ MrkW m ∧ ∀ s p H', H p = none → Same H H' → H' p = some (.tup (stV s)) → Q (.ref p) H'
section
variable {P : Program} {w : World} {K : PySem.W.Frag} {mg : Str → Option Value} {base : Heap} {t : Ad}
theorem sc_l_cell_at : FnScope ["script", "k"] ["script", "k"] (defScope s_l_cell_at) := ⟨rfl, rfl, rfl, by decide +kernel, rfl, by decide +kernel, by decide +kernel⟩
theorem ok_l_cell_at (T : Txt K mg t) : FnOk P w K mg base (CX1 P w) 1 t.a_l_cell_at t.d_l_cell_at ["script", "k"] (sp_l_cell_at K) := by
  refine T.l_cell_at.fn.okN sc_l_cell_at (fun vs H Q E h => ?_) (fun cdv A outer s H vs Q E hr h => ?_)
  · obtain ⟨a, ns, k0, rfl, hs, h0, k⟩ := h
    rfl
  · obtain ⟨a, ns, k0, rfl, hs, h0, k⟩ := h
    refine ⟨_, Bx.un (bpss_cons (bps_if (bpt_cmpR op_lt (bpv 1) (bpe_callB call_len_seq (by rfl) T.b_len PySem.boot_len (bpa_cons (bpv 0) bpa_nil)) (nomark _))
      (bpss_one (bps_ret (bpe_ixA ix_list (bpv 0) (bpv 1))))
      bpss_nil)
      (bpss_one (bps_ret bpe_int))), ?_⟩
    walk_at "rd"
    refine ⟨_, .inl hs, ?_⟩
    rw [List.length_map]
    split
    · rename_i h
      obtain ⟨v, e1, e2⟩ := atI_in (xs := ns.map V.int) h0 (by rw [List.length_map]; exact h)
      obtain ⟨z, _, rfl⟩ := map_get e2
      exact ⟨a, _, _, _, rfl, rfl, hs, e1, k z⟩
    · exact k 0
theorem sc_l_mixed : FnScope ["cell"] ["cell"] (defScope s_l_mixed) := ⟨rfl, rfl, rfl, by decide +kernel, rfl, by decide +kernel, by decide +kernel⟩
theorem ok_l_mixed (T : Txt K mg t) : FnOk P w K mg base (CX1 P w) 1 t.a_l_mixed t.d_l_mixed ["cell"] (sp_l_mixed) := by
  refine T.l_mixed.fn.okN sc_l_mixed (fun vs H Q E h => ?_) (fun cdv A outer s H vs Q E hr h => ?_)
  · obtain ⟨c, rfl, k⟩ := h
    rfl
  · obtain ⟨c, rfl, k⟩ := h
    refine ⟨_, Bx.un (bpss_one (bps_ret (bpe_op op_mod (bpe_op op_add (bpe_op op_mul (bpe_op op_mod (bpv 0) (bpe_op op_pow bpe_int bpe_int)) bpe_int) bpe_int) bpe_int))), ?_⟩
    walk_at "rd"
    refine ⟨by decide, .inr ⟨by decide, by decide⟩, ?_⟩
    generalize c % 1000000000000000000000000000000000000000000000000000000000000 * 48271 + 12345 = z
    exact k _ (by omega) (by omega)
theorem sc_l_names : FnScope ["cell", "letters", "spread", "size", "base", "at", "names", "turn", "row"] ["cell"] (defScope s_l_names) := ⟨rfl, rfl, rfl, by decide +kernel, rfl, by decide +kernel, by decide +kernel⟩
theorem ok_l_names (T : Txt K mg t) : FnOk P w K mg base (CX1 P w) 1 t.a_l_names t.d_l_names ["cell"] (sp_l_names) := by
  refine T.l_names.fn.okN sc_l_names (fun vs H Q E h => ?_) (fun cdv A outer s H vs Q E hr h => ?_)
  · obtain ⟨c, rfl, k⟩ := h
    rfl
  · obtain ⟨c, rfl, k⟩ := h
    refine ⟨_, Bx.un (bpss_cons (bps_set (i := 1) sc_l_names.nd rfl (by first | exact Or.inl rfl | exact Or.inr rfl) bpe_str)
      (bpss_cons (bps_set (i := 2) sc_l_names.nd rfl (by first | exact Or.inl rfl | exact Or.inr rfl) (bpe_op op_mod (bpv 0) (bpe_op op_pow bpe_int bpe_int)))
      (bpss_cons (bps_set (i := 3) sc_l_names.nd rfl (by first | exact Or.inl rfl | exact Or.inr rfl) (bpe_op op_add bpe_int (bpe_op op_mod (bpv 2) bpe_int)))
      (bpss_cons (bps_setC (i := 4) sc_l_names.nd rfl (by first | exact Or.inl rfl | exact Or.inr rfl) rfl (N := ["k", "spread"]) (fr := [2]) (CSc.of (by kernel_rfl)) (bpi_range1 rfl T.b_range (bpa_cons (bpv 3) bpa_nil)) (fun _ _ _ _ _ => bpts_nil)
        (fun _ _ _ _ _ => (bpe_op op_mod (bpe_op op_add (bpe_op op_fdiv (bpv 1) bpe_int) (bpe_op op_mul (bpe_op op_mod (bpe_op op_fdiv (bpv 1) bpe_int) bpe_int) (bpv 0))) bpe_int)))
      (bpss_cons (bps_set (i := 5) sc_l_names.nd rfl (by first | exact Or.inl rfl | exact Or.inr rfl) (bpe_op op_mod (bpe_op op_fdiv (bpv 2) bpe_int) (bpv 3)))
      (bpss_cons (bps_set (i := 6) sc_l_names.nd rfl (by first | exact Or.inl rfl | exact Or.inr rfl) (bpe_lst bpa_nil))
      (bpss_cons (bps_for PassesOwn.never rfl (bpi_range1 rfl T.b_range (bpa_cons bpe_int bpa_nil)) (bpg_name (i := 7) sc_l_names.nd rfl (by first | exact Or.inl rfl | exact Or.inr rfl))
      (bpss_cons (bps_set (i := 8) sc_l_names.nd rfl (by first | exact Or.inl rfl | exact Or.inr rfl) (bpe_callTy call_list_of (by rfl) T.b_list PyProof.Rows.boot_list (bpa_cons (bpv 4) bpa_nil)))
      (bpss_cons (bps_asg (bpe_op op_mod (bpe_op op_add (bpe_ixA ix_list (bpv 4) (bpv 5)) (bpe_op op_mul (bpv 7) (bpe_op op_add bpe_int (bpe_op op_mod (bpe_op op_fdiv (bpv 2) bpe_int) bpe_int)))) bpe_int) (bpg_sub (bpv 8) (bpv 5) set_list))
      (bpss_one (bps_expr (bpe_bm PySem.F.plainAttrs_list PySem.F.slot_list_append PySem.F.type_list_append mt_append (bpv 6) (bpa_cons (bpe_bm PySem.F.plainAttrs_str PySem.F.slot_str_join PySem.F.type_str_join mt_join bpe_str (bpa_cons (bpe_comp rfl (N := ["k", "letters"]) (fr := [1]) (CSc.of (by kernel_rfl)) (bpi_list (bpv 8)) (fun _ _ _ _ _ => bpts_nil)
        (fun _ _ _ _ _ => (bpe_ixA ix_str (bpv 1) (bpv 0)))) bpa_nil)) bpa_nil)))))))
      (bpss_cons (bps_expr (bpe_bm PySem.F.plainAttrs_list PySem.F.slot_list_append PySem.F.type_list_append mt_append (bpv 6) (bpa_cons (bpe_op op_add_str (bpe_ixA ix_list (bpv 6) bpe_int) (bpe_ixA ix_str (bpv 1) (bpe_op op_mod (bpe_op op_fdiv (bpv 2) bpe_int) bpe_int))) bpa_nil)))
      (bpss_one (bps_ret (bpv 6))))))))))), ?_⟩
    walk_at "rs"
    refine seq_rule fun N hN => ?_
    walk_at "rd"
    refine hN _ _ ?_
    clear hN N
    refine seq_rule fun N hN => ?_
    walk_at "rd"
    refine ⟨by decide, hN _ _ ?_⟩
    clear hN N
    generalize c % 1000000000 = n
    refine seq_rule fun N hN => ?_
    walk_at "rd"
    refine hN _ _ ?_
    clear hN N
    obtain ⟨sz, hsz, z1, z2⟩ : ∃ sz : Int, 1 + n % 11 = sz ∧ 1 ≤ sz ∧ sz ≤ 11 := ⟨_, rfl, by omega, by omega⟩
    rw [hsz]
    refine seq_rule fun N hN => ?_
    walk_at "rd"
    refine ⟨_, rfl, _, rfl, by omega, by omega, comp_map (tells_range (n := sz.toNat)) (fun j => .int ((n / 121 + n / 3146 % 3 * (0 + (j : Int))) % 26)) (sz_of (by rw [List.length_range]; omega)) (fun j H2 Q2 _ _ h => ?_) fun bs H1 hbs s1 d1 => hN _ _ ?_⟩
    · walk_at "rd"
      exact ⟨.inl (by omega), h _ (Same.refl _)⟩
    clear hN N
    obtain ⟨js, e1, ljs, ojs⟩ : ∃ js : List Int, H1 bs = some (.lst (js.map V.int)) ∧ js.length = sz.toNat ∧ ∀ j ∈ js, 0 ≤ j ∧ j < 26 := by
      refine ⟨(List.range sz.toNat).map fun (j : Nat) => (n / 121 + n / 3146 % 3 * (0 + (j : Int))) % 26, by rw [List.map_map]; exact d1, by simp, fun j hj => ?_⟩
      obtain ⟨x, _, rfl⟩ := List.mem_map.mp hj
      omega
    clear d1
    refine seq_rule fun N hN => ?_
    walk_at "rd"
    refine ⟨by omega, hN _ _ ?_⟩
    clear hN N
    obtain ⟨at_, hat, a1, a2⟩ : ∃ at_ : Int, n / 11 % sz = at_ ∧ 0 ≤ at_ ∧ at_ < sz := ⟨_, rfl, Int.emod_nonneg _ (by omega), Int.emod_lt_of_pos _ (by omega)⟩
    rw [hat]
    clear hat hsz
    refine seq_rule fun N hN => ?_
    walk_at "rd"
    refine ⟨Nat.zero_le _, fun ps hps => hN _ _ ?_⟩
    clear hN N
    have n1 : Same H1 (upd H1 ps (.lst [])) := Same.new hps
    have e2 := n1 _ _ e1
    have s2 := s1.trans n1
    have hps0 := s1.free hps
    have nbp : bs ≠ ps := fun z => by rw [← z, e1] at hps; cases hps
    have p2 : upd H1 ps (.lst []) ps = some (.lst []) := upd_same
    generalize upd H1 ps (.lst []) = H2 at e2 s2 p2
    clear e1 n1
    refine seq_rule fun N hN => ?_
    refine ⟨_, rfl, by decide, by decide, for_range (n := 3) (lo := 0) (fun i σ H3 => ∃ v v' ls, σ = [some (.int c), some (.str (tx abc)), some (.int n), some (.int sz), some (.ref bs), some (.int at_), some (.ref ps), v, v'] ∧ Same H H3 ∧ H3 bs = some (.lst (js.map V.int)) ∧ H3 ps = some (.lst (ls.map fun l => .str (tx l))) ∧ ls.length = i ∧ ∀ l ∈ ls, l.length = sz.toNat ∧ ∀ x ∈ l, x ∈ abc)
      ⟨none, none, [], rfl, s2, e2, p2, rfl, fun l hl => nomatch hl⟩ ?_ ?_⟩
    · rintro i σ H3 hi ⟨v, v', ls, rfl, s3, b3, p3, ll, lo⟩
      clear hN
      refine seq_rule fun N2 hN => ?_
      walk_at "rg"
      walk_at "rd"
      refine ⟨_, .inl (SqL.of b3), fun r hr => hN _ _ ?_⟩
      clear hN N2
      have n4 : Same H3 (upd H3 r (.lst (js.map V.int))) := Same.new hr
      have r4 : upd H3 r (.lst (js.map V.int)) r = some (.lst (js.map V.int)) := upd_same
      have s4 := s3.trans n4
      have b4 := n4 _ _ b3
      have p4 := n4 _ _ p3
      have hr0 := s3.free hr
      have nbr : bs ≠ r := fun z => by rw [← z, b3] at hr; cases hr
      have npr : ps ≠ r := fun z => by rw [← z, p3] at hr; cases hr
      clear n4
      generalize upd H3 r (.lst (js.map V.int)) = H4 at r4 s4 b4 p4
      refine seq_rule fun N2 hN => ?_
      walk_at "rd"
      obtain ⟨v1, e1, e2'⟩ := atI_in (xs := js.map V.int) a1 (by rw [List.length_map, ljs]; omega)
      obtain ⟨z, hz, rfl⟩ := map_get e2'
      refine rd_ixL b4 e1 ⟨.inl (by omega), _, rfl, _, r4, _, ixN_nat a1 (by rw [List.length_map, ljs]; omega), hN _ _ ?_⟩
      clear hN N2
      rw [← List.map_set (f := V.int)]
      have hjs2 : ∀ j ∈ js.set at_.toNat ((z + (0 + (i : Int)) * (1 + n / 9438 % 12)) % 26), 0 ≤ j ∧ j < 26 := fun j hj => by
        rcases List.mem_or_eq_of_mem_set hj with h | h
        · exact ojs j h
        · omega
      have ljs2 : (js.set at_.toNat ((z + (0 + (i : Int)) * (1 + n / 9438 % 12)) % 26)).length = sz.toNat := by rw [List.length_set, ljs]
      generalize js.set at_.toNat ((z + (0 + (i : Int)) * (1 + n / 9438 % 12)) % 26) = js2 at hjs2 ljs2
      have s5 : Same H (upd H4 r (.lst (js2.map V.int))) := s4.upd_new hr0
      have r5 : upd H4 r (.lst (js2.map V.int)) r = some (.lst (js2.map V.int)) := upd_same
      have b5 : upd H4 r (.lst (js2.map V.int)) bs = some (.lst (js.map V.int)) := (upd_ne nbr).trans b4
      have p5 : upd H4 r (.lst (js2.map V.int)) ps = some (.lst (ls.map fun l => .str (tx l))) := (upd_ne npr).trans p4
      generalize upd H4 r (.lst (js2.map V.int)) = H5 at s5 r5 b5 p5
      walk_at "rd"
      refine ⟨tyV_lst (SqL.of p5), _, rfl, r, rfl, ⟨_, SqL.of r5⟩, comp_word (SqL.of r5) hjs2 (by omega) (fun j H6 Q6 h => ?_) fun D H6 hD s6 d6 => ⟨D, _, rfl, rfl, d6, by rw [word_sum]; omega, _, s6 _ _ p5, ?_, s5.trans s6 |>.upd_new hps0, (upd_ne nbp).trans (s6 _ _ b5), ls ++ [js2.map letC], ?_, ?_, fun l hl => ?_⟩⟩
      · walk_at "rd"
        exact h
      · rw [List.length_map, ll]
        exact Nat.lt_of_lt_of_le (show i < 3000 by omega) (sz_of (by decide))
      · rw [upd_same, List.map_append, word_flat]
        rfl
      · rw [List.length_append, ll]
        rfl
      · rcases List.mem_append.mp hl with h | h
        · exact lo l h
        · rw [List.mem_singleton.mp h]
          exact ⟨by rw [List.length_map, ljs2], word_abc js2⟩
    · rintro σ H3 ⟨v, v', ls, rfl, s3, b3, p3, ll, lo⟩
      refine hN _ _ ?_
      clear hN N
      refine seq_rule fun N hN => ?_
      walk_at "rd"
      obtain ⟨l0, lr, rfl⟩ : ∃ l0 lr, ls = l0 :: lr := by
        cases ls with
        | nil => cases ll
        | cons a b => exact ⟨a, b, rfl⟩
      obtain ⟨l1, l2⟩ := lo l0 (by simp)
      refine ⟨tyV_lst (SqL.of p3), rd_ixL (v := .str (tx l0)) p3 atI_zero (rd_sign (by decide) (by omega) (by show n / 31 % 26 < 26; omega) fun x hx => ⟨_, rfl, _, rfl, ?_, _, p3, ?_, hN _ _ ?_⟩)⟩
      · rw [tx_len, tx_len]
        exact sz_of (by simp only [List.length_cons, List.length_nil]; omega)
      · rw [List.length_map, ll]
        exact Nat.lt_of_lt_of_le (show 3 < 3000 by decide) (sz_of (by decide))
      clear hN N
      walk_at "rd"
      refine k ps _ ((l0 :: lr) ++ [l0 ++ [x]]) hps0 (s3.upd_new hps0) ⟨?_, ?_, fun l hl => ?_⟩
      · rw [upd_same, List.map_append]
        simp only [List.map_cons, List.map_nil, tx_app, List.cons_append]
      · rw [List.length_append, ll]
        rfl
      · rcases List.mem_append.mp hl with h | h
        · obtain ⟨h1, h2⟩ := lo l h
          exact ⟨by omega, by omega, h2⟩
        · rw [List.mem_singleton.mp h]
          refine ⟨by rw [List.length_append]; simp, by rw [List.length_append, l1]; simp only [List.length_cons, List.length_nil]; omega, fun y hy => ?_⟩
          rcases List.mem_append.mp hy with h | h
          · exact l2 y h
          · rw [List.mem_singleton.mp h]
            exact List.mem_of_getElem? hx
theorem sc_l_base : FnScope ["cell", "size"] ["cell"] (defScope s_l_base) := ⟨rfl, rfl, rfl, by decide +kernel, rfl, by decide +kernel, by decide +kernel⟩
theorem ok_l_base (T : Txt K mg t) : FnOk P w K mg base (CX1 P w) 1 t.a_l_base t.d_l_base ["cell"] (sp_l_base) := by
  refine T.l_base.fn.okN sc_l_base (fun vs H Q E h => ?_) (fun cdv A outer s H vs Q E hr h => ?_)
  · obtain ⟨c, rfl, k⟩ := h
    rfl
  · obtain ⟨c, rfl, k⟩ := h
    refine ⟨_, Bx.un (bpss_cons (bps_set (i := 1) sc_l_base.nd rfl (by first | exact Or.inl rfl | exact Or.inr rfl) (bpe_op op_mod (bpv 0) (bpe_op op_pow bpe_int bpe_int)))
      (bpss_cons (bps_if (bpt_cmpR op_eq (bpe_op op_mod (bpv 1) bpe_int) bpe_int (nomark _))
      (bpss_one (bps_ret (bpe_op op_sub bpe_int (bpe_op op_fdiv (bpv 1) bpe_int))))
      bpss_nil)
      (bpss_one (bps_ret (bpe_op op_fdiv (bpv 1) bpe_int))))), ?_⟩
    walk_at "rd"
    refine ⟨by decide, ?_⟩
    split <;> exact k _ (by unfold halfB; omega)
theorem sc_l_number : FnScope ["cell", "turn", "base"] ["cell", "turn", "base"] (defScope s_l_number) := ⟨rfl, rfl, rfl, by decide +kernel, rfl, by decide +kernel, by decide +kernel⟩
theorem ok_l_number (T : Txt K mg t) : FnOk P w K mg base (CX1 P w) 2 t.a_l_number t.d_l_number ["cell", "turn", "base"] (sp_l_number) := by
  have G_l_base := (ok_l_base (P := P) (w := w) (base := base) T).mono (show 1 ≤ 1 by decide)
  refine T.l_number.fn.okN sc_l_number (fun vs H Q E h => ?_) (fun cdv A outer s H vs Q E hr h => ?_)
  · obtain ⟨c, tu, b, rfl, hb, k⟩ := h
    rfl
  · obtain ⟨c, tu, b, rfl, hb, k⟩ := h
    refine ⟨_, Bx.un (bpss_cons (bps_if (bpt_cmpR op_eq (bpe_op op_mod (bpv 1) bpe_int) bpe_int (nomark _))
      (bpss_one (bps_ret (bpe_op op_sub (bpe_op op_add (bpv 2) (bpe_op op_mod (bpe_op op_fdiv (bpv 1) bpe_int) bpe_int)) bpe_int)))
      bpss_nil)
      (bpss_cons (bps_if (bpt_cmpR op_eq (bpe_op op_mod (bpv 1) bpe_int) bpe_int (nomark _))
      (bpss_one (bps_ret (bpe_op op_sub (bpe_op op_mod (bpe_op op_fdiv (bpv 1) bpe_int) bpe_int) bpe_int)))
      bpss_nil)
      (bpss_one (bps_ret (bpe_fnx T.l_base G_l_base hr pass0' (bpa_cons (bpv 0) bpa_nil)))))), ?_⟩
    walk_at "rd"
    have big : (10 : Nat) ^ 60 = 1000000000000000000000000000000000000000000000000000000000000 := by decide
    unfold halfB at hb
    refine ite_both (fun _ => k _ (by rw [big]; omega)) fun _ => ite_both (fun _ => k _ (by rw [big]; omega)) fun _ => ⟨_, rfl, fun n hn => k n ?_⟩
    unfold halfB at hn
    rw [big]
    omega
theorem sc_l_mark_by : FnScope ["cell", "names", "base", "turn", "sign", "number"] ["cell", "names", "base"] (defScope s_l_mark_by) := ⟨rfl, rfl, rfl, by decide +kernel, rfl, by decide +kernel, by decide +kernel⟩
theorem ok_l_mark_by (T : Txt K mg t) : FnOk P w K mg base (CX1 P w) 3 t.a_l_mark_by t.d_l_mark_by ["cell", "names", "base"] (sp_l_mark_by) := by
  have G_l_mixed := (ok_l_mixed (P := P) (w := w) (base := base) T).mono (show 1 ≤ 2 by decide)
  have G_l_number := (ok_l_number (P := P) (w := w) (base := base) T).mono (show 2 ≤ 2 by decide)
  refine T.l_mark_by.fn.okN sc_l_mark_by (fun vs H Q E h => ?_) (fun cdv A outer s H vs Q E hr h => ?_)
  · obtain ⟨c, a, ns, b, rfl, hn, hb, k⟩ := h
    rfl
  · obtain ⟨c, a, ns, b, rfl, hn, hb, k⟩ := h
    refine ⟨_, Bx.un (bpss_cons (bps_set (i := 3) sc_l_mark_by.nd rfl (by first | exact Or.inl rfl | exact Or.inr rfl) (bpe_op op_fdiv (bpe_fnx T.l_mixed G_l_mixed hr pass0' (bpa_cons (bpv 0) bpa_nil)) bpe_int))
      (bpss_cons (bps_set (i := 4) sc_l_mark_by.nd rfl (by first | exact Or.inl rfl | exact Or.inr rfl) (bpe_ixA ix_list bpe_lstS (bpe_op op_mod (bpe_op op_fdiv (bpv 3) bpe_int) bpe_int)))
      (bpss_cons (bps_set (i := 5) sc_l_mark_by.nd rfl (by first | exact Or.inl rfl | exact Or.inr rfl) bpe_int)
      (bpss_cons (bps_if (bpt_cmpR op_ne (bpv 4) bpe_str (nomark _))
      (bpss_one (bps_set (i := 5) sc_l_mark_by.nd rfl (by first | exact Or.inl rfl | exact Or.inr rfl) (bpe_fnx T.l_number G_l_number hr pass0' (bpa_cons (bpv 0) (bpa_cons (bpe_op op_fdiv (bpv 3) bpe_int) (bpa_cons (bpv 2) bpa_nil))))))
      bpss_nil)
      (bpss_one (bps_ret (bpe_tup (bpa_cons bpe_str (bpa_cons (bpe_ixA ix_list (bpe_op op_cat (bpv 1) (bpe_lst (bpa_cons bpe_str bpa_nil))) (bpe_op op_mod (bpv 3) bpe_int)) (bpa_cons (bpe_cmpR op_eq (bpe_op op_mod (bpe_op op_fdiv (bpv 3) bpe_int) bpe_int) bpe_int (nomark _)) (bpa_cons (bpv 4) (bpa_cons (bpv 5) bpa_nil)))))))))))), ?_⟩
    walk_at "rs"
    obtain ⟨hn1, hn2, hn3⟩ := hn
    refine seq_rule fun N hN => ?_
    walk_at "rd"
    refine ⟨_, rfl, fun m h0 h1 => ⟨_, rfl, hN _ _ ?_⟩⟩
    clear hN N
    obtain ⟨tu, htu⟩ : ∃ tu : Int, m / 8 = tu := ⟨_, rfl⟩
    rw [htu]
    refine seq_rule fun N hN => ?_
    walk_at "rd"
    refine ⟨by decide, fun p hp => rd_pick (by omega) (by show tu / 10 % 6 < 6; omega) fun v hv => hN _ _ ?_⟩
    clear hN N
    have pick : ∃ a, v = .str (tx a) ∧ a ∈ [[], [60], [62], [61], [33]] := by
      simp only [List.mem_cons, List.not_mem_nil, or_false] at hv
      rcases hv with rfl | rfl | rfl | rfl | rfl | rfl <;> exact ⟨_, rfl, by decide⟩
    obtain ⟨sg, rfl, hsg⟩ := pick
    have s1 := Same.new (o := .lst [V.str (tx []), V.str (tx []), V.str (tx [60]), V.str (tx [62]), V.str (tx [61]), V.str (tx [33])]) hp
    generalize upd H p (.lst [V.str (tx []), V.str (tx []), V.str (tx [60]), V.str (tx [62]), V.str (tx [61]), V.str (tx [33])]) = H1 at s1
    refine seq_rule fun N hN => ?_
    walk_at "rd"
    refine hN _ _ ?_
    clear hN N
    refine seq_rule fun N hN => ?_
    have hM : ∀ n : Int, n.natAbs < 10 ^ 60 → (sg = [] → n = 0) → N [some (.int c), some (.ref a), some (.int b), some (.int tu), some (.str (tx sg)), some (.int n)] H1 := by
      intro n hn h0
      refine hN _ _ ?_
      clear hN N
      walk_at "rd"
      refine ⟨by decide, fun q hq => ⟨_, (s1.upd_new (o := .lst [V.str (tx [95])]) (s1.free hq)) _ _ hn1, _, upd_same, by simp only [List.length_map, hn2]; decide, fun r hr => ?_⟩⟩
      obtain ⟨v, e1, e2⟩ := atI_in (xs := (ns.map fun l => V.str (tx l)) ++ [V.str (tx [95])]) (i := tu % 5) (by omega) (by simp only [List.length_append, List.length_map, hn2]; show tu % 5 < 5; omega)
      have pick : ∃ l, v = .str (tx l) ∧ (l = [95] ∨ GoodN l) := by
        have := List.mem_of_getElem? e2
        rcases List.mem_append.mp this with h | h
        · obtain ⟨l, hl, rfl⟩ := List.mem_map.mp h
          exact ⟨l, rfl, .inr (hn3 l hl)⟩
        · rw [List.mem_singleton.mp h]
          exact ⟨[95], rfl, .inl rfl⟩
      obtain ⟨l, rfl, hl⟩ := pick
      have s2 := (Same.new (o := .lst [V.str (tx [95])]) hq).upd_new (o := .lst ((ns.map fun l => V.str (tx l)) ++ [V.str (tx [95])])) ((Same.new (o := .lst [V.str (tx [95])]) hq).free hr)
      refine rd_ixL upd_same e1 ⟨by decide, fun p3 h3 => ?_⟩
      have s3 := s2.upd_new (o := .tup (mkV ⟨l, decide (tu / 5 % 2 = 1), sg, n⟩)) (s2.free h3)
      exact k ⟨l, _, sg, n⟩ p3 _ ⟨hl, hsg, hn, h0⟩ (s1.free (s2.free h3)) (s1.trans s3) upd_same
    walk_at "rd"
    refine ite_both (fun h => ?_) fun h => ?_
    · exact ⟨_, _, _, rfl, hb, fun n hn => hM n hn fun z => absurd z h⟩
    · exact hM 0 (by decide) fun _ => rfl
theorem sc_l_step_by : FnScope ["cell", "names", "base", "turn"] ["cell", "names", "base"] (defScope s_l_step_by) := ⟨rfl, rfl, rfl, by decide +kernel, rfl, by decide +kernel, by decide +kernel⟩
theorem ok_l_step_by (T : Txt K mg t) : FnOk P w K mg base (CX1 P w) 3 t.a_l_step_by t.d_l_step_by ["cell", "names", "base"] (sp_l_step_by) := by
  have G_l_mixed := (ok_l_mixed (P := P) (w := w) (base := base) T).mono (show 1 ≤ 2 by decide)
  have G_l_number := (ok_l_number (P := P) (w := w) (base := base) T).mono (show 2 ≤ 2 by decide)
  refine T.l_step_by.fn.okN sc_l_step_by (fun vs H Q E h => ?_) (fun cdv A outer s H vs Q E hr h => ?_)
  · obtain ⟨c, a, ns, b, rfl, hn, hb, k⟩ := h
    rfl
  · obtain ⟨c, a, ns, b, rfl, hn, hb, k⟩ := h
    refine ⟨_, Bx.un (bpss_cons (bps_set (i := 3) sc_l_step_by.nd rfl (by first | exact Or.inl rfl | exact Or.inr rfl) (bpe_fnx T.l_mixed G_l_mixed hr pass0' (bpa_cons (bpv 0) bpa_nil)))
      (bpss_one (bps_ret (bpe_tup (bpa_cons (bpe_ixA ix_list (bpv 1) (bpe_op op_mod (bpv 3) bpe_int)) (bpa_cons (bpe_fnx T.l_number G_l_number hr pass0' (bpa_cons (bpv 0) (bpa_cons (bpe_op op_fdiv (bpv 3) bpe_int) (bpa_cons (bpv 2) bpa_nil)))) (bpa_cons (bpe_cmpR op_eq (bpe_op op_mod (bpe_op op_fdiv (bpv 3) bpe_int) bpe_int) bpe_int (nomark _)) bpa_nil))))))), ?_⟩
    walk_at "rd"
    obtain ⟨hn1, hn2, hn3⟩ := hn
    refine ⟨_, rfl, fun m h0 h1 => ⟨_, rfl, ?_⟩⟩
    obtain ⟨v, e1, e2⟩ := atI_in (xs := ns.map fun l => V.str (tx l)) (i := m % 4) (by omega) (by rw [List.length_map, hn2]; omega)
    obtain ⟨z, hz, rfl⟩ := map_get e2
    refine rd_ixL hn1 e1 ⟨_, rfl, _, _, _, rfl, hb, fun n hn => ⟨_, rfl, by decide, fun p hp => ?_⟩⟩
    exact k ⟨z, n, _⟩ p _ ⟨hn3 z (List.mem_of_getElem? hz), hn⟩ hp (Same.new hp) upd_same
theorem sc_weight_meets : FnScope ["weight", "sign", "number"] ["weight", "sign", "number"] (defScope s_weight_meets) := ⟨rfl, rfl, rfl, by decide +kernel, rfl, by decide +kernel, by decide +kernel⟩
theorem ok_weight_meets (T : Txt K mg t) : FnOk P w K mg base (CX1 P w) 1 t.a_weight_meets t.d_weight_meets ["weight", "sign", "number"] (sp_weight_meets) := by
  refine T.weight_meets.fn.okN sc_weight_meets (fun vs H Q E h => ?_) (fun cdv A outer s H vs Q E hr h => ?_)
  · obtain ⟨wt, sg, n, rfl, k⟩ := h
    rfl
  · obtain ⟨wt, sg, n, rfl, k⟩ := h
    refine ⟨_, Bx.un (bpss_cons (bps_if (bpt_cmpR op_eq (bpv 1) bpe_str (nomark _))
      (bpss_one (bps_ret (bpe_cmpR op_lt (bpv 0) (bpv 2) (nomark _))))
      bpss_nil)
      (bpss_cons (bps_if (bpt_cmpR op_eq (bpv 1) bpe_str (nomark _))
      (bpss_one (bps_ret (bpe_cmpR op_gt (bpv 0) (bpv 2) (nomark _))))
      bpss_nil)
      (bpss_cons (bps_if (bpt_cmpR op_eq (bpv 1) bpe_str (nomark _))
      (bpss_one (bps_ret (bpe_cmpR op_eq (bpv 0) (bpv 2) (nomark _))))
      bpss_nil)
      (bpss_cons (bps_if (bpt_cmpR op_eq (bpv 1) bpe_str (nomark _))
      (bpss_one (bps_ret (bpe_cmpR op_ne (bpv 0) (bpv 2) (nomark _))))
      bpss_nil)
      (bpss_one (bps_ret bpe_bl)))))), ?_⟩
    walk_at "rd"
    unfold meetC at k
    refine ite_both (fun h => ?_) fun h => ?_
    · rw [if_pos h] at k
      exact k
    rw [if_neg h] at k
    refine ite_both (fun h => ?_) fun h => ?_
    · rw [if_pos h] at k
      exact k
    rw [if_neg h] at k
    refine ite_both (fun h => ?_) fun h => ?_
    · rw [if_pos h] at k
      exact k
    rw [if_neg h] at k
    refine ite_both (fun h => ?_) fun h => ?_
    · rw [if_pos h] at k
      exact k
    rw [if_neg h] at k
    exact k
theorem sc_fits : FnScope ["mark", "step"] ["mark", "step"] (defScope s_fits) := ⟨rfl, rfl, rfl, by decide +kernel, rfl, by decide +kernel, by decide +kernel⟩
theorem ok_fits (T : Txt K mg t) : FnOk P w K mg base (CX1 P w) 2 t.a_fits t.d_fits ["mark", "step"] (sp_fits) := by
  have G_weight_meets := (ok_weight_meets (P := P) (w := w) (base := base) T).mono (show 1 ≤ 1 by decide)
  refine T.fits.fn.okN sc_fits (fun vs H Q E h => ?_) (fun cdv A outer s H vs Q E hr h => ?_)
  · obtain ⟨a, b, m, sp, rfl, ha, hb, k⟩ := h
    rfl
  · obtain ⟨a, b, m, sp, rfl, ha, hb, k⟩ := h
    refine ⟨_, Bx.un (bpss_cons (bps_if (bpt_cmpR op_ne (bpe_ixA ix_tup (bpv 1) bpe_int) (bpe_ixA ix_tup (bpv 0) bpe_int) (nomark _))
      (bpss_one (bps_ret bpe_bl))
      bpss_nil)
      (bpss_cons (bps_if (bpw_and (bpt_cmpR op_ne (bpe_ixA ix_tup (bpv 0) bpe_int) (bpe_const T.c_ANY_NAME) (nomark _)) (bpw_and1 (bpt_cmpR op_ne (bpe_ixA ix_tup (bpv 0) bpe_int) (bpe_ixA ix_tup (bpv 1) bpe_int) (nomark _)))).bpt
      (bpss_one (bps_ret bpe_bl))
      bpss_nil)
      (bpss_one (bps_ret (bpe_fnx T.weight_meets G_weight_meets hr pass0' (bpa_cons (bpe_ixA ix_tup (bpv 1) bpe_int) (bpa_cons (bpe_ixA ix_tup (bpv 0) bpe_int) (bpa_cons (bpe_ixA ix_tup (bpv 0) bpe_int) bpa_nil)))))))), ?_⟩
    walk_at "rd"
    have last : ∀ (_ : sp.back = m.back) (_ : m.nm = [95] ∨ m.nm = sp.nm), rIxT K (V.ref b) (V.int 1) H fun x H1 => rIxT K (V.ref a) (V.int 3) H1 fun x_1 H1 => rIxT K (V.ref a) (V.int 4) H1 fun x_2 H1 => sp_weight_meets [x, x_1, x_2] H1 Q E0 := by
      intro h1 h2
      refine rd_ixT hb rfl (rd_ixT ha rfl (rd_ixT ha rfl ⟨_, _, _, rfl, ?_⟩))
      unfold fitC at k
      rw [decide_eq_true h1] at k
      rcases h2 with h2 | h2
      · rw [decide_eq_true h2] at k
        simpa using k
      · rw [decide_eq_true h2] at k
        simpa using k
    refine rd_ixT hb rfl (rd_ixT ha rfl ⟨rfl, ite_both (fun h => ?_) fun h => rd_ixT ha rfl ⟨rfl, ?_⟩⟩)
    · have h1 : ¬ sp.back = m.back := fun z => h (by rw [z])
      unfold fitC at k
      rw [decide_eq_false h1] at k
      exact k
    have h1 : sp.back = m.back := by
      have := Classical.not_not.mp h
      injection this
    refine ite_both (fun h2 => rd_ixT ha rfl (rd_ixT hb rfl ⟨rfl, ite_both (fun h3 => ?_) fun h3 => ?_⟩)) fun h2 => ?_
    · have n2 : ¬ m.nm = [95] := fun z => h2 (by rw [z])
      have n3 : ¬ m.nm = sp.nm := fun z => h3 (by rw [z])
      unfold fitC at k
      rw [decide_eq_true h1, decide_eq_false n2, decide_eq_false n3] at k
      exact k
    · have := Classical.not_not.mp h3
      exact last h1 (.inr (by injection this with z; exact tx_inj.mp z))
    · have := Classical.not_not.mp h2
      exact last h1 (.inl (by injection this with z; exact tx_inj.mp z))
theorem sc_l_fit : FnScope ["mark", "step", "low", "high"] ["mark", "step"] (defScope s_l_fit) := ⟨rfl, rfl, rfl, by decide +kernel, rfl, by decide +kernel, by decide +kernel⟩
theorem ok_l_fit (T : Txt K mg t) : FnOk P w K mg base (CX1 P w) 1 t.a_l_fit t.d_l_fit ["mark", "step"] (sp_l_fit) := by
  refine T.l_fit.fn.okN sc_l_fit (fun vs H Q E h => ?_) (fun cdv A outer s H vs Q E hr h => ?_)
  · obtain ⟨a, b, m, sp, rfl, ha, hb, om, k⟩ := h
    rfl
  · obtain ⟨a, b, m, sp, rfl, ha, hb, om, k⟩ := h
    refine ⟨_, Bx.un (bpss_cons (bps_if (bpw_or (bpt_cmpR op_notIn_seq (bpe_ixA ix_tup (bpv 0) bpe_int) (bpe_lst (bpa_cons bpe_str (bpa_cons (bpe_ixA ix_tup (bpv 1) bpe_int) bpa_nil))) (by with_unfolding_all rfl)) (bpw_or1 (bpt_cmpR op_ne (bpe_ixA ix_tup (bpv 0) bpe_int) (bpe_ixA ix_tup (bpv 1) bpe_int) (nomark _)))).bpt
      (bpss_one (bps_ret bpe_bl))
      bpss_nil)
      (bpss_cons (bps_set (i := 2) sc_l_fit.nd rfl (by first | exact Or.inl rfl | exact Or.inr rfl) (bpe_cmpR op_lt (bpe_ixA ix_tup (bpv 1) bpe_int) (bpe_ixA ix_tup (bpv 0) bpe_int) (nomark _)))
      (bpss_cons (bps_set (i := 3) sc_l_fit.nd rfl (by first | exact Or.inl rfl | exact Or.inr rfl) (bpe_cmpR op_gt (bpe_ixA ix_tup (bpv 1) bpe_int) (bpe_ixA ix_tup (bpv 0) bpe_int) (nomark _)))
      (bpss_one (bps_ret (bpe_ixA ix_list (bpe_lst (bpa_cons bpe_bl (bpa_cons (bpv 2) (bpa_cons (bpv 3) (bpa_cons (bpe_and (bpe_not (bpv 2)) (bpe_one (bpe_not (bpv 3)))) (bpa_cons (bpe_or (bpv 2) (bpe_one (bpv 3))) bpa_nil)))))) (bpe_bm PySem.F.plainAttrs_list PySem.F.slot_list_index PySem.F.type_list_index mt_index bpe_lstS (bpa_cons (bpe_ixA ix_tup (bpv 0) bpe_int) bpa_nil)))))))), ?_⟩
    walk_at "rs"
    refine seq_rule fun N hN => ?_
    walk_at "rd"
    refine rd_ixT ha rfl (rd_ixT hb rfl ⟨by decide, fun p hp => rd_inS (ns := [[95], sp.nm]) (SqL.of upd_same) ⟨_, rfl, ?_⟩⟩)
    have s1 : Same H (upd H p (.lst [V.str (tx [95]), V.str (tx sp.nm)])) := Same.new hp
    generalize upd H p (.lst [V.str (tx [95]), V.str (tx sp.nm)]) = H1 at s1
    have ha1 := s1 _ _ ha
    have hb1 := s1 _ _ hb
    refine ite_both (fun h => ?_) fun h => rd_ixT ha1 rfl (rd_ixT hb1 rfl ⟨rfl, ite_both (fun h2 => ?_) fun h2 => hN _ _ ?_⟩)
    · have := k H1 s1
      unfold fitC at this
      have n1 : ¬ (m.nm = [95] ∨ m.nm = sp.nm) := fun z => by simp [z] at h
      rw [not_or] at n1
      rw [decide_eq_false n1.1, decide_eq_false n1.2] at this
      simpa using this
    · have := k H1 s1
      unfold fitC at this
      have n1 : ¬ sp.back = m.back := fun z => h2 (by rw [z])
      rw [decide_eq_false n1] at this
      simpa using this
    clear hN N
    have e1 : (decide (sp.back = m.back) && (decide (m.nm = [95]) || decide (m.nm = sp.nm))) = true := by
      have z1 : sp.back = m.back := by
        have := Classical.not_not.mp h2
        injection this with z
        exact z.symm
      have z2 : m.nm = [95] ∨ m.nm = sp.nm := by
        by_cases z : m.nm = [95]
        · exact .inl z
        · exact .inr (by simpa [z] using h)
      simp [z1, z2]
    have k2 : ∀ H', Same H1 H' → Q (.bl (meetC sp.wt m.sg m.num)) H' := fun H' s' => by
      have := k H' (s1.trans s')
      unfold fitC at this
      rw [e1, Bool.true_and] at this
      exact this
    clear k e1 h h2
    refine seq_rule fun N hN => ?_
    walk_at "rd"
    refine rd_ixT hb1 rfl (rd_ixT ha1 rfl ⟨_, rfl, _, rfl, hN _ _ ?_⟩)
    clear hN N
    refine seq_rule fun N hN => ?_
    walk_at "rd"
    refine rd_ixT hb1 rfl (rd_ixT ha1 rfl ⟨_, rfl, _, rfl, hN _ _ ?_⟩)
    clear hN N
    obtain ⟨b1, eb1⟩ : ∃ b1, decide (sp.wt < m.num) = b1 := ⟨_, rfl⟩
    obtain ⟨b2, eb2⟩ : ∃ b2, decide (m.num < sp.wt) = b2 := ⟨_, rfl⟩
    rw [eb1, eb2]
    have go : ∀ (D D2 : Addr) (H2 H3 : Hp), H1 D = none → H2 = upd H1 D (.lst [.bl true, .bl b1, .bl b2, .bl (!b1 && !b2), .bl (b1 || b2)]) → H2 D2 = none → H3 = upd H2 D2 (.lst [.str (tx []), .str (tx [60]), .str (tx [62]), .str (tx [61]), .str (tx [33])]) →
        tyV K "list" (V.ref D2) H3 ∧ rIxT K (V.ref a) (V.int 3) H3 fun x H4 => ∃ x_1, H4 D2 = some (.lst x_1) ∧ flatV x = true ∧ x_1.all flatV = true ∧ ∃ (x_2 : Nat) (x_3 : V), x_1[x_2]? = some x_3 ∧ eqV x_3 x = true ∧ (∀ (m : Nat) (z' : V), m < x_2 → x_1[m]? = some z' → eqV z' x = false) ∧ rIxL K (.ref D) (.int x_2) H4 Q := by
      rintro D D2 H2 H3 hD rfl hD2 rfl
      have s2 := Same.new (o := .lst [.bl true, .bl b1, .bl b2, .bl (!b1 && !b2), .bl (b1 || b2)]) hD
      have n3 := Same.new (o := .lst [.str (tx []), .str (tx [60]), .str (tx [62]), .str (tx [61]), .str (tx [33])]) hD2
      have d3 := n3 D _ upd_same
      have s3 := s2.trans n3
      refine ⟨tyV_lst (SqL.of upd_same), rd_ixT (s3 _ _ ha1) rfl ?_⟩
      have kk := k2 _ s3
      have om1 := om.sg
      unfold meetC at kk
      have c3 : decide (sp.wt = m.num) = (!b1 && !b2) := by
        rw [← eb1, ← eb2]
        by_cases h1 : sp.wt < m.num
        · simp only [h1, decide_true, Bool.not_true, Bool.false_and, decide_eq_false_iff_not]; omega
        · by_cases h2 : m.num < sp.wt
          · simp only [h1, h2, decide_true, decide_false, Bool.not_true, Bool.and_false, decide_eq_false_iff_not]; omega
          · simp only [h1, h2, decide_false, Bool.not_false, Bool.and_true, decide_eq_true_eq]; omega
      have c4 : (!decide (sp.wt = m.num)) = (b1 || b2) := by
        rw [c3]
        cases b1 <;> cases b2 <;> rfl
      rw [c3, eb1, show decide (sp.wt > m.num) = b2 from eb2] at kk
      have no : ∀ (sg : List Nat) (j : Nat), [[], [60], [62], [61], [33]][j]? = some sg → ∀ (i : Nat) (z' : V), i < j → [V.str (tx []), V.str (tx [60]), V.str (tx [62]), V.str (tx [61]), V.str (tx [33])][i]? = some z' → eqV z' (V.str (tx sg)) = false := by
        intro sg j hj i z' hi hz
        have hj5 : j < 5 := by
          obtain ⟨y, _⟩ := List.getElem?_eq_some_iff.mp hj
          exact y
        match j, i, hj5, hi, hj, hz with
        | 1, 0, _, _, hj, hz | 2, 0, _, _, hj, hz | 2, 1, _, _, hj, hz | 3, 0, _, _, hj, hz | 3, 1, _, _, hj, hz | 3, 2, _, _, hj, hz | 4, 0, _, _, hj, hz | 4, 1, _, _, hj, hz | 4, 2, _, _, hj, hz | 4, 3, _, _, hj, hz =>
          cases hj
          cases hz
          rfl
      have nn : (!(!b1 && !b2)) = (b1 || b2) := by cases b1 <;> cases b2 <;> rfl
      rw [nn] at kk
      generalize m.sg = sg at kk om1
      simp only [List.mem_cons, List.not_mem_nil, or_false] at om1
      rcases om1 with rfl | rfl | rfl | rfl | rfl
      · exact ⟨_, upd_same, rfl, rfl, 0, _, rfl, rfl, no _ _ rfl, rd_ixL d3 rfl kk⟩
      · exact ⟨_, upd_same, rfl, rfl, 1, _, rfl, rfl, no _ _ rfl, rd_ixL d3 rfl kk⟩
      · exact ⟨_, upd_same, rfl, rfl, 2, _, rfl, rfl, no _ _ rfl, rd_ixL d3 rfl kk⟩
      · exact ⟨_, upd_same, rfl, rfl, 3, _, rfl, rfl, no _ _ rfl, rd_ixL d3 rfl kk⟩
      · exact ⟨_, upd_same, rfl, rfl, 4, _, rfl, rfl, no _ _ rfl, rd_ixL d3 rfl kk⟩
    cases b1 <;> cases b2
    · walk_at "rd"
      exact ⟨by decide, fun D hD => ⟨by decide, fun D2 hD2 => go D D2 _ _ hD rfl hD2 rfl⟩⟩
    · walk_at "rd"
      exact ⟨by decide, fun D hD => ⟨by decide, fun D2 hD2 => go D D2 _ _ hD rfl hD2 rfl⟩⟩
    · walk_at "rd"
      exact ⟨by decide, fun D hD => ⟨by decide, fun D2 hD2 => go D D2 _ _ hD rfl hD2 rfl⟩⟩
    · walk_at "rd"
      exact ⟨by decide, fun D hD => ⟨by decide, fun D2 hD2 => go D D2 _ _ hD rfl hD2 rfl⟩⟩
theorem sc_l_near_by : FnScope ["cell", "mark", "names", "base", "step", "turn", "name", "weight", "back"] ["cell", "mark", "names", "base"] (defScope s_l_near_by) := ⟨rfl, rfl, rfl, by decide +kernel, rfl, by decide +kernel, by decide +kernel⟩
theorem ok_l_near_by (T : Txt K mg t) : FnOk P w K mg base (CX1 P w) 4 t.a_l_near_by t.d_l_near_by ["cell", "mark", "names", "base"] (sp_l_near_by) := by
  have G_l_step_by := (ok_l_step_by (P := P) (w := w) (base := base) T).mono (show 3 ≤ 3 by decide)
  have G_l_mixed := (ok_l_mixed (P := P) (w := w) (base := base) T).mono (show 1 ≤ 3 by decide)
  refine T.l_near_by.fn.okN sc_l_near_by (fun vs H Q E h => ?_) (fun cdv A outer s H vs Q E hr h => ?_)
  · obtain ⟨c, d, a, ns, b, m, rfl, hn, hb, hd, om, k⟩ := h
    rfl
  · obtain ⟨c, d, a, ns, b, m, rfl, hn, hb, hd, om, k⟩ := h
    refine ⟨_, Bx.un (bpss_cons (bps_set (i := 4) sc_l_near_by.nd rfl (by first | exact Or.inl rfl | exact Or.inr rfl) (bpe_fnx T.l_step_by G_l_step_by hr pass0' (bpa_cons (bpv 0) (bpa_cons (bpv 2) (bpa_cons (bpv 3) bpa_nil)))))
      (bpss_cons (bps_set (i := 5) sc_l_near_by.nd rfl (by first | exact Or.inl rfl | exact Or.inr rfl) (bpe_op op_fdiv (bpe_fnx T.l_mixed G_l_mixed hr pass0' (bpa_cons (bpv 0) bpa_nil)) bpe_int))
      (bpss_cons (bps_set (i := 6) sc_l_near_by.nd rfl (by first | exact Or.inl rfl | exact Or.inr rfl) (bpe_ixA ix_tup (bpv 4) bpe_int))
      (bpss_cons (bps_set (i := 7) sc_l_near_by.nd rfl (by first | exact Or.inl rfl | exact Or.inr rfl) (bpe_ixA ix_tup (bpv 4) bpe_int))
      (bpss_cons (bps_set (i := 8) sc_l_near_by.nd rfl (by first | exact Or.inl rfl | exact Or.inr rfl) (bpe_ixA ix_tup (bpv 4) bpe_int))
      (bpss_cons (bps_if (bpw_and (bpt_cmpR op_eq (bpe_op op_mod (bpv 5) bpe_int) bpe_int (nomark _)) (bpw_and1 (bpt_cmpR op_ne (bpe_ixA ix_tup (bpv 1) bpe_int) bpe_str (nomark _)))).bpt
      (bpss_one (bps_set (i := 6) sc_l_near_by.nd rfl (by first | exact Or.inl rfl | exact Or.inr rfl) (bpe_ixA ix_tup (bpv 1) bpe_int)))
      bpss_nil)
      (bpss_cons (bps_if (bpt_cmpR op_eq (bpe_op op_mod (bpe_op op_fdiv (bpv 5) bpe_int) bpe_int) bpe_int (nomark _))
      (bpss_one (bps_set (i := 8) sc_l_near_by.nd rfl (by first | exact Or.inl rfl | exact Or.inr rfl) (bpe_ixA ix_tup (bpv 1) bpe_int)))
      bpss_nil)
      (bpss_cons (bps_if (bpt_cmpR op_eq (bpe_op op_mod (bpe_op op_fdiv (bpv 5) bpe_int) bpe_int) bpe_int (nomark _))
      (bpss_one (bps_set (i := 7) sc_l_near_by.nd rfl (by first | exact Or.inl rfl | exact Or.inr rfl) (bpe_op op_sub (bpe_op op_add (bpe_ixA ix_tup (bpv 1) bpe_int) (bpe_op op_mod (bpe_op op_fdiv (bpv 5) bpe_int) bpe_int)) bpe_int)))
      bpss_nil)
      (bpss_one (bps_ret (bpe_tup (bpa_cons (bpv 6) (bpa_cons (bpv 7) (bpa_cons (bpv 8) bpa_nil)))))))))))))), ?_⟩
    walk_at "rs"
    refine seq_rule fun N hN => ?_
    walk_at "rd"
    refine ⟨_, _, _, _, rfl, hn, hb, fun sp p H1 osp hp s1 e1 => hN _ _ ?_⟩
    clear hN N
    have hd1 := s1 _ _ hd
    refine seq_rule fun N hN => ?_
    walk_at "rd"
    refine ⟨_, rfl, fun tu t0 t1 => ⟨_, rfl, hN _ _ ?_⟩⟩
    clear hN N
    generalize tu / 64 = tu
    refine seq_rule fun N hN => ?_
    walk_at "rd"
    refine rd_ixT e1 rfl (hN _ _ ?_)
    clear hN N
    refine seq_rule fun N hN => ?_
    walk_at "rd"
    refine rd_ixT e1 rfl (hN _ _ ?_)
    clear hN N
    refine seq_rule fun N hN => ?_
    walk_at "rd"
    refine rd_ixT e1 rfl (hN _ _ ?_)
    clear hN N
    refine seq_rule fun N hN => ?_
    have hM : ∀ nm : List Nat, N [some (.int c), some (.ref d), some (.ref a), some (.int b), some (.ref p), some (.int tu), some (.str (tx nm)), some (.int sp.wt), some (.bl sp.back)] H1 := by
      intro nm
      refine hN _ _ ?_
      clear hN N
      refine seq_rule fun N hN => ?_
      have hM : ∀ bk : Bool, N [some (.int c), some (.ref d), some (.ref a), some (.int b), some (.ref p), some (.int tu), some (.str (tx nm)), some (.int sp.wt), some (.bl bk)] H1 := by
        intro bk
        refine hN _ _ ?_
        clear hN N
        refine seq_rule fun N hN => ?_
        have hM : ∀ wt : Int, N [some (.int c), some (.ref d), some (.ref a), some (.int b), some (.ref p), some (.int tu), some (.str (tx nm)), some (.int wt), some (.bl bk)] H1 := by
          intro wt
          refine hN _ _ ?_
          clear hN N
          walk_at "rd"
          exact ⟨by decide, fun q hq => k ⟨nm, wt, bk⟩ q _ (s1.free hq) (s1.upd_new (s1.free hq)) upd_same⟩
        walk_at "rd"
        exact ite_both (fun _ => rd_ixT hd1 rfl ⟨_, rfl, hM _⟩) fun _ => hM _
      walk_at "rd"
      exact ite_both (fun _ => rd_ixT hd1 rfl (hM _)) fun _ => hM _
    walk_at "rd"
    exact ite_both (fun _ => rd_ixT hd1 rfl ⟨rfl, ite_both (fun _ => rd_ixT hd1 rfl (hM _)) fun _ => hM _⟩) fun _ => hM _
theorem sc_law : FnScope ["script", "names", "base", "cells", "k", "mark", "step", "found"] ["script"] (defScope s_law) := ⟨rfl, rfl, rfl, by decide +kernel, rfl, by decide +kernel, by decide +kernel⟩
def spLaw (K : PySem.W.Frag) : Sp := fun vs H Q _ => ∃ (a : Addr) (ns : List Int), vs = [.ref a] ∧ SqL K H a (ns.map V.int) ∧ ns.length ≤ 63 ∧ ∀ H', Q (.bl true) H'
theorem ok_law {f : Addr} {fd : FuncData} (F : Fun K "law" "law" s_law f fd) (T : Txt K mg t) : FnOk P w K mg base (CX1 P w) 5 f fd ["script"] (spLaw K) := by
  have G_l_names := (ok_l_names (P := P) (w := w) (base := base) T).mono (show 1 ≤ 4 by decide)
  have G_l_base := (ok_l_base (P := P) (w := w) (base := base) T).mono (show 1 ≤ 4 by decide)
  have G_l_cell_at := (ok_l_cell_at (P := P) (w := w) (base := base) T).mono (show 1 ≤ 4 by decide)
  have G_l_mark_by := (ok_l_mark_by (P := P) (w := w) (base := base) T).mono (show 3 ≤ 4 by decide)
  have G_l_near_by := (ok_l_near_by (P := P) (w := w) (base := base) T).mono (show 4 ≤ 4 by decide)
  have G_fits := (ok_fits (P := P) (w := w) (base := base) T).mono (show 2 ≤ 4 by decide)
  have G_l_fit := (ok_l_fit (P := P) (w := w) (base := base) T).mono (show 1 ≤ 4 by decide)
  refine F.okN sc_law (fun vs H Q E h => ?_) (fun cdv A outer s H vs Q E hr h => ?_)
  · obtain ⟨a, ns, rfl, hS, hlen, k⟩ := h
    rfl
  · obtain ⟨a, ns, rfl, hS, hlen, k⟩ := h
    refine ⟨_, Bx.un (bpss_cons (bps_set (i := 1) sc_law.nd rfl (by first | exact Or.inl rfl | exact Or.inr rfl) (bpe_fnx T.l_names G_l_names hr pass0' (bpa_cons (bpe_fnx T.l_cell_at G_l_cell_at hr pass0' (bpa_cons (bpv 0) (bpa_cons bpe_int bpa_nil))) bpa_nil)))
      (bpss_cons (bps_set (i := 2) sc_law.nd rfl (by first | exact Or.inl rfl | exact Or.inr rfl) (bpe_fnx T.l_base G_l_base hr pass0' (bpa_cons (bpe_fnx T.l_cell_at G_l_cell_at hr pass0' (bpa_cons (bpv 0) (bpa_cons bpe_int bpa_nil))) bpa_nil)))
      (bpss_cons (bps_set (i := 3) sc_law.nd rfl (by first | exact Or.inl rfl | exact Or.inr rfl) (bpe_op (op_catK K) (bpv 0) (bpe_lst (bpa_cons bpe_int bpa_nil))))
      (bpss_cons (bps_for PassesOwn.never rfl (bpi_range1 rfl T.b_range (bpa_cons (bpe_callB call_len_seq (by rfl) T.b_len PySem.boot_len (bpa_cons (bpv 3) bpa_nil)) bpa_nil)) (bpg_name (i := 4) sc_law.nd rfl (by first | exact Or.inl rfl | exact Or.inr rfl))
      (bpss_cons (bps_set (i := 5) sc_law.nd rfl (by first | exact Or.inl rfl | exact Or.inr rfl) (bpe_fnx T.l_mark_by G_l_mark_by hr pass0' (bpa_cons (bpe_ixA ix_list (bpv 3) (bpv 4)) (bpa_cons (bpv 1) (bpa_cons (bpv 2) bpa_nil)))))
      (bpss_cons (bps_set (i := 6) sc_law.nd rfl (by first | exact Or.inl rfl | exact Or.inr rfl) (bpe_fnx T.l_near_by G_l_near_by hr pass0' (bpa_cons (bpe_ixA ix_list (bpv 3) (bpe_op op_sub (bpv 4) bpe_int)) (bpa_cons (bpv 5) (bpa_cons (bpv 1) (bpa_cons (bpv 2) bpa_nil))))))
      (bpss_cons (bps_set (i := 7) sc_law.nd rfl (by first | exact Or.inl rfl | exact Or.inr rfl) (bpe_fnx T.fits G_fits hr pass0' (bpa_cons (bpv 5) (bpa_cons (bpv 6) bpa_nil))))
      (bpss_one (bps_if (bpw_or (bpt_not (bpt_val (bpe_callB call_isinst (by rfl) T.b_isinstance PyProof.Rows.boot_isinstance (bpa_cons (bpv 7) (bpa_cons (bpe_ty T.b_bool PyProof.Rows.boot_bool) bpa_nil))))) (bpw_or1 (bpt_cmpR op_ne (bpv 7) (bpe_fnx T.l_fit G_l_fit hr pass0' (bpa_cons (bpv 5) (bpa_cons (bpv 6) bpa_nil))) (nomark _)))).bpt
      (bpss_one (bps_ret bpe_bl))
      bpss_nil))))))
      (bpss_one (bps_ret bpe_bl)))))), ?_⟩
    walk_at "rs"
    refine seq_rule fun N hN => ?_
    walk_at "rd"
    refine ⟨_, _, _, rfl, hS, by decide, fun c => ⟨_, rfl, fun p H1 nms hp s1 e1 => hN _ _ ?_⟩⟩
    clear hN N
    have hS1 := s1.seq hS
    refine seq_rule fun N hN => ?_
    walk_at "rd"
    refine ⟨_, _, _, rfl, hS1, by decide, fun c => ⟨_, rfl, fun b hb => hN _ _ ?_⟩⟩
    clear hN N
    refine seq_rule fun N hN => ?_
    walk_at "rd"
    refine ⟨by decide, fun z hz => ⟨_, (Same.new hz).seq hS1, [V.int 0], SqL.of upd_same, by rw [List.length_map]; exact sz_of (show ns.length + 1 ≤ 100000 by omega), fun q hq => hN _ _ ?_⟩⟩
    clear hN N
    have s2 := (Same.new (o := .lst [V.int 0]) hz)
    have s3 := s1.trans (s2.trans (Same.new (o := .lst (ns.map V.int ++ [V.int 0])) hq))
    have e3 := (s2.trans (Same.new (o := .lst (ns.map V.int ++ [V.int 0])) hq)) _ _ e1.1
    have q3 : upd (upd H1 z (.lst [V.int 0])) q (.lst (ns.map V.int ++ [V.int 0])) q = some (.lst ((ns ++ [0]).map V.int)) := by rw [upd_same, List.map_append]; rfl
    generalize upd (upd H1 z (.lst [V.int 0])) q (.lst (ns.map V.int ++ [V.int 0])) = H3 at s3 e3 q3
    have e3' : NamesAt H3 p nms := ⟨e3, e1.2⟩
    refine seq_rule fun N hN => ?_
    have len : ((ns ++ [0]).map V.int).length = ns.length + 1 := by simp
    refine ⟨_, rfl, q, _, rfl, .inl (SqL.of q3), _, rfl, by rw [len]; omega, by rw [len]; omega, ?_⟩
    rw [len, Int.toNat_natCast]
    refine for_range (n := ns.length + 1) (lo := 0) (fun i σ H4 => ∃ v v' v2 v3, σ = [some (.ref a), some (.ref p), some (.int b), some (.ref q), v, v', v2, v3] ∧ Same H3 H4) ⟨none, none, none, none, rfl, Same.refl _⟩ ?_ ?_
    · rintro i σ H4 hi ⟨v, v', v2, v3, rfl, s4⟩
      clear hN
      have q4 := s4 _ _ q3
      have e4 : NamesAt H4 p nms := ⟨s4 _ _ e3, e1.2⟩
      have pick : ∀ j : Int, -(((ns.length + 1 : Nat)) : Int) ≤ j → j < ((ns.length + 1 : Nat) : Int) → ∃ c, atI ((ns ++ [0]).map V.int) j = some (.int c) := by
        intro j h0 h1
        obtain ⟨u, hu, hm⟩ := atI_any (xs := (ns ++ [0]).map V.int) (i := j) (by rw [len]; exact h0) (by rw [len]; exact h1)
        obtain ⟨c, _, rfl⟩ := List.mem_map.mp hm
        exact ⟨c, hu⟩
      obtain ⟨c1, hc1⟩ := pick (0 + (i : Int)) (by omega) (by omega)
      obtain ⟨c2, hc2⟩ := pick (0 + (i : Int) - 1) (by omega) (by omega)
      walk_at "rd"
      refine rd_ixL q4 hc1 ⟨_, _, _, _, rfl, e4, hb, fun m d H5 om hd s5 d5 => rd_ixL (s5 _ _ q4) hc2 ⟨_, _, _, _, _, _, rfl, ⟨s5 _ _ e4.1, e4.2⟩, hb, d5, om, fun sp d2 H6 hd2 s6 d6 => ⟨_, _, m, sp, rfl, s6 _ _ d5, d6, _, .bl _, _, kit_bb K, ite_F (by decide) ⟨_, _, m, sp, rfl, s6 _ _ d5, d6, om, fun H7 s7 => ⟨rfl, ite_F (fun z => z rfl) ?_⟩⟩⟩⟩⟩
      exact ((s4.trans s5).trans s6).trans s7
    · rintro σ H4 ⟨v, v', v2, v3, rfl, s4⟩
      refine hN _ _ ?_
      walk_at "rd"
      exact k H4
end
theorem all_mk {l : PySem.W.OpenLaw} {w : World} {K : PySem.W.Frag} {h : Heap} {mg : Str → Option Value} {fa : Addr} (X : K.In h) (G : h.Ns mainGlobals mg) (hfa : mg "law" = some (.ref fa))
    {f0 : Addr} {od0 an0 : Option Addr} {sl0 : Array (Option Value)} {oc0 kV0 dc0 pm0 cd0 ct0 : Value}
    (a0 : PySem.W.nsIn K mainGlobals "weight_meets" = some (some (.ref f0)))
    (l0 : K.lookup f0 = some ⟨oc0, od0, .func (PySem.W.fnOf "weight_meets" "weight_meets" (defArgs s_weight_meets) (defBody s_weight_meets) (defScope s_weight_meets) .none kV0 dc0 pm0 an0 cd0 ct0), sl0⟩) (c0 : PySem.W.codeIn K cd0 "weight_meets" = true) (k0 : PySem.W.keepIn K (.ref f0) = true)
    {f1 : Addr} {od1 an1 : Option Addr} {sl1 : Array (Option Value)} {oc1 kV1 dc1 pm1 cd1 ct1 : Value}
    (a1 : PySem.W.nsIn K mainGlobals "fits" = some (some (.ref f1)))
    (l1 : K.lookup f1 = some ⟨oc1, od1, .func (PySem.W.fnOf "fits" "fits" (defArgs s_fits) (defBody s_fits) (defScope s_fits) .none kV1 dc1 pm1 an1 cd1 ct1), sl1⟩) (c1 : PySem.W.codeIn K cd1 "fits" = true) (k1 : PySem.W.keepIn K (.ref f1) = true)
    {f2 : Addr} {od2 an2 : Option Addr} {sl2 : Array (Option Value)} {oc2 kV2 dc2 pm2 cd2 ct2 : Value}
    (a2 : PySem.W.nsIn K mainGlobals "_law_cell_at" = some (some (.ref f2)))
    (l2 : K.lookup f2 = some ⟨oc2, od2, .func (PySem.W.fnOf "_law_cell_at" "_law_cell_at" (defArgs s_l_cell_at) (defBody s_l_cell_at) (defScope s_l_cell_at) .none kV2 dc2 pm2 an2 cd2 ct2), sl2⟩) (c2 : PySem.W.codeIn K cd2 "_law_cell_at" = true) (k2 : PySem.W.keepIn K (.ref f2) = true)
    {f3 : Addr} {od3 an3 : Option Addr} {sl3 : Array (Option Value)} {oc3 kV3 dc3 pm3 cd3 ct3 : Value}
    (a3 : PySem.W.nsIn K mainGlobals "_law_mixed" = some (some (.ref f3)))
    (l3 : K.lookup f3 = some ⟨oc3, od3, .func (PySem.W.fnOf "_law_mixed" "_law_mixed" (defArgs s_l_mixed) (defBody s_l_mixed) (defScope s_l_mixed) .none kV3 dc3 pm3 an3 cd3 ct3), sl3⟩) (c3 : PySem.W.codeIn K cd3 "_law_mixed" = true) (k3 : PySem.W.keepIn K (.ref f3) = true)
    {f4 : Addr} {od4 an4 : Option Addr} {sl4 : Array (Option Value)} {oc4 kV4 dc4 pm4 cd4 ct4 : Value}
    (a4 : PySem.W.nsIn K mainGlobals "_law_names" = some (some (.ref f4)))
    (l4 : K.lookup f4 = some ⟨oc4, od4, .func (PySem.W.fnOf "_law_names" "_law_names" (defArgs s_l_names) (defBody s_l_names) (defScope s_l_names) .none kV4 dc4 pm4 an4 cd4 ct4), sl4⟩) (c4 : PySem.W.codeIn K cd4 "_law_names" = true) (k4 : PySem.W.keepIn K (.ref f4) = true)
    {f5 : Addr} {od5 an5 : Option Addr} {sl5 : Array (Option Value)} {oc5 kV5 dc5 pm5 cd5 ct5 : Value}
    (a5 : PySem.W.nsIn K mainGlobals "_law_base" = some (some (.ref f5)))
    (l5 : K.lookup f5 = some ⟨oc5, od5, .func (PySem.W.fnOf "_law_base" "_law_base" (defArgs s_l_base) (defBody s_l_base) (defScope s_l_base) .none kV5 dc5 pm5 an5 cd5 ct5), sl5⟩) (c5 : PySem.W.codeIn K cd5 "_law_base" = true) (k5 : PySem.W.keepIn K (.ref f5) = true)
    {f6 : Addr} {od6 an6 : Option Addr} {sl6 : Array (Option Value)} {oc6 kV6 dc6 pm6 cd6 ct6 : Value}
    (a6 : PySem.W.nsIn K mainGlobals "_law_number" = some (some (.ref f6)))
    (l6 : K.lookup f6 = some ⟨oc6, od6, .func (PySem.W.fnOf "_law_number" "_law_number" (defArgs s_l_number) (defBody s_l_number) (defScope s_l_number) .none kV6 dc6 pm6 an6 cd6 ct6), sl6⟩) (c6 : PySem.W.codeIn K cd6 "_law_number" = true) (k6 : PySem.W.keepIn K (.ref f6) = true)
    {f7 : Addr} {od7 an7 : Option Addr} {sl7 : Array (Option Value)} {oc7 kV7 dc7 pm7 cd7 ct7 : Value}
    (a7 : PySem.W.nsIn K mainGlobals "_law_mark_by" = some (some (.ref f7)))
    (l7 : K.lookup f7 = some ⟨oc7, od7, .func (PySem.W.fnOf "_law_mark_by" "_law_mark_by" (defArgs s_l_mark_by) (defBody s_l_mark_by) (defScope s_l_mark_by) .none kV7 dc7 pm7 an7 cd7 ct7), sl7⟩) (c7 : PySem.W.codeIn K cd7 "_law_mark_by" = true) (k7 : PySem.W.keepIn K (.ref f7) = true)
    {f8 : Addr} {od8 an8 : Option Addr} {sl8 : Array (Option Value)} {oc8 kV8 dc8 pm8 cd8 ct8 : Value}
    (a8 : PySem.W.nsIn K mainGlobals "_law_step_by" = some (some (.ref f8)))
    (l8 : K.lookup f8 = some ⟨oc8, od8, .func (PySem.W.fnOf "_law_step_by" "_law_step_by" (defArgs s_l_step_by) (defBody s_l_step_by) (defScope s_l_step_by) .none kV8 dc8 pm8 an8 cd8 ct8), sl8⟩) (c8 : PySem.W.codeIn K cd8 "_law_step_by" = true) (k8 : PySem.W.keepIn K (.ref f8) = true)
    {f9 : Addr} {od9 an9 : Option Addr} {sl9 : Array (Option Value)} {oc9 kV9 dc9 pm9 cd9 ct9 : Value}
    (a9 : PySem.W.nsIn K mainGlobals "_law_fit" = some (some (.ref f9)))
    (l9 : K.lookup f9 = some ⟨oc9, od9, .func (PySem.W.fnOf "_law_fit" "_law_fit" (defArgs s_l_fit) (defBody s_l_fit) (defScope s_l_fit) .none kV9 dc9 pm9 an9 cd9 ct9), sl9⟩) (c9 : PySem.W.codeIn K cd9 "_law_fit" = true) (k9 : PySem.W.keepIn K (.ref f9) = true)
    {f10 : Addr} {od10 an10 : Option Addr} {sl10 : Array (Option Value)} {oc10 kV10 dc10 pm10 cd10 ct10 : Value}
    (a10 : PySem.W.nsIn K mainGlobals "_law_near_by" = some (some (.ref f10)))
    (l10 : K.lookup f10 = some ⟨oc10, od10, .func (PySem.W.fnOf "_law_near_by" "_law_near_by" (defArgs s_l_near_by) (defBody s_l_near_by) (defScope s_l_near_by) .none kV10 dc10 pm10 an10 cd10 ct10), sl10⟩) (c10 : PySem.W.codeIn K cd10 "_law_near_by" = true) (k10 : PySem.W.keepIn K (.ref f10) = true)
    {f11 : Addr} {od11 an11 : Option Addr} {sl11 : Array (Option Value)} {oc11 kV11 dc11 pm11 cd11 ct11 : Value}
    (a11 : PySem.W.nsIn K mainGlobals "law" = some (some (.ref f11)))
    (l11 : K.lookup f11 = some ⟨oc11, od11, .func (PySem.W.fnOf "law" "law" (defArgs s_law) (defBody s_law) (defScope s_law) .none kV11 dc11 pm11 an11 cd11 ct11), sl11⟩) (c11 : PySem.W.codeIn K cd11 "law" = true) (k11 : PySem.W.keepIn K (.ref f11) = true)
    {tk0 : Tok} (g0 : PySem.W.nsIn K mainGlobals "ANY_NAME" = some (some (Value.str (v_ANY_NAME) tk0)))
    (z0 : PySem.W.nsIn K mainGlobals "len" = some none)
    (z1 : PySem.W.nsIn K mainGlobals "isinstance" = some none)
    (z2 : PySem.W.nsIn K mainGlobals "bool" = some none)
    (z3 : PySem.W.nsIn K mainGlobals "range" = some none)
    (z4 : PySem.W.nsIn K mainGlobals "list" = some none)
    : ∃ fd : FuncData, (∀ (s : Shared) (v : Value), BindsTo s fd ⟨[v], []⟩ [("script", v)]) ∧ ∀ base : Heap, K.In base → base.Ns mainGlobals mg → FnOk l.prog w K mg base (CX1 l.prog w) 5 fa fd ["script"] (spLaw K) := by
  have e := hfa.symm.trans (PySem.W.mg_of X G a11)
  cases e
  have F0 := fun_mk (st := s_weight_meets) l0 c0 k0
  have b0 := F0.binds (ps := ["weight", "sign", "number"]) fun _ _ _ _ _ _ us hl => match us, hl with | [_, _, _], _ => rfl
  have F1 := fun_mk (st := s_fits) l1 c1 k1
  have b1 := F1.binds (ps := ["mark", "step"]) fun _ _ _ _ _ _ us hl => match us, hl with | [_, _], _ => rfl
  have F2 := fun_mk (st := s_l_cell_at) l2 c2 k2
  have b2 := F2.binds (ps := ["script", "k"]) fun _ _ _ _ _ _ us hl => match us, hl with | [_, _], _ => rfl
  have F3 := fun_mk (st := s_l_mixed) l3 c3 k3
  have b3 := F3.binds (ps := ["cell"]) fun _ _ _ _ _ _ us hl => match us, hl with | [_], _ => rfl
  have F4 := fun_mk (st := s_l_names) l4 c4 k4
  have b4 := F4.binds (ps := ["cell"]) fun _ _ _ _ _ _ us hl => match us, hl with | [_], _ => rfl
  have F5 := fun_mk (st := s_l_base) l5 c5 k5
  have b5 := F5.binds (ps := ["cell"]) fun _ _ _ _ _ _ us hl => match us, hl with | [_], _ => rfl
  have F6 := fun_mk (st := s_l_number) l6 c6 k6
  have b6 := F6.binds (ps := ["cell", "turn", "base"]) fun _ _ _ _ _ _ us hl => match us, hl with | [_, _, _], _ => rfl
  have F7 := fun_mk (st := s_l_mark_by) l7 c7 k7
  have b7 := F7.binds (ps := ["cell", "names", "base"]) fun _ _ _ _ _ _ us hl => match us, hl with | [_, _, _], _ => rfl
  have F8 := fun_mk (st := s_l_step_by) l8 c8 k8
  have b8 := F8.binds (ps := ["cell", "names", "base"]) fun _ _ _ _ _ _ us hl => match us, hl with | [_, _, _], _ => rfl
  have F9 := fun_mk (st := s_l_fit) l9 c9 k9
  have b9 := F9.binds (ps := ["mark", "step"]) fun _ _ _ _ _ _ us hl => match us, hl with | [_, _], _ => rfl
  have F10 := fun_mk (st := s_l_near_by) l10 c10 k10
  have b10 := F10.binds (ps := ["cell", "mark", "names", "base"]) fun _ _ _ _ _ _ us hl => match us, hl with | [_, _, _, _], _ => rfl
  have F11 := fun_mk (st := s_law) l11 c11 k11
  have T : Txt K mg ⟨f0, _, f1, _, f2, _, f3, _, f4, _, f5, _, f6, _, f7, _, f8, _, f9, _, f10, _⟩ := ⟨⟨F0, b0, PySem.W.mg_of X G a0⟩, ⟨F1, b1, PySem.W.mg_of X G a1⟩, ⟨F2, b2, PySem.W.mg_of X G a2⟩, ⟨F3, b3, PySem.W.mg_of X G a3⟩, ⟨F4, b4, PySem.W.mg_of X G a4⟩, ⟨F5, b5, PySem.W.mg_of X G a5⟩, ⟨F6, b6, PySem.W.mg_of X G a6⟩, ⟨F7, b7, PySem.W.mg_of X G a7⟩, ⟨F8, b8, PySem.W.mg_of X G a8⟩, ⟨F9, b9, PySem.W.mg_of X G a9⟩, ⟨F10, b10, PySem.W.mg_of X G a10⟩, ⟨_, PySem.W.mg_of X G g0, ⟨_, rfl⟩⟩, PySem.W.mg_none_of X G z0, PySem.W.mg_none_of X G z1, PySem.W.mg_none_of X G z2, PySem.W.mg_none_of X G z3, PySem.W.mg_none_of X G z4⟩
  exact ⟨PySem.W.fnOf "law" "law" (defArgs s_law) (defBody s_law) (defScope s_law) .none kV11 dc11 pm11 an11 cd11 ct11, fun s v => .of_eq rfl, fun base _ _ => ok_law F11 T⟩
theorem walk {l : PySem.W.OpenLaw} {q : Program} {loose : List Str} {XP : (Str → Option Value) → Heap → Prop} {YP : World → Heap → Prop} {d : DefRec} {K : Params → PySem.W.Frag} (hn : l.most = some 63) (hdf : d.params.defaults = [])
    (hY : ∀ (w : World) (h : Heap), YP w h → (K w.params).In h)
    (F : ∀ (w : World) (mg : Str → Option Value) (fa : Addr) (h : Heap), (K w.params).In h → h.Ns mainGlobals mg → mg d.name = some (.ref fa) →
      ∃ fd : FuncData, (∀ (s : Shared) (u : Value), BindsTo s fd ⟨[u], []⟩ [("script", u)]) ∧ ∀ base : Heap, (K w.params).In base → base.Ns mainGlobals mg → FnOk l.prog w (K w.params) mg base (CX1 l.prog w) 5 fa fd ["script"] (spLaw (K w.params))) :
    PySem.W.WalkO q loose XP YP l.row.toRowW d [] (fun f vs => PySem.call f vs) :=
  L2.walk_of (n := 63) (k := 5) (x := "script") (CX := fun w => CX1 l.prog w) (sp := fun w => spLaw (K w.params)) hn (by decide) hdf ⟨rfl, by decide, by decide⟩ hY F (fun _ _ a ns hl _ hS => ⟨a, ns, rfl, hS, hl, fun _ => rfl⟩) fun _ _ _ _ _ ⟨_, _, _, _, _, z⟩ => z
end K22
open PySem PySem.W PyProof.Rows
abbrev rowAt : RowW := PySem.Challenge.rw_tieseek_k22_one_step_fits.row.toRowW
def seenP : Program :=
  { rowAt.prog with main := { rowAt.prog.main with
      body := ((rowAt.prog.main.body.eraseIdx 4).eraseIdx 1) } }
abbrev seenX : Shared → Bool := fun s => xlAt seenP [] s && recOk rowAt.records s
theorem two_looks {W α β γ : Type} {x : W → Option α} {f : α → β} {g : α → γ} {b : β} {c : W → γ}
    (h : ∀ w, (x w).map f = some b) (k : ∀ w, (x w).map g = some (c w)) (w : W) :
    (x w).map (fun s => (f s, g s)) = some (b, c w) := by
  have h := h w
  have k := k w
  revert h k
  cases x w with
  | none => intro h; cases h
  | some a => intro h k; cases h; rw [← Option.some.inj k]; rfl
set_option maxRecDepth 100000 in
set_option maxHeartbeats 0 in
theorem first_look : ∀ w : World, (openEnds treeTable rowAt.prog w 936).map
    (fun s => openSeen seenP [] (importedModules rowAt.prog.main.body) seenX true s) =
    some (openGood seenP []) := by
  intro w
  unfold openEnds fencedOpening topFrom
  rw [Fast.te14082659384304107361,
      Fast.te14364793385576792824,
      Fast.te10274390034422433532,
      Fast.te14289696077712309145,
      Fast.te1435165496053646825,
      Fast.te4187177175401517315,
      Fast.te5923862056798008813]
  kernel_rfl
local macro_rules
  | `(tactic| o_head $H) => `(tactic|
    refine holds_open (q := seenP) (loose := []) (Xt := seenX)
      (XP := XL seenP []) (Yf := Hook.obs $H) (Ya := Hook.val $H)
      (YP := Hook.says $H) (N := 936) (two_looks first_look ?hl) (Hook.of $H) (Hook.keeps $H)
      (fun s e => xl_of s (Bool.and_eq_true_iff.mp e).1) XL.keeps
      (by rfl) (by rfl) (by rfl)
      (fun s e => recFacts_of (Bool.and_eq_true_iff.mp e).2)
      (by rfl) (by first | assumption | decide +kernel)
      (by decide +kernel) ⟨rfl, rfl, rfl, rfl, rfl, by decide +kernel⟩ ?hw ?hc)
set_option maxRecDepth 100000 in
set_option maxHeartbeats 0 in
theorem PySem.Challenge.cw_tieseek_k22_one_step_fits_holds : PySem.Challenge.rw_tieseek_k22_one_step_fits.Holds := by
  w_on; o_law; k_head; (case hw => w_witness2)
  case hl =>
    intro w
    unfold openEnds fencedOpening topFrom
    rw [Fast.te14082659384304107361, Fast.te14364793385576792824, Fast.te10274390034422433532, Fast.te14289696077712309145, Fast.te1435165496053646825, Fast.te5923862056798008813]
    kernel_rfl
  k_fill
  refine K22.walk (l := PySem.Challenge.rw_tieseek_k22_one_step_fits) rfl rfl (fun w h Y => PySem.W.kIn_of Y) ?F
  case F =>
    intro w mg fa h KX G hmg
    refine' K22.all_mk KX G hmg ?xa0 ?xl0 ?xc0 ?xk0 ?xa1 ?xl1 ?xc1 ?xk1 ?xa2 ?xl2 ?xc2 ?xk2 ?xa3 ?xl3 ?xc3 ?xk3 ?xa4 ?xl4 ?xc4 ?xk4 ?xa5 ?xl5 ?xc5 ?xk5 ?xa6 ?xl6 ?xc6 ?xk6 ?xa7 ?xl7 ?xc7 ?xk7 ?xa8 ?xl8 ?xc8 ?xk8 ?xa9 ?xl9 ?xc9 ?xk9 ?xa10 ?xl10 ?xc10 ?xk10 ?xa11 ?xl11 ?xc11 ?xk11 ?xg0 ?xz0 ?xz1 ?xz2 ?xz3 ?xz4
    (case xa0 => k_is)
    (case xl0 => k_is)
    (case xc0 => k_is)
    (case xk0 => k_is)
    (case xa1 => k_is)
    (case xl1 => k_is)
    (case xc1 => k_is)
    (case xk1 => k_is)
    (case xa2 => k_is)
    (case xl2 => k_is)
    (case xc2 => k_is)
    (case xk2 => k_is)
    (case xa3 => k_is)
    (case xl3 => k_is)
    (case xc3 => k_is)
    (case xk3 => k_is)
    (case xa4 => k_is)
    (case xl4 => k_is)
    (case xc4 => k_is)
    (case xk4 => k_is)
    (case xa5 => k_is)
    (case xl5 => k_is)
    (case xc5 => k_is)
    (case xk5 => k_is)
    (case xa6 => k_is)
    (case xl6 => k_is)
    (case xc6 => k_is)
    (case xk6 => k_is)
    (case xa7 => k_is)
    (case xl7 => k_is)
    (case xc7 => k_is)
    (case xk7 => k_is)
    (case xa8 => k_is)
    (case xl8 => k_is)
    (case xc8 => k_is)
    (case xk8 => k_is)
    (case xa9 => k_is)
    (case xl9 => k_is)
    (case xc9 => k_is)
    (case xk9 => k_is)
    (case xa10 => k_is)
    (case xl10 => k_is)
    (case xc10 => k_is)
    (case xk10 => k_is)
    (case xa11 => k_is)
    (case xl11 => k_is)
    (case xc11 => k_is)
    (case xk11 => k_is)
    (case xg0 => k_is)
    (case xz0 => k_is)
    (case xz1 => k_is)
    (case xz2 => k_is)
    (case xz3 => k_is)
    (case xz4 => k_is)
