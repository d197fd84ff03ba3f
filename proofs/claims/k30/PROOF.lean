import PyProof.Rows.All
import Wide.All
import KE.KDictOf
import KE.KFromBytes
import KE.KIntText
import KE.KItemsList
import KE.KRevIter
import KE.KSortTup
import KE.KTryMore
import KE.LcSums
import Wide.FinOn
import Lean
import PyProof.EqAt
import PyProof.EqKinds
import PyProof.TupleCall
import PySem.Challenge.RW_tieseek_k30_ways_and_ends_in_a_book
set_option Elab.async false
set_option linter.all false
set_option maxRecDepth 100000
set_option Elab.async false
set_option linter.all false
set_option maxRecDepth 100000
namespace L2
open PySem PySem.Spec PyProof.Rows
abbrev Key := Sum Int Str
def keyIs : Key → Value → Bool
  | .inl k, v => Value.isInt k v
  | .inr x, v => Value.isStrOf x v
def keyH (w : World) : Key → Int
  | .inl k => hashInt k
  | .inr x => hashStr w x
theorem keyIs_shape : ∀ {k : Key} {v : Value}, keyIs k v = true → (∃ i t, k = Sum.inl i ∧ v = Value.int i t) ∨ (∃ x t, k = Sum.inr x ∧ v = Value.str x t)
  | .inl i, v, h => by
    obtain ⟨t, e⟩ := Value.isInt_shape (k := i) (v := v) h
    exact .inl ⟨i, t, rfl, e⟩
  | .inr x, v, h => by
    obtain ⟨t, e⟩ := Value.isStrOf_shape (x := x) (v := v) h
    exact .inr ⟨x, t, rfl, e⟩
theorem keyIs_int (i : Int) (t : Tok) : keyIs (.inl i) (.int i t) = true := by simp [keyIs, Value.isInt]
theorem keyIs_str (x : Str) (t : Tok) : keyIs (.inr x) (.str x t) = true := by simp [keyIs, Value.isStrOf]
theorem key_ll (a b : Int) : decide ((Sum.inl a : Key) = Sum.inl b) = (a == b) := by
  by_cases e : a = b
  · subst e; simp
  · have h : ¬ (Sum.inl a : Key) = Sum.inl b := fun q => e (Sum.inl.inj q)
    rw [decide_eq_false h]
    exact (beq_eq_false_iff_ne.mpr e).symm
theorem key_rr (a b : Str) : decide ((Sum.inr a : Key) = Sum.inr b) = decide (a = b) := by
  by_cases e : a = b
  · subst e; simp
  · have h : ¬ (Sum.inr a : Key) = Sum.inr b := fun q => e (Sum.inr.inj q)
    rw [decide_eq_false h, decide_eq_false e]
theorem key_lr (a : Int) (b : Str) : decide ((Sum.inl a : Key) = Sum.inr b) = false := decide_eq_false (fun q => nomatch q)
theorem key_rl (a : Str) (b : Int) : decide ((Sum.inr a : Key) = Sum.inl b) = false := decide_eq_false (fun q => nomatch q)
def mixKind (prog : Program) (w : World) : PySem.KeyKind prog w Key where
  is := keyIs
  hash := keyH w
  inj := fun v a b ha hb => by
    rcases keyIs_shape ha with ⟨i, t, rfl, rfl⟩ | ⟨x, t, rfl, rfl⟩
    · rcases keyIs_shape hb with ⟨j, u, rfl, e⟩ | ⟨y, u, rfl, e⟩
      · injection e with e1 _; rw [e1]
      · exact nomatch e
    · rcases keyIs_shape hb with ⟨j, u, rfl, e⟩ | ⟨y, u, rfl, e⟩
      · exact nomatch e
      · injection e with e1 _; rw [e1]
  byValue := fun k v h => by
    rcases keyIs_shape h with ⟨i, t, rfl, rfl⟩ | ⟨x, t, rfl, rfl⟩ <;> rfl
  pyHash := fun hv h => by
    rcases keyIs_shape hv with ⟨i, t, rfl, rfl⟩ | ⟨x, t, rfl, rfl⟩
    · exact wpAny_pyHash_int h
    · exact wpAny_pyHash_str h
  eqBool := fun hu hv h => by
    rcases keyIs_shape hu with ⟨i, t, rfl, rfl⟩ | ⟨x, t, rfl, rfl⟩
    · rcases keyIs_shape hv with ⟨j, u, rfl, rfl⟩ | ⟨y, u, rfl, rfl⟩
      · rw [key_ll] at h; exact wpAny_eqBool_int h
      · rw [key_lr] at h; exact SeqAt.EqAt.int_str i t y u _ _ _ _ h
    · rcases keyIs_shape hv with ⟨j, u, rfl, rfl⟩ | ⟨y, u, rfl, rfl⟩
      · rw [key_rl] at h; exact SeqAt.EqAt.str_int x t j u _ _ _ _ h
      · rw [key_rr] at h; exact wpAny_eqBool_str h
  «strs» := fun k x t v h => by
    rcases keyIs_shape h with ⟨i, u, rfl, e⟩ | ⟨y, u, rfl, e⟩
    · exact nomatch e
    · injection e with e1 _
      subst e1
      cases v <;> rfl
theorem mixKind_int (prog : Program) (w : World) (i : Int) (t : Tok) : (mixKind prog w).is (.inl i) (.int i t) = true := keyIs_int i t
theorem mixKind_str (prog : Program) (w : World) (x : Str) (t : Tok) : (mixKind prog w).is (.inr x) (.str x t) = true := keyIs_str x t
end L2
namespace L2
open PySem PySem.Spec PyProof.Rows
inductive V where
  | non | bl (b : Bool) | int (i : Int) | str (x : Str) | byt (b : Array UInt8) | flt (b : UInt64) | ref (a : Addr) | ty (n : String)
  deriving DecidableEq
def RelV : V → Value → Prop
  | .non, u => u = Value.none
  | .bl b, u => u = Value.bool b
  | .int i, u => ∃ t, u = Value.int i t
  | .str x, u => ∃ t, u = Value.str x t
  | .byt b, u => ∃ t, u = Value.bytes b t
  | .flt b, u => ∃ t, u = Value.float b t
  | .ref a, u => u = Value.ref a
  | .ty n, u => u = Value.type n
abbrev Vals : List V → List Value → Prop := Paired RelV
theorem Vals.length {xs : List V} {us : List Value} (r : Vals xs us) : xs.length = us.length := Paired.length r
theorem Vals.get : ∀ {xs : List V} {us : List Value} {i : Nat} {x : V}, Vals xs us → xs[i]? = some x → ∃ u, us[i]? = some u ∧ RelV x u
  | _, _, _, _, .nil, e => by simp at e
  | _, _, 0, _, .cons r _, e => by simp at e; subst e; exact ⟨_, rfl, r⟩
  | _, _, i + 1, x, .cons _ t, e => by
    obtain ⟨u, h1, h2⟩ := Vals.get (i := i) (x := x) t (by simpa using e)
    exact ⟨u, by simpa using h1, h2⟩
theorem Vals.set {x : V} {u : Value} (r : RelV x u) : ∀ {xs : List V} {us : List Value} (i : Nat), Vals xs us → Vals (xs.set i x) (us.set i u)
  | _, _, _, .nil => .nil
  | _, _, 0, .cons _ t => .cons r t
  | _, _, i + 1, .cons q t => .cons q (Vals.set r i t)
theorem Vals.append : ∀ {xs ys : List V} {us ws : List Value}, Vals xs us → Vals ys ws → Vals (xs ++ ys) (us ++ ws)
  | _, _, _, _, .nil, s => s
  | _, _, _, _, .cons r t, s => .cons r (Vals.append t s)
theorem Vals.take : ∀ {xs : List V} {us : List Value} (n : Nat), Vals xs us → Vals (xs.take n) (us.take n)
  | _, _, 0, _ => .nil
  | _, _, _ + 1, .nil => .nil
  | _, _, n + 1, .cons r t => .cons r (Vals.take n t)
theorem Vals.drop : ∀ {xs : List V} {us : List Value} (n : Nat), Vals xs us → Vals (xs.drop n) (us.drop n)
  | _, _, 0, r => r
  | _, _, _ + 1, .nil => .nil
  | _, _, n + 1, .cons _ t => Vals.drop n t
theorem Vals.none_of : ∀ {xs : List V} {us : List Value} {i : Nat}, Vals xs us → xs[i]? = none → us[i]? = none := fun {xs us i} r e => by
  have h1 := r.length
  have h2 : xs.length ≤ i := List.getElem?_eq_none_iff.mp e
  exact List.getElem?_eq_none_iff.mpr (by omega)
def RelO : Option V → Option Value → Prop
  | some v, some u => RelV v u
  | none, none => True
  | _, _ => False
def KV {κ : Type} : List (κ × V) → List (κ × Value) → Prop := Paired fun (p : κ × V) (q : κ × Value) => p.1 = q.1 ∧ RelV p.2 q.2
def kV : Key → V
  | .inl i => .int i
  | .inr x => .str x
inductive HO where
    | lst (xs : List V)
    | tup (xs : List V)
    | dK (kvs : List (Key × V)) | dT (kvs : List (List Key × V))
    | set (S : Int → Bool) (n : Nat)
    | ins (C dx : Addr) (fs : List (Str × V))
    | own (x : Addr)
    | xd (fs : List (Str × V))
    | met (f x : Addr)
    | rng (lo hi : Int)
    | frz (o : Obj) (u : HO)
    | tbl (ps : Array Value)
    | ext (φ : Heap → Prop)
abbrev Hp := Addr → Option HO
def upd (H : Hp) (a : Addr) (o : HO) : Hp := fun b => if b = a then some o else H b
theorem upd_same {H : Hp} {a : Addr} {o : HO} : upd H a o a = some o := by unfold upd; rw [if_pos rfl]
theorem upd_ne {H : Hp} {a b : Addr} {o : HO} (h : b ≠ a) : upd H a o b = H b := by unfold upd; rw [if_neg h]
theorem ne_of {H : Hp} {a b : Addr} {o u : HO} (h : H a = some o) (h' : H b = some u) (d : o ≠ u) : a ≠ b := by
  intro e; subst e; rw [h] at h'; exact d (Option.some.inj h')
theorem ne_of_none {H : Hp} {a b : Addr} {o : HO} (h : H a = some o) (h' : H b = none) : a ≠ b := by
  intro e; subst e; rw [h] at h'; cases h'
section
variable (P : Program) (w : World)
def ObjOk (H : Hp) (h : Heap) (a : Addr) : HO → Prop
  | .lst xs => xs.length ≤ sizeLine ∧ ∃ (its : List Value) (n : Nat), Vals xs its ∧ h.get? a = some { cls := .type "list", data := .seq its.toArray n }
  | .tup xs => xs.length ≤ sizeLine ∧ ∃ its : List Value, Vals xs its ∧ IsTup h a its.toArray
  | .dK kvs => kvs.length ≤ sizeLine ∧ (a == sysModules) = false ∧ ∃ vs, KV kvs vs ∧ h.DictOf (mixKind P w) a vs
  | .dT kvs => kvs.length ≤ sizeLine ∧ (a == sysModules) = false ∧ ∃ xs : List (List Key × Addr × Value),
      Paired (fun (p : List Key × V) (q : List Key × Addr × Value) => p.1 = q.1 ∧ H q.2.1 = some (.tup (p.1.map kV)) ∧ RelV p.2 q.2.2) kvs xs ∧
      ∃ o es ep, h.get? a = some o ∧ o.ExactDict ∧ o.data = .dict es ep ∧ es.toList = xs.map (entryOfKey (tupleKind (mixKind P w))) ∧ (xs.map (·.1)).Nodup
  | .set S n => h.SetOf (intKind P w) a S n
  | .ins C dx fs => H dx = some (.own a) ∧ fs.length ≤ 1000 ∧ dx ≠ a ∧ h.get? a = some (PySem.W.instObj C dx) ∧
      ∃ mA, h.Ns1 dx mA ∧ (∀ f, RelO (fs.lookup f) (mA f)) ∧ PySem.Within mA (fs.map (·.1))
  | .own _ => ∃ o, h.get? a = some o
  | .xd fs => ∃ mA, h.Ns1 a mA ∧ ∀ f, RelO (fs.lookup f) (mA f)
  | .rng lo hi => ∃ t u v, h.get? a = some { cls := .type "range", data := .fields #[.int lo t, .int hi u, .int 1 v] }
  | .frz o u => h.get? a = some o ∧ ObjOk H h a u
  | .tbl ps => h.get? a = some { cls := .none, data := .fields ps }
  | .met f x => h.get? a = some (PySem.W.methodObj (.ref f) (.ref x))
  | .ext φ => φ h ∧ (∃ o, h.get? a = some o) ∧ ∀ h1 h2 : Heap, φ h1 → (∀ o, h1.get? a = some o → h2.get? a = some o) → φ h2
def HOk (H : Hp) (h : Heap) : Prop := ∀ a o, H a = some o → ObjOk P w H h a o
end
section
variable {P : Program} {w : World} {H H' : Hp} {h h' : Heap} {a : Addr} {o : HO}
theorem ObjOk.lt (x : ObjOk P w H h a o) : a < h.objs.size := by
  cases o with
  | lst xs => obtain ⟨_, _, _, _, e⟩ := x; exact Heap.lt_size e
  | tup xs => obtain ⟨_, _, _, p⟩ := x; exact p.lt
  | dK kvs => obtain ⟨_, _, _, _, o, _, _, e, _⟩ := x; exact Heap.lt_size e
  | dT kvs => obtain ⟨_, _, _, _, o, _, _, e, _⟩ := x; exact Heap.lt_size e
  | set S n => obtain ⟨o, _, _, _, e, _⟩ := x; exact Heap.lt_size e
  | ins C dx fs => obtain ⟨_, _, _, e, _⟩ := x; exact Heap.lt_size e
  | own y => obtain ⟨_, e⟩ := x; exact Heap.lt_size e
  | xd fs => obtain ⟨_, ⟨_, _, _, e, _⟩, _⟩ := x; exact Heap.lt_size e
  | rng lo hi => obtain ⟨_, _, _, e⟩ := x; exact Heap.lt_size e
  | frz ob u => obtain ⟨e, _⟩ := x; exact Heap.lt_size e
  | tbl ps => exact Heap.lt_size (show h.get? a = some _ from x)
  | met f y => exact Heap.lt_size (show h.get? a = some _ from x)
  | ext φ => obtain ⟨_, ⟨_, e⟩, _⟩ := x; exact Heap.lt_size e
theorem Paired.mapP {α β : Type} {F G : α → β → Prop} : ∀ {l₁ : List α} {l₂ : List β}, Paired F l₁ l₂ → (∀ a b, F a b → G a b) → Paired G l₁ l₂
  | _, _, .nil, _ => .nil
  | _, _, .cons r t, f => .cons (f _ _ r) (Paired.mapP t f)
theorem ObjOk.stay (x : ObjOk P w H h a o) (k : ∀ b u, (b = a ∨ H b = some (.own a)) → h.get? b = some u → h'.get? b = some u)
    (ho : ∀ b, H b = some (.own a) → H' b = some (.own a)) (ht : ∀ b xs, H b = some (.tup xs) → H' b = some (.tup xs)) : ObjOk P w H' h' a o := by
  induction o with
  | lst xs => obtain ⟨z, its, n, r, e⟩ := x; exact ⟨z, its, n, r, k _ _ (.inl rfl) e⟩
  | tup xs => obtain ⟨z, its, r, ob, e, c⟩ := x; exact ⟨z, its, r, ob, k _ _ (.inl rfl) e, c⟩
  | dK kvs => obtain ⟨z, y, vs, r, ob, es, ep, e, c⟩ := x; exact ⟨z, y, vs, r, ob, es, ep, k _ _ (.inl rfl) e, c⟩
  | dT kvs =>
    obtain ⟨z, y, xs, r, ob, es, ep, e, c⟩ := x
    exact ⟨z, y, xs, Paired.mapP r fun p q z => ⟨z.1, ht _ _ z.2.1, z.2.2⟩, ob, es, ep, k _ _ (.inl rfl) e, c⟩
  | set S n => obtain ⟨ob, es, ep, t, e, c⟩ := x; exact ⟨ob, es, ep, t, k _ _ (.inl rfl) e, c⟩
  | ins C dx fs =>
    obtain ⟨d, z, ne, e, mA, ⟨od, es, ep, e2, c⟩, r⟩ := x
    exact ⟨ho _ d, z, ne, k _ _ (.inl rfl) e, mA, ⟨od, es, ep, k _ _ (.inr d) e2, c⟩, r⟩
  | own y => obtain ⟨ob, e⟩ := x; exact ⟨ob, k _ _ (.inl rfl) e⟩
  | xd fs => obtain ⟨mA, ⟨od, es, ep, e, c⟩, r⟩ := x; exact ⟨mA, ⟨od, es, ep, k _ _ (.inl rfl) e, c⟩, r⟩
  | rng lo hi => obtain ⟨t, u, v, e⟩ := x; exact ⟨t, u, v, k _ _ (.inl rfl) e⟩
  | frz ob u ih => obtain ⟨e, q⟩ := x; exact ⟨k _ _ (.inl rfl) e, ih q⟩
  | tbl ps =>
    have e : h.get? a = some { cls := .none, data := .fields ps } := x
    show h'.get? a = some { cls := .none, data := .fields ps }
    exact k a _ (.inl rfl) e
  | met f y =>
    have e : h.get? a = some (PySem.W.methodObj (.ref f) (.ref y)) := x
    show h'.get? a = some (PySem.W.methodObj (.ref f) (.ref y))
    exact k a _ (.inl rfl) e
  | ext φ => obtain ⟨p, ⟨o, e⟩, st⟩ := x; exact ⟨st _ _ p fun o q => k _ _ (.inl rfl) q, ⟨o, k _ _ (.inl rfl) e⟩, st⟩
theorem HOk.lt (x : HOk P w H h) (e : H a = some o) : a < h.objs.size := (x a o e).lt
theorem HOk.fresh (x : HOk P w H h) (e : h.objs.size ≤ a) : H a = none := by
  cases q : H a with
  | none => rfl
  | some u => exact absurd (Nat.lt_of_lt_of_le (x.lt q) e) (Nat.lt_irrefl _)
theorem HOk.kept (x : HOk P w H h) (k : ∀ b u, h.get? b = some u → h'.get? b = some u) : HOk P w H h' := fun a o e =>
  (x a o e).stay (fun b u _ q => k b u q) (fun _ q => q) fun _ _ q => q
theorem HOk.laid (x : HOk P w H h) (k : ∀ b u, h.get? b = some u → h'.get? b = some u) (hp : h.objs.size ≤ a) (new : ObjOk P w (upd H a o) h' a o) : HOk P w (upd H a o) h' := fun b u e => by
  have hn := x.fresh hp
  by_cases hb : b = a
  · subst hb; rw [upd_same] at e; cases e; exact new
  · rw [upd_ne hb] at e
    exact (x b u e).stay (fun c v _ q => k c v q) (fun c q => by rw [upd_ne (ne_of_none q hn)]; exact q) fun c xs q => by rw [upd_ne (ne_of_none q hn)]; exact q
end
def Rd (H : Hp) (a : Addr) (u : HO) : Prop := H a = some u ∨ ∃ o, H a = some (.frz o u)
theorem Rd.of {H : Hp} {a : Addr} {u : HO} (h : H a = some u) : Rd H a u := .inl h
theorem Rd.ok {P : Program} {w : World} {H : Hp} {h : Heap} {a : Addr} {u : HO} (r : Rd H a u) (x : HOk P w H h) : ObjOk P w H h a u := by
  rcases r with r | ⟨o, r⟩
  · exact x a u r
  · obtain ⟨_, q⟩ := x a _ r
    exact q
def Mut : Option HO → Prop
  | some (.lst _) => True
  | some (.dK _) => True
  | some (.dT _) => True
  | some (.set _ _) => True
  | some (.ins _ _ _) => True
  | some (.ext _) => True
  | _ => False
section
variable {P : Program} {w : World} {H : Hp} {h h' : Heap} {x e : Addr} {o' : HO}
theorem HOk.write (ok : HOk P w H h) (mu : Mut (H x)) (he : e = x ∨ H e = some (.own x)) (k : ∀ b u, b ≠ e → h.get? b = some u → h'.get? b = some u) (heo : ∃ u, h'.get? e = some u)
    (new : ObjOk P w (upd H x o') h' x o') : HOk P w (upd H x o') h' := fun b u q => by
  have nown : ∀ c y, H c = some (.own y) → c ≠ x := fun c y r z => by subst z; rw [r] at mu; exact mu
  have ntup : ∀ c xs, H c = some (.tup xs) → c ≠ x := fun c xs r z => by subst z; rw [r] at mu; exact mu
  by_cases hb : b = x
  · subst hb; rw [upd_same] at q; cases q; exact new
  · rw [upd_ne hb] at q
    by_cases hbe : b = e
    · have q' : H b = some (.own x) := by
        rcases he with z | z
        · exact absurd (hbe.trans z) hb
        · rw [hbe]; exact z
      rw [q] at q'; cases q'
      obtain ⟨v, hv⟩ := heo
      exact ⟨v, by rw [hbe]; exact hv⟩
    · refine (ok b u q).stay (fun c v hc r => k c v ?_ r) (fun c r => by rw [upd_ne (nown c b r)]; exact r) fun c xs r => by rw [upd_ne (ntup c xs r)]; exact r
      rcases hc with rfl | hc
      · exact hbe
      · rintro rfl
        rcases he with z | z
        · exact nown c b hc z
        · rw [hc] at z; cases z; exact hb rfl
end
structure Un (fs ex : List Addr) (H H' : Hp) (h h' : Heap) : Prop where
  keep : ∀ b o, h.get? b = some o → H b = none → b ∉ fs → b ∉ ex → h'.get? b = some o
  slot : ∀ b o, h.get? b = some o → H b = none → b ∈ fs → b ∉ ex → ∃ sl, h'.get? b = some { o with slots := sl }
  free : ∀ b o, h.get? b = some o → H b = none → b ∉ ex → H' b = none
  there : ∀ b o, h.get? b = some o → b ∉ ex → ∃ o', h'.get? b = some o'
  tups : ∀ b xs, H b = some (.tup xs) → H' b = some (.tup xs)
  frzs : ∀ b o u, H b = some (.frz o u) → H' b = some (.frz o u)
  tbls : ∀ b ps, H b = some (.tbl ps) → ∃ more, H' b = some (.tbl (ps ++ more))
section
variable {fs fs' ex ex' : List Addr} {H H1 H2 : Hp} {h h1 h2 h' : Heap} {a x e : Addr} {o : HO}
theorem Un.any (u : Un fs ex H H1 h h1) {b : Addr} {ob : Obj} (q : h.get? b = some ob) (n : H b = none) (hx : b ∉ ex) : ∃ sl, h1.get? b = some { ob with slots := sl } := by
  by_cases hb : b ∈ fs
  · exact u.slot b ob q n hb hx
  · exact ⟨ob.slots, u.keep b ob q n hb hx⟩
theorem Un.trans (a : Un fs ex H H1 h h1) (b : Un fs ex H1 H2 h1 h2) : Un fs ex H H2 h h2 where
  keep := fun c ob q n hc hx => b.keep c ob (a.keep c ob q n hc hx) (a.free c ob q n hx) hc hx
  slot := fun c ob q n hc hx => by
    obtain ⟨sl, e1⟩ := a.slot c ob q n hc hx
    obtain ⟨sl', e2⟩ := b.slot c _ e1 (a.free c ob q n hx) hc hx
    exact ⟨sl', e2⟩
  free := fun c ob q n hx => by
    obtain ⟨o', e1⟩ := a.there c ob q hx
    exact b.free c o' e1 (a.free c ob q n hx) hx
  there := fun c ob q hx => by
    obtain ⟨o', e1⟩ := a.there c ob q hx
    exact b.there c o' e1 hx
  tups := fun c xs q => b.tups c xs (a.tups c xs q)
  frzs := fun c ob xs q => b.frzs c ob xs (a.frzs c ob xs q)
  tbls := fun c ps q => by
    obtain ⟨m1, e1⟩ := a.tbls c ps q
    obtain ⟨m2, e2⟩ := b.tbls c _ e1
    exact ⟨m1 ++ m2, by rw [e2, Array.append_assoc]⟩
theorem Un.kept (k : ∀ b u, h.get? b = some u → h'.get? b = some u) : Un fs ex H H h h' :=
  ⟨fun b ob q _ _ _ => k b ob q, fun b ob q _ _ _ => ⟨ob.slots, k b ob q⟩, fun _ _ _ n _ => n, fun b ob q _ => ⟨ob, k b ob q⟩, fun _ _ q => q, fun _ _ _ q => q, fun _ ps q => ⟨#[], by rw [q]; simp⟩⟩
theorem Un.refl : Un fs ex H H h h := Un.kept fun _ _ q => q
theorem Un.laid (k : ∀ b u, h.get? b = some u → h'.get? b = some u) (hp : h.objs.size ≤ a) (hn : H a = none) : Un fs ex H (upd H a o) h h' where
  keep := fun b u q _ _ _ => k b u q
  slot := fun b u q _ _ _ => ⟨u.slots, k b u q⟩
  free := fun b u q n _ => by rw [upd_ne (Nat.ne_of_lt (Nat.lt_of_lt_of_le (Heap.lt_size q) hp))]; exact n
  there := fun b u q _ => ⟨u, k b u q⟩
  tups := fun b xs q => by rw [upd_ne (ne_of_none q hn)]; exact q
  frzs := fun b u xs q => by rw [upd_ne (ne_of_none q hn)]; exact q
  tbls := fun b ps q => ⟨#[], by rw [upd_ne (ne_of_none q hn), q]; simp⟩
theorem Un.write (mu : Mut (H x)) (he : e = x ∨ H e = some (.own x)) (k : ∀ b u, b ≠ e → h.get? b = some u → h'.get? b = some u) (heo : ∃ u, h'.get? e = some u) : Un fs ex H (upd H x o) h h' := by
  have hx : ∀ b, H b = none → b ≠ x := fun b n z => by subst z; rw [n] at mu; exact mu
  have hb : ∀ b, H b = none → b ≠ e := fun b n z => by
    subst z
    rcases he with r | r
    · exact hx b n r
    · rw [n] at r; cases r
  have hm : ∀ b u, H b = some u → ¬ Mut (some u) → b ≠ x := fun b u q nm z => by subst z; rw [q] at mu; exact nm mu
  refine ⟨fun b u q n _ _ => k b u (hb b n) q, fun b u q n _ _ => ⟨u.slots, k b u (hb b n) q⟩, fun b u q n _ => by rw [upd_ne (hx b n)]; exact n, fun b u q _ => ?_,
    fun b xs q => by rw [upd_ne (hm b _ q fun z => z)]; exact q, fun b u xs q => by rw [upd_ne (hm b _ q fun z => z)]; exact q, fun b ps q => ⟨#[], by rw [upd_ne (hm b _ q fun z => z), q]; simp⟩⟩
  by_cases hbe : b = e
  · subst hbe; exact heo
  · exact ⟨u, k b u hbe q⟩
theorem Un.mono (u : Un fs ex H H1 h h1) (hs : ∀ b ∈ fs, b ∈ fs') (hx : ∀ b ∈ ex, b ∈ ex') : Un fs' ex' H H1 h h1 :=
  ⟨fun b ob q n hb he => u.keep b ob q n (fun z => hb (hs b z)) fun z => he (hx b z), fun _ _ q n _ he => u.any q n fun z => he (hx _ z), fun b ob q n he => u.free b ob q n fun z => he (hx b z), fun b ob q he => u.there b ob q fun z => he (hx b z), u.tups, u.frzs, u.tbls⟩
end
def trk (h : Heap) (H : Hp) : List Addr := (List.range h.objs.size).filter fun a => (H a).isSome
def hidT (h : Heap) (H : Hp) : Heap := PySem.W.hideAll h (trk h H)
theorem hidT_size (h : Heap) (H : Hp) : (hidT h H).objs.size = h.objs.size := PySem.W.hideAll_size _ _
theorem hidT_get {h : Heap} {H : Hp} {b : Addr} {o : Obj} (e : h.get? b = some o) (n : H b = none) : (hidT h H).get? b = some o :=
  PySem.W.hideAll_get _ e fun hm => by
    have q : (H b).isSome = true := (List.mem_filter.mp hm).2
    rw [n] at q; simp at q
theorem of_hidT {h : Heap} {H : Hp} {b : Addr} {o : Obj} (e : (hidT h H).get? b = some o) : h.get? b = some o ∧ H b = none := by
  have e' : h.get? b = some o := PySem.W.of_hideAll (trk h H) e
  refine ⟨e', ?_⟩
  cases q : H b with
  | none => rfl
  | some x =>
    have hm : b ∈ trk h H := List.mem_filter.mpr ⟨List.mem_range.mpr (Heap.lt_size e'), by simp [q]⟩
    have z : (hidT h H).get? b = none := PySem.W.hideAll_none (trk h H) hm
    rw [z] at e; cases e
def allNews (g h : Heap) (L : Addr) : List (Addr × Obj) := (List.range h.objs.size).filterMap fun a => if a = L ∨ (g.get? a).isSome = true then none else (h.get? a).map fun o => (a, o)
def rest (g h : Heap) (L d : Addr) : List (Addr × Obj) := (allNews g h L).filter fun p => decide (p.1 ≠ d)
end L2
namespace L2
open PySem PySem.Spec PyProof.Rows
structure Mod (K : PySem.W.Frag) (mg : Str → Option Value) (base : Heap) : Prop where
  kin : K.In base
  glob : base.Ns mainGlobals mg
  blt : ∃ mb, base.Ns builtinsNs mb ∧ ∀ x : Str, x ≠ "__name__" → mb x = bootBuiltins x
  nolimit : base.NoLimit
structure Cx where
  prog : Program
  w : World
  K : PySem.W.Frag
  mg : Str → Option Value
  base : Heap
  A : Around
  N : List Str
  s₀ : Shared
  H₀ : Hp
  env : Env
  outer : List Env
  stack : List Env
  ex : List Addr
  fn : Str → Bool
  calm : Bool
  pn : List (Addr × Obj)
  xe : Value → Shared → Prop
def frs (l : List Env) : List Addr := l.filterMap (·.frame)
abbrev Cx.fs (X : Cx) : List Addr := frs X.outer
def Vis (sc : Scope) (x : Str) : Prop := sc.names.lookup x = some .local ∨ sc.names.lookup x = some .cell ∨ sc.names.lookup x = some .free
def Loc (sc : Scope) (x : Str) : Prop := sc.names.lookup x = some .local ∨ sc.names.lookup x = some .cell
def Look (env : Env) (h : Heap) (m : Str → Option Value) (x : Str) (u : Value) : Prop :=
  (env.kindOf x = some .local ∧ m x = some u) ∨ ((env.kindOf x = some .cell ∨ env.kindOf x = some .free) ∧ ∃ c, env.cells.lookup x = some c ∧ h.IsCell c (some u))
structure Cx.Ok (X : Cx) : Prop where
  mod : Mod X.K X.mg X.base
  kind : X.env.scope.kind = .function
  glob : X.env.globals = mainGlobals
  blt : X.env.builtins = builtinsNs
  above : X.s₀.heap.objs.size ≤ X.env.locals
  inj : ∀ x y c, X.env.cells.lookup x = some c → X.env.cells.lookup y = some c → x = y
  has : ∀ x, (X.env.kindOf x = some .cell ∨ X.env.kindOf x = some .free) → ∃ c, X.env.cells.lookup x = some c
  cab : ∀ x c, X.fn x = true → X.env.cells.lookup x = some c → X.s₀.heap.objs.size ≤ c
  hd : X.calm = true → X.A.handled = none
  frames : X.A.frames = some X.stack
  stk : X.stack = X.outer ∨ (X.stack = X.env :: X.outer ∧ X.env.frame = some X.env.locals)
  exf : ∀ b ∈ X.ex, b ≠ X.env.locals ∧ ∀ x c, X.env.cells.lookup x = some c → c ≠ b
  bs : ∀ b o, X.base.get? b = some o → X.s₀.heap.get? b = some o ∧ X.H₀ b = none
  bsz : X.base.objs.size ≤ X.s₀.heap.objs.size
  noex : ∀ b o, X.base.get? b = some o → b ∉ X.ex
  exfs : ∀ b ∈ X.ex, b ∉ X.fs
  funs : X.s₀.heap.FunFrames X.base X.outer
  frf : ∀ b ∈ X.fs, X.H₀ b = none
structure Inv (X : Cx) (pins : List (Addr × Obj)) (σ : List (Option V)) (H : Hp) (s : Shared) : Prop where
  ok : X.Ok
  os : s.os = X.s₀.os
  bare : AllBare s.gens
  base : Un X.fs X.ex X.H₀ H X.s₀.heap s.heap
  loc : ∃ m, s.heap.Ns X.env.locals m ∧ ∀ (i : Nat) (x : Str) (v : V), X.N[i]? = some x → σ[i]? = some (some v) → Vis X.env.scope x → ∃ u, RelV v u ∧ Look X.env s.heap m x u
  cell : ∀ x c, X.env.cells.lookup x = some c → ∃ v, s.heap.IsCell c v
  free : H X.env.locals = none
  freeC : ∀ x c, X.env.cells.lookup x = some c → H c = none
  pin : ∀ p ∈ X.pn ++ pins, s.heap.get? p.1 = some p.2 ∧ H p.1 = none ∧ p.1 ≠ X.env.locals ∧ p.1 ∉ X.fs ∧ ∀ v, p.2.data ≠ .cell v
  hok : HOk X.prog X.w H s.heap
  len : σ.length = X.N.length
section
variable {X : Cx} {pins : List (Addr × Obj)} {σ : List (Option V)} {H H' : Hp} {s : Shared} {h' : Heap}
theorem Cx.Ok.nofr (ok : X.Ok) {b : Addr} {o : Obj} (e : X.base.get? b = some o) : b ∉ X.fs := fun hb => by
  have := (ok.funs.mem hb).1
  rw [e] at this; cases this
theorem Inv.bs (I : Inv X pins σ H s) : ∀ b o, X.base.get? b = some o → s.heap.get? b = some o ∧ H b = none := fun b o e =>
  ⟨I.base.keep b o (I.ok.bs b o e).1 (I.ok.bs b o e).2 (I.ok.nofr e) (I.ok.noex b o e), I.base.free b o (I.ok.bs b o e).1 (I.ok.bs b o e).2 (I.ok.noex b o e)⟩
theorem Inv.bk (I : Inv X pins σ H s) : ∀ b o, X.base.get? b = some o → s.heap.get? b = some o := fun b o e => (I.bs b o e).1
theorem Inv.mod (I : Inv X pins σ H s) : Mod X.K X.mg X.base := I.ok.mod
theorem Inv.kIn (I : Inv X pins σ H s) : X.K.In s.heap := I.ok.mod.kin.keeps I.bk
theorem Inv.nolimit (I : Inv X pins σ H s) : s.heap.NoLimit := I.ok.mod.nolimit.keeps I.bk
theorem Inv.fr (I : Inv X pins σ H s) : ∃ m, Fr X.base X.env.locals s.heap m :=
  let ⟨m, hn, _⟩ := I.loc
  ⟨m, hn, I.bk, Nat.le_trans I.ok.bsz I.ok.above⟩
theorem Inv.lt (I : Inv X pins σ H s) : X.env.locals < s.heap.objs.size := let ⟨_, hn, _⟩ := I.loc; hn.lt
theorem Inv.sz (I : Inv X pins σ H s) : X.s₀.heap.objs.size ≤ s.heap.objs.size := Nat.le_trans I.ok.above (Nat.le_of_lt I.lt)
theorem Inv.nofs (I : Inv X pins σ H s) {a : Addr} (h : s.heap.objs.size ≤ a) : a ∉ X.fs := fun hb => by
  obtain ⟨_, o, ho, _⟩ := I.ok.funs.mem hb
  exact absurd (Nat.lt_of_lt_of_le (Heap.lt_size ho) (Nat.le_trans I.sz h)) (Nat.lt_irrefl _)
theorem Inv.cne (I : Inv X pins σ H s) : ∀ x c, X.env.cells.lookup x = some c → c ≠ X.env.locals := fun x c e z => by
  obtain ⟨v, o, ho, hd⟩ := I.cell x c e
  obtain ⟨m, ⟨o', es, ep, ho', hd', _⟩, _⟩ := I.loc
  rw [z, ho'] at ho; cases ho; rw [hd'] at hd; cases hd
theorem Inv.funs (I : Inv X pins σ H s) : s.heap.FunFrames X.base X.outer := by
  have all : ∀ (l : List Env), (∀ b ∈ frs l, b ∈ X.fs) → X.s₀.heap.FunFrames X.base l → s.heap.FunFrames X.base l := by
    intro l
    induction l with
    | nil => intro _ _; trivial
    | cons env r ih =>
      intro hs hl
      obtain ⟨hk, ⟨L, o, hf, hn, ho, hd⟩, hr⟩ := hl
      have hL : L ∈ X.fs := hs L (by unfold frs; rw [List.filterMap_cons, hf]; exact List.mem_cons_self)
      obtain ⟨sl, e⟩ := I.base.slot L o ho (I.ok.frf L hL) hL fun z => I.ok.exfs L z hL
      exact ⟨hk, ⟨L, _, hf, hn, e, hd⟩, ih (fun b hb => hs b (by unfold frs; rw [List.filterMap_cons, hf]; exact List.mem_cons_of_mem _ hb)) hr⟩
  exact all X.outer (fun _ hb => hb) I.ok.funs
theorem Inv.stack (I : Inv X pins σ H s) : s.heap.FunFrames X.base X.stack := by
  rcases I.ok.stk with e | ⟨e, hf⟩
  · rw [e]; exact I.funs
  · rw [e]
    obtain ⟨m, hn, _⟩ := I.loc
    refine .cons (by rw [I.ok.kind]; decide) hf hn ?_ I.funs
    exact Heap.get?_none_of_le (Nat.le_trans I.ok.bsz I.ok.above)
theorem Inv.stkSub (I : Inv X pins σ H s) : ∀ b ∈ frs X.stack, b ∈ X.env.locals :: X.fs := fun b hb => by
  rcases I.ok.stk with e | ⟨e, hf⟩
  · rw [e] at hb; exact List.mem_cons_of_mem _ hb
  · rw [e] at hb
    unfold frs at hb
    rw [List.filterMap_cons, hf] at hb
    exact hb
theorem Inv.stkFree (I : Inv X pins σ H s) : ∀ b ∈ frs X.stack, H b = none := fun b hb => by
  rcases List.mem_cons.mp (I.stkSub b hb) with e | hb
  · rw [e]; exact I.free
  · obtain ⟨_, o, ho, _⟩ := I.ok.funs.mem hb
    exact I.base.free b o ho (I.ok.frf b hb) fun z => I.ok.exfs b z hb
theorem Inv.step {g' : Array GenState} {t' : Nat} {d' : Drawn} {ch : List Addr} (I : Inv X pins σ H s)
    (hch : ∀ b ∈ ch, (b ∈ X.ex ∨ X.s₀.heap.objs.size ≤ b) ∧ b ≠ X.env.locals ∧ (∀ x c, X.env.cells.lookup x = some c → c ≠ b) ∧ ∀ p ∈ X.pn ++ pins, p.1 ≠ b)
    (keep : ∀ b o, b ≠ X.env.locals → b ∉ X.fs → b ∉ ch → s.heap.get? b = some o → H b = none → h'.get? b = some o)
    (slot : ∀ b o, b ≠ X.env.locals → b ∈ X.fs → b ∉ ch → s.heap.get? b = some o → H b = none → ∃ sl, h'.get? b = some { o with slots := sl }) (free : ∀ b o, b ∉ ch → s.heap.get? b = some o → H b = none → H' b = none)
    (there : ∀ b o, b ∉ ch → s.heap.get? b = some o → ∃ o', h'.get? b = some o')
    (tups : ∀ b xs, H b = some (.tup xs) → H' b = some (.tup xs)) (frzs : ∀ b o u, H b = some (.frz o u) → H' b = some (.frz o u)) (tbls : ∀ b ps, H b = some (.tbl ps) → ∃ more, H' b = some (.tbl (ps ++ more)))
    (ns : ∀ m, s.heap.Ns X.env.locals m → h'.Ns X.env.locals m) (hok : HOk X.prog X.w H' h') (hg : AllBare g') :
    Inv X pins σ H' { s with heap := h', gens := g', drawn := d', toks := t' } := by
  have neL : ∀ b o, X.s₀.heap.get? b = some o → b ≠ X.env.locals := fun b o e => Nat.ne_of_lt (Nat.lt_of_lt_of_le (Heap.lt_size e) I.ok.above)
  have neC : ∀ b o, X.s₀.heap.get? b = some o → b ∉ X.ex → b ∉ ch := fun b o e hx hb => by
    rcases (hch b hb).1 with z | z
    · exact hx z
    · exact absurd (Nat.lt_of_lt_of_le (Heap.lt_size e) z) (Nat.lt_irrefl _)
  have cellK : ∀ x c, X.env.cells.lookup x = some c → ∀ v, s.heap.IsCell c v → h'.IsCell c v := fun x c e v ⟨o, ho, hd⟩ => by
    have nch : c ∉ ch := fun z => (hch c z).2.2.1 x c e rfl
    by_cases hc : c ∈ X.fs
    · obtain ⟨sl, q⟩ := slot c o (I.cne x c e) hc nch ho (I.freeC x c e)
      exact ⟨_, q, hd⟩
    · exact ⟨o, keep c o (I.cne x c e) hc nch ho (I.freeC x c e), hd⟩
  refine ⟨I.ok, I.os, hg, ⟨fun b o e n hb hx => ?_, fun b o e n hb hx => ?_, fun b o e n hx => ?_, fun b o e hx => ?_, fun b xs e => tups b xs (I.base.tups b xs e), fun b o xs e => frzs b o xs (I.base.frzs b o xs e), fun b ps e => ?_⟩, ?_, fun x c e => ?_, ?_, fun x c e => ?_, fun p hp => ?_, hok, I.len⟩
  · exact keep b o (neL b o e) hb (neC b o e hx) (I.base.keep b o e n hb hx) (I.base.free b o e n hx)
  · obtain ⟨sl, e1⟩ := I.base.slot b o e n hb hx
    obtain ⟨sl', e2⟩ := slot b _ (neL b o e) hb (neC b o e hx) e1 (I.base.free b o e n hx)
    exact ⟨sl', e2⟩
  · obtain ⟨o', e1⟩ := I.base.there b o e hx
    exact free b o' (neC b o e hx) e1 (I.base.free b o e n hx)
  · obtain ⟨o', e1⟩ := I.base.there b o e hx
    exact there b o' (neC b o e hx) e1
  · obtain ⟨m1, e1⟩ := I.base.tbls b ps e
    obtain ⟨m2, e2⟩ := tbls b _ e1
    exact ⟨m1 ++ m2, by rw [e2, Array.append_assoc]⟩
  · obtain ⟨m, hn, hl⟩ := I.loc
    refine ⟨m, ns m hn, fun i x v e1 e2 e3 => ?_⟩
    obtain ⟨u, r, l⟩ := hl i x v e1 e2 e3
    refine ⟨u, r, ?_⟩
    rcases l with l | ⟨k, c, e, z⟩
    · exact .inl l
    · exact .inr ⟨k, c, e, cellK x c e _ z⟩
  · obtain ⟨v, z⟩ := I.cell x c e
    exact ⟨v, cellK x c e v z⟩
  · obtain ⟨m, ⟨o, _, _, ho, _⟩, _⟩ := I.loc
    exact free _ o (fun z => (hch _ z).2.1 rfl) ho I.free
  · obtain ⟨v, o, ho, hd⟩ := I.cell x c e
    exact free c o (fun z => (hch c z).2.2.1 x c e rfl) ho (I.freeC x c e)
  · obtain ⟨e, n, ne, nf, d⟩ := I.pin p hp
    have nch : p.1 ∉ ch := fun z => (hch p.1 z).2.2.2 p hp rfl
    exact ⟨keep p.1 p.2 ne nf nch e n, free p.1 p.2 nch e n, ne, nf, d⟩
theorem Inv.un {t' : Nat} (I : Inv X pins σ H s) (u : Un X.fs [] H H' s.heap h') (hok : HOk X.prog X.w H' h') : Inv X pins σ H' { s with heap := h', toks := t' } := by
  obtain ⟨m, ⟨o, es, ep, ho, r⟩, _⟩ := id I.loc
  obtain ⟨sl, hL⟩ := u.any ho I.free (by simp)
  exact I.step (g' := s.gens) (d' := s.drawn) (ch := []) (fun _ z => nomatch z) (fun b o _ hb _ e n => u.keep b o e n hb (by simp)) (fun b o _ hb _ e n => u.slot b o e n hb (by simp)) (fun b o _ e n => u.free b o e n (by simp)) (fun b o _ e => u.there b o e (by simp)) u.tups u.frzs u.tbls (fun m' hm => by
    obtain ⟨o', es', ep', ho', r'⟩ := hm
    rw [ho] at ho'; cases ho'
    exact ⟨_, es', ep', hL, r'⟩) hok I.bare
theorem Inv.call {g' : Array GenState} {t' : Nat} {d' : Drawn} {ch : List Addr} (I : Inv X pins σ H s) (u : Un (frs X.stack) ch H H' s.heap h') (hok : HOk X.prog X.w H' h') (hg : AllBare g')
    (hch : ∀ b ∈ ch, (b ∈ X.ex ∨ X.s₀.heap.objs.size ≤ b) ∧ b ≠ X.env.locals ∧ (∀ x c, X.env.cells.lookup x = some c → c ≠ b) ∧ ∀ p ∈ X.pn ++ pins, p.1 ≠ b) :
    Inv X pins σ H' { s with heap := h', gens := g', drawn := d', toks := t' } := by
  obtain ⟨m, ⟨o, es, ep, ho, r⟩, _⟩ := id I.loc
  obtain ⟨sl, hL⟩ := u.any ho I.free fun z => (hch _ z).2.1 rfl
  exact I.step (ch := ch) hch (fun b o hL hb hc e n => u.keep b o e n (fun z => (List.mem_cons.mp (I.stkSub b z)).elim hL hb) hc) (fun b o _ _ hc e n => u.any e n hc) (fun b o hc e n => u.free b o e n hc) (fun b o hc e => u.there b o e hc) u.tups u.frzs u.tbls (fun m' hm => by
    obtain ⟨o', es', ep', ho', r'⟩ := hm
    rw [ho] at ho'; cases ho'
    exact ⟨_, es', ep', hL, r'⟩) hok hg
theorem Inv.turned {t' : Nat} {it : Addr} (I : Inv X pins σ H s) (k : ∀ b o, b ≠ it → s.heap.get? b = some o → h'.get? b = some o) (hn : H it = none) (hL : it ≠ X.env.locals)
    (h1 : it ∈ X.ex ∨ X.s₀.heap.objs.size ≤ it) (h2 : ∀ x c, X.env.cells.lookup x = some c → c ≠ it) (h3 : ∀ p ∈ X.pn ++ pins, p.1 ≠ it) : Inv X pins σ H { s with heap := h', toks := t' } := by
  have nit : ∀ b u, H b = some u → b ≠ it := fun b u e z => by rw [z, hn] at e; cases e
  refine I.step (g' := s.gens) (d' := s.drawn) (ch := [it]) (fun b hb => ?_) (fun b o _ _ hc e _ => k b o (fun z => hc (by simp [z])) e) (fun b o _ _ hc e _ => ⟨o.slots, k b o (fun z => hc (by simp [z])) e⟩) (fun _ _ _ _ n => n)
    (fun b o hc e => ⟨o, k b o (fun z => hc (by simp [z])) e⟩) (fun _ _ e => e) (fun _ _ _ e => e) (fun b ps e => ⟨#[], by rw [e]; simp⟩) (fun m hm => ?_) (fun b u e => ?_) I.bare
  · have e : b = it := by simpa using hb
    subst e
    exact ⟨h1, hL, h2, h3⟩
  · obtain ⟨o, es, ep, ho, r⟩ := hm
    exact ⟨o, es, ep, k _ o (Ne.symm hL) ho, r⟩
  · refine (I.hok b u e).stay (fun c v hc q => k c v ?_ q) (fun _ q => q) fun _ _ q => q
    rcases hc with z | z
    · rw [z]; exact nit b u e
    · exact nit c _ z
theorem Inv.tok (I : Inv X pins σ H s) (t : Nat) : Inv X pins σ H { s with toks := t } := I.un (h' := s.heap) (t' := t) Un.refl I.hok
theorem Inv.kept {t' : Nat} (I : Inv X pins σ H s) (k : ∀ b u, s.heap.get? b = some u → h'.get? b = some u) : Inv X pins σ H { s with heap := h', toks := t' } := I.un (Un.kept k) (I.hok.kept k)
theorem Inv.laid {a : Addr} {o : HO} {t' : Nat} (I : Inv X pins σ H s) (k : ∀ b u, s.heap.get? b = some u → h'.get? b = some u) (hp : s.heap.objs.size ≤ a) (new : ObjOk X.prog X.w (upd H a o) h' a o) :
    Inv X pins σ (upd H a o) { s with heap := h', toks := t' } := I.un (Un.laid k hp (I.hok.fresh hp)) (I.hok.laid k hp new)
theorem Inv.write {x e : Addr} {o : HO} {t' : Nat} (I : Inv X pins σ H s) (mu : Mut (H x)) (he : e = x ∨ H e = some (.own x)) (k : ∀ b u, b ≠ e → s.heap.get? b = some u → h'.get? b = some u) (heo : ∃ u, h'.get? e = some u)
    (new : ObjOk X.prog X.w (upd H x o) h' x o) : Inv X pins σ (upd H x o) { s with heap := h', toks := t' } := I.un (Un.write mu he k heo) (I.hok.write mu he k heo new)
theorem Inv.weak {σ' : List (Option V)} (I : Inv X pins σ H s) (hl : σ'.length = σ.length) (w : ∀ (i : Nat) v, σ'[i]? = some (some v) → σ[i]? = some (some v)) : Inv X pins σ' H s :=
  ⟨I.ok, I.os, I.bare, I.base, let ⟨m, hn, hl'⟩ := I.loc; ⟨m, hn, fun i x v e1 e2 e3 => hl' i x v e1 (w i v e2) e3⟩, I.cell, I.free, I.freeC, I.pin, I.hok, hl.trans I.len⟩
theorem Inv.pins_of {pins' : List (Addr × Obj)} (I : Inv X pins σ H s) (h : ∀ p ∈ pins', s.heap.get? p.1 = some p.2 ∧ H p.1 = none ∧ p.1 ≠ X.env.locals ∧ p.1 ∉ X.fs ∧ ∀ v, p.2.data ≠ .cell v) : Inv X pins' σ H s :=
  ⟨I.ok, I.os, I.bare, I.base, I.loc, I.cell, I.free, I.freeC, fun p hp => (List.mem_append.mp hp).elim (fun z => I.pin p (List.mem_append_left _ z)) (h p), I.hok, I.len⟩
theorem nodup_ix {N : List Str} (hN : N.Nodup) {i j : Nat} {x : Str} (a : N[i]? = some x) (b : N[j]? = some x) : i = j := by
  obtain ⟨h1, e1⟩ := List.getElem?_eq_some_iff.mp a
  obtain ⟨h2, e2⟩ := List.getElem?_eq_some_iff.mp b
  exact (List.getElem_inj hN).mp (e1.trans e2.symm)
theorem store_ok2 {M : Model} {A : Around} {E : Value → Shared → Prop} {i : Nat} {x : Str} {v : V} {u : Value} {Q : Unit → Shared → Prop} (I : Inv X pins σ H s) (hN : X.N.Nodup) (hi : X.N[i]? = some x) (hx : Loc X.env.scope x) (r : RelV v u)
    (h : ∀ s', Inv X pins (σ.set i (some v)) H s' → (∃ a, Heap.SameBut a s.heap s'.heap ∧ (a = X.env.locals ∨ X.env.cells.lookup x = some a)) → Q () s') (hf : X.fn x = true ∨ X.env.scope.names.lookup x = some .local := by first | exact .inl rfl | exact .inr rfl | assumption) : wpAny M A (storeName X.env x u) Q E s := by
  obtain ⟨m, hn, hl⟩ := id I.loc
  have hcls : (X.env.scope.kind == .class || (X.env.scope.kind == .module && X.env.locals != X.env.globals)) = false := by rw [I.ok.kind]; rfl
  have hiσ : i < σ.length := by rw [I.len]; exact (List.getElem?_eq_some_iff.mp hi).1
  have cne := I.cne
  have tracked : ∀ {a : Addr} {h' : Heap}, (∃ o, s.heap.get? a = some o ∧ H a = none) → Heap.SameBut a s.heap h' → HOk X.prog X.w H h' := fun {a h'} ha hs b ob e => by
    obtain ⟨_, _, hfree⟩ := ha
    refine (I.hok b ob e).stay (fun c w' hc q => (hs.2 c ?_).trans q) (fun _ q => q) fun _ _ q => q
    rintro rfl
    rcases hc with rfl | hc
    · rw [hfree] at e; cases e
    · rw [hfree] at hc; cases hc
  rcases hx with hk | hk
  · refine wpAny_storeName_local hk hn (fun h' hn' hs => ?_) hcls
    obtain ⟨oL, _, _, hoL, _⟩ := id hn
    refine h _ ⟨I.ok, I.os, I.bare, ⟨fun b o e n hb hx => ?_, fun b o e n hb hx => ?_, I.base.free, fun b o e hx => ?_, I.base.tups, I.base.frzs, I.base.tbls⟩, ⟨_, hn', fun j y v' e1 e2 e3 => ?_⟩, fun y c e => ?_, I.free, I.freeC, fun p hp => ?_, tracked ⟨oL, hoL, I.free⟩ hs, by simpa using I.len⟩ ⟨_, hs, .inl rfl⟩
    · exact (hs.2 b (Nat.ne_of_lt (Nat.lt_of_lt_of_le (Heap.lt_size e) I.ok.above))).trans (I.base.keep b o e n hb hx)
    · obtain ⟨sl, e1⟩ := I.base.slot b o e n hb hx
      exact ⟨sl, (hs.2 b (Nat.ne_of_lt (Nat.lt_of_lt_of_le (Heap.lt_size e) I.ok.above))).trans e1⟩
    · obtain ⟨o', e1⟩ := I.base.there b o e hx
      exact ⟨o', (hs.2 b (Nat.ne_of_lt (Nat.lt_of_lt_of_le (Heap.lt_size e) I.ok.above))).trans e1⟩
    · by_cases hj : j = i
      · subst hj
        rw [hi] at e1; cases e1
        rw [List.getElem?_set_self hiσ] at e2
        cases e2
        exact ⟨u, r, .inl ⟨hk, by simp⟩⟩
      · rw [List.getElem?_set_ne (Ne.symm hj)] at e2
        obtain ⟨u', r', q⟩ := hl j y v' e1 e2 e3
        refine ⟨u', r', ?_⟩
        rcases q with ⟨k, e⟩ | ⟨k, c, e, z⟩
        · refine .inl ⟨k, ?_⟩
          have : y ≠ x := fun e => hj (nodup_ix hN e1 (e ▸ hi))
          simp [this, e]
        · exact .inr ⟨k, c, e, z.sameBut hs (cne y c e)⟩
    · obtain ⟨w', z⟩ := I.cell y c e
      exact ⟨w', z.sameBut hs (cne y c e)⟩
    · obtain ⟨e, n, ne, nf, d⟩ := I.pin p hp
      exact ⟨(hs.2 p.1 ne).trans e, n, ne, nf, d⟩
  · have hfn : X.fn x = true := by
      rcases hf with z | z
      · exact z
      · rw [z] at hk; cases hk
    obtain ⟨c, hc⟩ := I.ok.has x (.inl hk)
    obtain ⟨w', z⟩ := I.cell x c hc
    refine wpAny_storeName_cell I.ok.kind hk hc z (fun h' hc' hs => ?_)
    obtain ⟨oc, hoc, hocd⟩ := id z
    refine h { s with heap := h' } ⟨I.ok, I.os, I.bare, ⟨fun b o e n hb hx => ?_, fun b o e n hb hx => ?_, I.base.free, fun b o e hx => ?_, I.base.tups, I.base.frzs, I.base.tbls⟩, ⟨m, hn.sameBut hs (Ne.symm (cne x c hc)), fun j y v' e1 e2 e3 => ?_⟩, fun y c' e => ?_, I.free, I.freeC, fun p hp => ?_, tracked ⟨oc, hoc, I.freeC x c hc⟩ hs, by simpa using I.len⟩ ⟨c, hs, .inr hc⟩
    · exact (hs.2 b (Nat.ne_of_lt (Nat.lt_of_lt_of_le (Heap.lt_size e) (I.ok.cab x c hfn hc)))).trans (I.base.keep b o e n hb hx)
    · obtain ⟨sl, e1⟩ := I.base.slot b o e n hb hx
      exact ⟨sl, (hs.2 b (Nat.ne_of_lt (Nat.lt_of_lt_of_le (Heap.lt_size e) (I.ok.cab x c hfn hc)))).trans e1⟩
    · obtain ⟨o', e1⟩ := I.base.there b o e hx
      exact ⟨o', (hs.2 b (Nat.ne_of_lt (Nat.lt_of_lt_of_le (Heap.lt_size e) (I.ok.cab x c hfn hc)))).trans e1⟩
    · by_cases hj : j = i
      · subst hj
        rw [hi] at e1; cases e1
        rw [List.getElem?_set_self hiσ] at e2
        cases e2
        exact ⟨u, r, .inr ⟨.inl hk, c, hc, hc'⟩⟩
      · rw [List.getElem?_set_ne (Ne.symm hj)] at e2
        obtain ⟨u', r', q⟩ := hl j y v' e1 e2 e3
        refine ⟨u', r', ?_⟩
        rcases q with q | ⟨k, c', e, z'⟩
        · exact .inl q
        · refine .inr ⟨k, c', e, z'.sameBut hs ?_⟩
          rintro rfl
          exact hj (nodup_ix hN e1 (I.ok.inj _ _ _ e hc ▸ hi))
    · by_cases hcc : c' = c
      · subst hcc; exact ⟨_, hc'⟩
      · obtain ⟨w2, z2⟩ := I.cell y c' e
        exact ⟨w2, z2.sameBut hs hcc⟩
    · obtain ⟨e, n, ne, nf, d⟩ := I.pin p hp
      refine ⟨(hs.2 p.1 ?_).trans e, n, ne, nf, d⟩
      intro q
      rw [q, hoc] at e
      have q' : oc = p.2 := Option.some.inj e
      exact d w' (by rw [← q']; exact hocd)
theorem store_ok {M : Model} {A : Around} {E : Value → Shared → Prop} {i : Nat} {x : Str} {v : V} {u : Value} {Q : Unit → Shared → Prop} (I : Inv X pins σ H s) (hN : X.N.Nodup) (hi : X.N[i]? = some x) (hx : Loc X.env.scope x) (r : RelV v u)
    (h : ∀ s', Inv X pins (σ.set i (some v)) H s' → Q () s') (hf : X.fn x = true ∨ X.env.scope.names.lookup x = some .local := by first | exact .inl rfl | exact .inr rfl | assumption) : wpAny M A (storeName X.env x u) Q E s :=
  store_ok2 I hN hi hx r (fun s' I' _ => h s' I') hf
theorem Inv.call' {s' : Shared} {ch : List Addr} (I : Inv X pins σ H s) (ho : s'.os = s.os) (u : Un (frs X.stack) ch H H' s.heap s'.heap) (hok : HOk X.prog X.w H' s'.heap) (hg : AllBare s'.gens)
    (hch : ∀ b ∈ ch, (b ∈ X.ex ∨ X.s₀.heap.objs.size ≤ b) ∧ b ≠ X.env.locals ∧ (∀ x c, X.env.cells.lookup x = some c → c ≠ b) ∧ ∀ p ∈ X.pn ++ pins, p.1 ≠ b) : Inv X pins σ H' s' := by
  obtain ⟨h', g', d', t', o'⟩ := s'
  have e : o' = s.os := ho
  subst e
  exact I.call (g' := g') (t' := t') (d' := d') u hok hg hch
end
abbrev XK := Value → Option Addr → Hp → Prop
abbrev St := List (Option V)
abbrev VK := V → Hp → Prop
abbrev TE := St → Hp → VK → Prop
abbrev TT := St → Hp → (Bool → Hp → Prop) → Prop
abbrev TA := St → Hp → (List V → Hp → Prop) → Prop
structure Ends where
  nx : St → Hp → Prop
  rt : VK
  bk : St → Hp → Prop := fun _ _ => False
  ct : St → Hp → Prop := fun _ _ => False
abbrev TS := Ends → St → Hp → Prop
def EP (X : Cx) (pins : List (Addr × Obj)) (σ : St) (Q : VK) (u : Value) (s' : Shared) : Prop := ∃ v H', Inv X pins σ H' s' ∧ RelV v u ∧ Q v H'
def TP (X : Cx) (pins : List (Addr × Obj)) (σ : St) (Q : Bool → Hp → Prop) (b : Bool) (s' : Shared) : Prop := ∃ H', Inv X pins σ H' s' ∧ Q b H'
def AP (X : Cx) (pins : List (Addr × Obj)) (σ : St) (Q : List V → Hp → Prop) (us : List Value) (s' : Shared) : Prop := ∃ vs H', Inv X pins σ H' s' ∧ Vals vs us ∧ Q vs H'
def SP (X : Cx) (pins : List (Addr × Obj)) (D : Ends) (f : Flow) (s' : Shared) : Prop :=
  match f with
  | .next => ∃ σ' H', Inv X pins σ' H' s' ∧ D.nx σ' H'
  | .brk => ∃ σ' H', Inv X pins σ' H' s' ∧ D.bk σ' H'
  | .cont => ∃ σ' H', Inv X pins σ' H' s' ∧ D.ct σ' H'
  | .ret u => ∃ v σ' H', Inv X pins σ' H' s' ∧ RelV v u ∧ D.rt v H'
def PE (X : Cx) (e : Expr) (t : TE) : Prop :=
  ∀ (pins : List (Addr × Obj)) (s : Shared) (σ : St) (H : Hp) (Q : VK), Inv X pins σ H s → t σ H Q → wpAny (model X.prog X.w) X.A (eval e X.env) (EP X pins σ Q) X.xe s
def PT (X : Cx) (e : Expr) (t : TT) : Prop :=
  ∀ (pins : List (Addr × Obj)) (s : Shared) (σ : St) (H : Hp) (Q : Bool → Hp → Prop), Inv X pins σ H s → t σ H Q → wpAny (model X.prog X.w) X.A (isTrue e X.env (eval e X.env)) (TP X pins σ Q) X.xe s
def PW (X : Cx) (e : Expr) (t : TT) : Prop :=
  ∀ (whole : Sem Value) (pins : List (Addr × Obj)) (s : Shared) (σ : St) (H : Hp) (Q : Bool → Hp → Prop), Inv X pins σ H s → t σ H Q → wpAny (model X.prog X.w) X.A (isTrue e X.env whole) (TP X pins σ Q) X.xe s
theorem PW.pt {X : Cx} {e : Expr} {t : TT} (h : PW X e t) : PT X e t := h _
def PA (X : Cx) (es : List Expr) (t : TA) : Prop :=
  ∀ (pos : Pos) (pins : List (Addr × Obj)) (s : Shared) (σ : St) (H : Hp) (Q : List V → Hp → Prop), Inv X pins σ H s → t σ H Q → wpAny (model X.prog X.w) X.A (spliced (backTo pos (starEach es X.env))) (AP X pins σ Q) X.xe s
def PS (X : Cx) (st : Stmt) (t : TS) : Prop :=
  ∀ (pins : List (Addr × Obj)) (s : Shared) (σ : St) (H : Hp) (D : Ends), Inv X pins σ H s → t D σ H → wpAny (model X.prog X.w) X.A (exec st X.env) (SP X pins D) X.xe s
def PSs (X : Cx) (st : List Stmt) (t : TS) : Prop :=
  ∀ (pins : List (Addr × Obj)) (s : Shared) (σ : St) (H : Hp) (D : Ends), Inv X pins σ H s → t D σ H → wpAny (model X.prog X.w) X.A (execs st X.env) (SP X pins D) X.xe s
theorem thn {α : Type} {t : Sem α} {Q Q' : α → Shared → Prop} {M : Model} {A : Around} {E : Value → Shared → Prop} {s : Shared} (h : wpAny M A t Q E s) (hQ : ∀ a s, Q a s → Q' a s) : wpAny M A t Q' E s := wpAny_mono h hQ fun _ _ x => x
end L2
namespace L2
open PySem PySem.Spec PyProof.Rows
section
variable {X : Cx}
def tVar (i : Nat) : TE := fun σ H Q => ∃ v, σ[i]? = some (some v) ∧ Q v H
def tC (v : V) : TE := fun _ H Q => Q v H
theorem pe_var {i : Nat} {x : Str} {pos : Pos} (hN : X.N[i]? = some x) (hv : Vis X.env.scope x) (hd : (x == ("__debug__" : Str)) = false := by decide) (hcd : (x == ("__classdict__" : Str)) = false := by decide) : PE X (.Name x pos) (tVar i) := by
  intro pins s σ H Q I h
  obtain ⟨v, e, h⟩ := h
  obtain ⟨m, hn, hl⟩ := I.loc
  obtain ⟨u, r, l⟩ := hl i x v hN e hv
  have fin : EP X pins σ Q u s := ⟨v, H, I, r, h⟩
  rcases l with ⟨hk, hm⟩ | ⟨hk, c, hc, hcell⟩
  · exact wpAny_Name (wpAny_loadName_local I.ok.kind hk hn hm fin) hd
  · rcases hk with hk | hk
    · exact wpAny_Name (wpAny_loadName_cell I.ok.kind hk hc hcell fin) hd
    · exact wpAny_Name (wpAny_loadName_free I.ok.kind hk hc hcell fin hcd) hd
theorem pe_int {i j pos} : PE X (.Constant (.int i) j pos) (tC (.int i)) := fun _ _ _ H _ I h => wpAny_Constant_int ⟨.int i, H, I.tok _, ⟨_, rfl⟩, h⟩
theorem pe_bl {b j pos} : PE X (.Constant (.bool b) j pos) (tC (.bl b)) := fun _ _ _ H _ I h => Constant_bool ⟨.bl b, H, I, rfl, h⟩
theorem pe_str {x j pos} : PE X (.Constant (.str x) j pos) (tC (.str x)) := fun _ _ _ H _ I h => Calls.Constant_str ⟨.str x, H, I.tok _, ⟨_, rfl⟩, h⟩
def Gl (X : Cx) (x : Str) : Prop := X.env.kindOf x = some .globalImplicit
theorem ld_glob {E : Value → Shared → Prop} {pins : List (Addr × Obj)} {s : Shared} {σ : St} {H : Hp} {x : Str} {u : Value} {pos : Pos} {Q : Value → Shared → Prop} (I : Inv X pins σ H s) (hg : Gl X x) (hm : X.mg x = some u) (h : Q u s)
    (hd : (x == ("__debug__" : Str)) = false := by decide) : wpAny (model X.prog X.w) X.A (eval (.Name x pos) X.env) Q E s :=
  Calls.Name_function_global I.ok.kind hg (Calls.loadGlobal_global (by rw [I.ok.glob]; exact I.mod.glob.keeps I.bk) hm h) hd
theorem ld_blt {E : Value → Shared → Prop} {pins : List (Addr × Obj)} {s : Shared} {σ : St} {H : Hp} {x : Str} {u : Value} {pos : Pos} {Q : Value → Shared → Prop} (I : Inv X pins σ H s) (hg : Gl X x) (hm : X.mg x = none) (hv : bootBuiltins x = some u) (h : Q u s)
    (hn : x ≠ "__name__" := by decide) (hd : (x == ("__debug__" : Str)) = false := by decide) : wpAny (model X.prog X.w) X.A (eval (.Name x pos) X.env) Q E s := by
  obtain ⟨mb, h1, h2⟩ := I.mod.blt
  exact Calls.Name_function_global I.ok.kind hg (Calls.loadGlobal_builtin (by rw [I.ok.glob]; exact I.mod.glob.keeps I.bk) hm (by rw [I.ok.blt]; exact h1.keeps I.bk) ((h2 x hn).trans hv) h) hd
theorem pe_glob {x : Str} {v : V} {u : Value} {pos : Pos} (hg : Gl X x) (hm : X.mg x = some u) (r : RelV v u) (hd : (x == ("__debug__" : Str)) = false := by decide) : PE X (.Name x pos) (tC v) :=
  fun _ _ _ H _ I h => ld_glob I hg hm ⟨v, H, I, r, h⟩ hd
theorem pe_bltn {x : Str} {v : V} {u : Value} {pos : Pos} (hg : Gl X x) (hm : X.mg x = none) (hv : bootBuiltins x = some u) (r : RelV v u) (hn : x ≠ "__name__" := by decide) (hd : (x == ("__debug__" : Str)) = false := by decide) : PE X (.Name x pos) (tC v) :=
  fun _ _ _ H _ I h => ld_blt I hg hm hv ⟨v, H, I, r, h⟩ hn hd
def t2I (ta tb : TE) (k : Int → Int → Hp → Prop) : St → Hp → Prop := fun σ H => ta σ H fun x H1 => tb σ H1 fun y H2 => ∃ i j, x = .int i ∧ y = .int j ∧ k i j H2
def tAdd (ta tb : TE) : TE := fun σ H Q => t2I ta tb (fun i j H2 => Q (.int (i + j)) H2) σ H
def tSub (ta tb : TE) : TE := fun σ H Q => t2I ta tb (fun i j H2 => Q (.int (i - j)) H2) σ H
def tMul (ta tb : TE) : TE := fun σ H Q => t2I ta tb (fun i j H2 => (-(2 ^ 64) < i ∧ i < 2 ^ 64) ∧ Q (.int (i * j)) H2) σ H
variable {a b : Expr} {ta tb : TE} {pos : Pos}
def PC (X : Cx) (op : CmpOp) (a b : Expr) (t : TE) : Prop :=
  ∀ (pins : List (Addr × Obj)) (s : Shared) (σ : St) (H : Hp) (Q : VK), Inv X pins σ H s → t σ H Q →
    wpAny (model X.prog X.w) X.A (eval a X.env) (fun v s₁ => wpAny (model X.prog X.w) X.A (eval b X.env) (fun u s₂ => wpAny (model X.prog X.w) X.A (compareOp op v u) (EP X pins σ Q) X.xe s₂) X.xe s₁) X.xe s
theorem nobehind (b : Expr) {op : CmpOp} (h : op ≠ .In) (h2 : op ≠ .NotIn) : behindInMarks op b = false := by
  have e1 : (op == CmpOp.In) = false := by cases op <;> first | rfl | exact absurd rfl h
  have e2 : (op == CmpOp.NotIn) = false := by cases op <;> first | rfl | exact absurd rfl h2
  cases b <;> simp [behindInMarks, e1, e2]
def tCmp (p : Int → Int → Bool) (ta tb : TE) : TE := fun σ H Q => t2I ta tb (fun i j H2 => Q (.bl (p i j)) H2) σ H
abbrev tLt : TE → TE → TE := tCmp fun i j => decide (i < j)
abbrev tLe : TE → TE → TE := tCmp fun i j => decide (i ≤ j)
abbrev tGt : TE → TE → TE := tCmp fun i j => decide (j < i)
abbrev tGe : TE → TE → TE := tCmp fun i j => decide (j ≤ i)
abbrev tEqI : TE → TE → TE := tCmp fun i j => decide (i = j)
abbrev tNeI : TE → TE → TE := tCmp fun i j => !decide (i = j)
def tIsN (ta : TE) : TE := fun σ H Q => ta σ H fun x H1 => Q (.bl (decide (x = .non))) H1
def tNotN (ta : TE) : TE := fun σ H Q => ta σ H fun x H1 => Q (.bl (!decide (x = .non))) H1
def tB (t : TE) : TT := fun σ H Q => t σ H fun x H1 => ∃ c, x = .bl c ∧ Q c H1
theorem pe_cmp {op : CmpOp} {t : TE} (h : PC X op a b t) (h1 : behindInMarks op b = false := by first | exact nobehind _ (by decide) (by decide) | rfl) : PE X (.Compare a [op] [b] pos) t := fun pins s σ H Q I hw => wpAny_Compare1 (h pins s σ H Q I hw) h1
theorem pt_cmp {op : CmpOp} {t : TE} (h : PC X op a b t) (h1 : behindInMarks op b = false := by first | exact nobehind _ (by decide) (by decide) | rfl) : PT X (.Compare a [op] [b] pos) (tB t) := by
  intro pins s σ H Q I hw
  refine wpAny_isTrue_Compare1 (thn (h pins s σ H _ I hw) fun v s1 h1 => thn h1 fun u s2 h2 => thn h2 fun c s3 ⟨x, H1, I1, r1, q1⟩ => ?_) h1
  obtain ⟨d, rfl, q⟩ := q1
  cases r1
  exact wpAny_truthy_bool ⟨H1, I1, q⟩
theorem pt_val {e : Expr} {t : TE} (h : PE X e t) (he : ∀ whole, isTrue e X.env whole = (do let v ← whole; standAt e.pos; holding [v] (truthy v)) := by intro _; rfl) : PT X e (tB t) := by
  intro pins s σ H Q I hw
  refine isTrue_plain (thn (h pins s σ H _ I hw) fun v s1 ⟨x, H1, I1, r1, q1⟩ => ?_) (he _)
  obtain ⟨d, rfl, q⟩ := q1
  cases r1
  exact wpAny_truthy_bool ⟨H1, I1, q⟩
variable {tA tB' : TT} {rest : List Expr}
def tAnd (t u : TT) : TT := fun σ H Q => t σ H fun c H1 => if c = true then u σ H1 Q else Q false H1
def tOr (t u : TT) : TT := fun σ H Q => t σ H fun c H1 => if c = true then Q true H1 else u σ H1 Q
def tNot (t : TT) : TT := fun σ H Q => t σ H fun c H1 => Q (!c) H1
theorem pw_and1 (ha : PT X a tA) : PW X (.BoolOp .And [a] pos) tA := by
  intro wh pins s σ H Q I h
  refine isTrue_and (thn (ha pins s σ H Q I h) fun c s1 e => ?_)
  cases c with
  | true => exact isTrue_and_nil e
  | false => exact e
theorem pw_or1 (ha : PT X a tA) : PW X (.BoolOp .Or [a] pos) tA := by
  intro wh pins s σ H Q I h
  refine isTrue_or (thn (ha pins s σ H Q I h) fun c s1 e => ?_)
  cases c with
  | false => exact isTrue_or_nil e
  | true => exact e
theorem pw_and (ha : PT X a tA) (hb : PW X (.BoolOp .And (b :: rest) pos) tB') : PW X (.BoolOp .And (a :: b :: rest) pos) (tAnd tA tB') := by
  intro wh pins s σ H Q I h
  refine isTrue_and (thn (ha pins s σ H _ I h) fun c s1 ⟨H1, I1, q1⟩ => ?_)
  cases c with
  | true => exact hb wh pins s1 σ H1 Q I1 q1
  | false => exact ⟨H1, I1, q1⟩
theorem pw_or (ha : PT X a tA) (hb : PW X (.BoolOp .Or (b :: rest) pos) tB') : PW X (.BoolOp .Or (a :: b :: rest) pos) (tOr tA tB') := by
  intro wh pins s σ H Q I h
  refine isTrue_or (thn (ha pins s σ H _ I h) fun c s1 ⟨H1, I1, q1⟩ => ?_)
  cases c with
  | true => exact ⟨H1, I1, q1⟩
  | false => exact hb wh pins s1 σ H1 Q I1 q1
theorem pt_not (ha : PT X a tA) : PT X (.UnaryOp .Not a pos) (tNot tA) := by
  intro pins s σ H Q I h
  exact isTrue_not (ha pins s σ H (fun c H1 => Q (!c) H1) I h)
def tAndV (ta tb : TE) : TE := fun σ H Q => ta σ H fun x H1 => ∃ c, x = .bl c ∧ if c = true then tb σ H1 Q else Q (.bl false) H1
def tOrV (ta tb : TE) : TE := fun σ H Q => ta σ H fun x H1 => ∃ c, x = .bl c ∧ if c = true then Q (.bl true) H1 else tb σ H1 Q
def tNotV (ta : TE) : TE := fun σ H Q => ta σ H fun x H1 => ∃ c, x = .bl c ∧ Q (.bl (!c)) H1
theorem pe_one {op} {t : TE} (h : PE X a t) : PE X (.BoolOp op [a] pos) t := fun pins s σ H Q I hw => BoolOp_one (h pins s σ H Q I hw)
theorem pe_and (ha : PE X a ta) (hb : PE X (.BoolOp .And (b :: rest) pos) tb) : PE X (.BoolOp .And (a :: b :: rest) pos) (tAndV ta tb) := by
  intro pins s σ H Q I h
  refine BoolOp_and (thn (ha pins s σ H _ I h) fun v s1 ⟨x, H1, I1, r1, q1⟩ => ?_)
  obtain ⟨c, rfl, q1⟩ := q1
  cases r1
  refine wpAny_truthy_bool ?_
  cases c with
  | true => exact hb pins s1 σ H1 Q I1 q1
  | false => exact ⟨.bl false, H1, I1, rfl, q1⟩
theorem pe_not (ha : PE X a ta) : PE X (.UnaryOp .Not a pos) (tNotV ta) := by
  intro pins s σ H Q I h
  refine UnaryOp_ (thn (ha pins s σ H _ I h) fun v s1 ⟨x, H1, I1, r1, q1⟩ => ?_)
  obtain ⟨c, rfl, q1⟩ := q1
  cases r1
  exact not_of (wpAny_truthy_bool ⟨.bl (!c), H1, I1, rfl, q1⟩)
def tIf (t : TT) (ta tb : TE) : TE := fun σ H Q => t σ H fun c H1 => if c = true then ta σ H1 Q else tb σ H1 Q
theorem pe_ifExp {c : Expr} (hc : PT X c tA) (ha : PE X a ta) (hb : PE X b tb) : PE X (.IfExp c a b pos) (tIf tA ta tb) := by
  intro pins s σ H Q I h
  refine wpAny_IfExp (thn (hc pins s σ H _ I h) fun d s1 ⟨H1, I1, q1⟩ => ?_)
  cases d with
  | true => exact ha pins s1 σ H1 Q I1 q1
  | false => exact hb pins s1 σ H1 Q I1 q1
end
end L2
namespace L2
open PySem PySem.Spec PyProof.Rows
def SqL (K : PySem.W.Frag) (H : Hp) (a : Addr) (xs : List V) : Prop :=
  Rd H a (.lst xs) ∨
    ∃ (o : Obj) (its : Array Value) (n : Nat), K.lookup a = some o ∧ o.cls = .type "list" ∧ o.dict = none ∧ o.data = .seq its n ∧ its.size ≤ sizeLine ∧ Vals xs its.toList
def SqT (K : PySem.W.Frag) (H : Hp) (a : Addr) (xs : List V) : Prop :=
  Rd H a (.tup xs) ∨
    ∃ (o : Obj) (its : Array Value) (n : Nat), K.lookup a = some o ∧ o.cls = .type "tuple" ∧ o.data = .seq its n ∧ its.size ≤ sizeLine ∧ Vals xs its.toList
def absV : Value → Option V
  | .none => some .non
  | .bool b => some (.bl b)
  | .int i _ => some (.int i)
  | .str x _ => some (.str x)
  | .bytes b _ => some (.byt b)
  | .float b _ => some (.flt b)
  | .ref a => some (.ref a)
  | .type n => some (.ty n)
  | _ => none
theorem RelV.abs {x : V} {u : Value} (r : RelV x u) : absV u = some x := by
  cases x with
  | non => cases r; rfl
  | bl _ => cases r; rfl
  | int _ => obtain ⟨t, rfl⟩ := r; rfl
  | str _ => obtain ⟨t, rfl⟩ := r; rfl
  | byt _ => obtain ⟨t, rfl⟩ := r; rfl
  | flt _ => obtain ⟨t, rfl⟩ := r; rfl
  | ref _ => cases r; rfl
  | ty _ => cases r; rfl
theorem RelV.inj {x y : V} {u : Value} (r : RelV x u) (q : RelV y u) : x = y := Option.some.inj (r.abs.symm.trans q.abs)
theorem Vals.inj : ∀ {xs ys : List V} {us : List Value}, Vals xs us → Vals ys us → xs = ys
  | _, _, _, .nil, .nil => rfl
  | _, _, _, .cons r t, .cons r' t' => by rw [r.inj r', Vals.inj t t']
section
variable {X : Cx} {pins : List (Addr × Obj)} {σ : St} {H : Hp} {s : Shared} {a : Addr} {xs ys : List V}
theorem SqL.of {K : PySem.W.Frag} (h : H a = some (.lst xs)) : SqL K H a xs := .inl (.inl h)
theorem SqT.of {K : PySem.W.Frag} (h : H a = some (.tup xs)) : SqT K H a xs := .inl (.inl h)
theorem Inv.list (I : Inv X pins σ H s) (h : SqL X.K H a xs) : ∃ its : List Value, Vals xs its ∧ PlainL s.heap a its.toArray ∧ xs.length ≤ sizeLine := by
  rcases h with h | ⟨o, its, n, hk, hc, hd, hs, hz, r⟩
  · obtain ⟨z, its, n, r, e⟩ := h.ok I.hok
    exact ⟨its, r, ⟨_, n, e, rfl, rfl, rfl⟩, z⟩
  · refine ⟨its.toList, r, ⟨o, n, I.kIn a o hk, hc, hd, by simpa using hs⟩, ?_⟩
    have e := r.length
    simp only [Array.length_toList] at e
    omega
theorem Inv.tuple (I : Inv X pins σ H s) (h : SqT X.K H a xs) : ∃ its : List Value, Vals xs its ∧ IsTup s.heap a its.toArray ∧ xs.length ≤ sizeLine := by
  rcases h with h | ⟨o, its, n, hk, hc, hs, hz, r⟩
  · obtain ⟨z, its, r, p⟩ := h.ok I.hok
    exact ⟨its, r, p, z⟩
  · refine ⟨its.toList, r, ⟨o, I.kIn a o hk, hc, n, by simpa using hs⟩, ?_⟩
    have e := r.length
    simp only [Array.length_toList] at e
    omega
theorem Inv.list_inj (I : Inv X pins σ H s) (h : SqL X.K H a xs) (h' : SqL X.K H a ys) : xs = ys := by
  obtain ⟨its, r, ⟨o, n, e, _, _, d⟩, _⟩ := I.list h
  obtain ⟨its', r', ⟨o', n', e', _, _, d'⟩, _⟩ := I.list h'
  rw [e] at e'; cases e'
  rw [d] at d'
  injection d' with d1 _
  have : its = its' := by simpa using congrArg Array.toList d1
  subst this
  exact r.inj r'
end
abbrev Cx.wish (X : Cx) (E : Value → Shared → Prop) : Cx := { X with xe := E }
abbrev Cx.nox (X : Cx) : Cx := X.wish fun _ _ => False
theorem Cx.Ok.wish {X : Cx} (ok : X.Ok) (E : Value → Shared → Prop) : (X.wish E).Ok :=
  ⟨ok.mod, ok.kind, ok.glob, ok.blt, ok.above, ok.inj, ok.has, ok.cab, ok.hd, ok.frames, ok.stk, ok.exf, ok.bs, ok.bsz, ok.noex, ok.exfs, ok.funs, ok.frf⟩
theorem Cx.Ok.unwish {X : Cx} {E : Value → Shared → Prop} (ok : (X.wish E).Ok) : X.Ok :=
  ⟨ok.mod, ok.kind, ok.glob, ok.blt, ok.above, ok.inj, ok.has, ok.cab, ok.hd, ok.frames, ok.stk, ok.exf, ok.bs, ok.bsz, ok.noex, ok.exfs, ok.funs, ok.frf⟩
section
variable {X : Cx} {pins : List (Addr × Obj)} {σ : St} {H : Hp} {s : Shared} {E : Value → Shared → Prop}
theorem Inv.wish (I : Inv X pins σ H s) (E : Value → Shared → Prop) : Inv (X.wish E) pins σ H s := ⟨I.ok.wish E, I.os, I.bare, I.base, I.loc, I.cell, I.free, I.freeC, I.pin, I.hok, I.len⟩
theorem Inv.unwish (I : Inv (X.wish E) pins σ H s) : Inv X pins σ H s := ⟨I.ok.unwish, I.os, I.bare, I.base, I.loc, I.cell, I.free, I.freeC, I.pin, I.hok, I.len⟩
theorem SP.unwish {D : Ends} {f : Flow} {s' : Shared} (h : SP (X.wish E) pins D f s') : SP X pins D f s' := by
  cases f with
  | next => obtain ⟨σ', H', I, q⟩ := h; exact ⟨σ', H', I.unwish, q⟩
  | brk => obtain ⟨σ', H', I, q⟩ := h; exact ⟨σ', H', I.unwish, q⟩
  | cont => obtain ⟨σ', H', I, q⟩ := h; exact ⟨σ', H', I.unwish, q⟩
  | ret u => obtain ⟨v, σ', H', I, r, q⟩ := h; exact ⟨v, σ', H', I.unwish, r, q⟩
theorem PE.nox {e : Expr} {t : TE} (h : PE X.nox e t) : PE X e t := fun pins s σ H Q I hw =>
  wpAny_mono (h pins s σ H Q (I.wish _) hw) (fun _ _ ⟨v, H', I', r, q⟩ => ⟨v, H', I'.unwish, r, q⟩) fun _ _ z => False.elim z
theorem PT.nox {e : Expr} {t : TT} (h : PT X.nox e t) : PT X e t := fun pins s σ H Q I hw =>
  wpAny_mono (h pins s σ H Q (I.wish _) hw) (fun _ _ ⟨H', I', q⟩ => ⟨H', I'.unwish, q⟩) fun _ _ z => False.elim z
theorem PSs.nox {st : List Stmt} {t : TS} (h : PSs X.nox st t) : PSs X st t := fun pins s σ H D I hw =>
  wpAny_mono (h pins s σ H D (I.wish _) hw) (fun _ _ q => q.unwish) fun _ _ z => False.elim z
end
section
variable {X : Cx} {st : Stmt} {rest : List Stmt} {t u : TS} {e : Expr} {te : TE} {pos : Pos}
def tNext : TS := fun D σ H => D.nx σ H
def tSeq (t u : TS) : TS := fun D σ H => t { D with nx := u D } σ H
theorem pss_nil : PSs X [] tNext := fun _ _ σ H _ I h => wpAny_execs_nil ⟨σ, H, I, h⟩
theorem pss_cons (h1 : PS X st t) (h2 : PSs X rest u) : PSs X (st :: rest) (tSeq t u) := by
  intro pins s σ H D I h
  refine wpAny_execs_cons (thn (h1 pins s σ H { D with nx := u D } I h) fun f s1 q => ?_)
  cases f with
  | next =>
    obtain ⟨σ', H', I', q⟩ := q
    exact h2 pins s1 σ' H' D I' q
  | ret v => exact q
  | brk => exact q
  | cont => exact q
theorem pss_one (h1 : PS X st t) : PSs X [st] t := by
  intro pins s σ H D I h
  refine wpAny_execs_cons (thn (h1 pins s σ H D I h) fun f s1 q => ?_)
  cases f with
  | next => exact wpAny_execs_nil q
  | ret v => exact q
  | brk => exact q
  | cont => exact q
def tBreak : TS := fun D σ H => D.bk σ H
def tCont : TS := fun D σ H => D.ct σ H
theorem Inv.quiet {pins : List (Addr × Obj)} {σ : St} {H : Hp} {s : Shared} (I : Inv X pins σ H s) : interactive X.env = false := by simp [interactive, I.ok.kind]
def tDrop (te : TE) : TS := fun D σ H => te σ H fun _ H1 => D.nx σ H1
theorem ps_expr (he : PE X e te) (hs : swapsWith e none pos.line X.env = pure false := by rfl) : PS X (.Expr e pos) (tDrop te) := by
  intro pins s σ H D I h
  exact wpAny_Expr_any (thn (he pins s σ H _ I h) fun v s1 ⟨x, H1, I1, r1, q1⟩ => ⟨σ, H1, I1, q1⟩) I.quiet hs
def tRet (te : TE) : TS := fun D σ H => te σ H D.rt
theorem ps_ret (he : PE X e te) : PS X (.Return (some e) pos) (tRet te) := by
  intro pins s σ H D I h
  exact wpAny_Return_some (thn (he pins s σ H _ I h) fun v s1 ⟨x, H1, I1, r1, q1⟩ => ⟨x, σ, H1, I1, r1, q1⟩)
def tRetN : TS := fun D _ H => D.rt .non H
def tIfS (c : TT) (t u : TS) : TS := fun D σ H => c σ H fun b H1 => if b = true then t D σ H1 else u D σ H1
theorem ps_if {c : Expr} {a b : List Stmt} {tc : TT} (hc : PT X c tc) (ha : PSs X a t) (hb : PSs X b u) : PS X (.If c a b pos) (tIfS tc t u) := by
  intro pins s σ H D I h
  refine wpAny_If (thn (hc pins s σ H _ I h) fun d s1 ⟨H1, I1, q1⟩ => ?_)
  cases d with
  | true => exact ha pins s1 σ H1 D I1 q1
  | false => exact hb pins s1 σ H1 D I1 q1
def tNever : TS := fun _ _ _ => False
theorem ps_never : PS X st tNever := fun _ _ _ _ _ _ h => h.elim
end
abbrev TG := V → St → Hp → (St → Hp → Prop) → Prop
abbrev TGs := List V → St → Hp → (St → Hp → Prop) → Prop
def PG (X : Cx) (target : Expr) (t : TG) : Prop :=
  ∀ (pins : List (Addr × Obj)) (s : Shared) (σ : St) (H : Hp) (v : V) (u : Value) (Q : St → Hp → Prop), Inv X pins σ H s → RelV v u → t v σ H Q →
    wpAny (model X.prog X.w) X.A (assign target X.env u) (fun _ s' => ∃ σ' H', Inv X pins σ' H' s' ∧ Q σ' H') X.xe s
def PGs (X : Cx) (ts : List Expr) (t : TGs) : Prop :=
  ∀ (pins : List (Addr × Obj)) (s : Shared) (σ : St) (H : Hp) (vs : List V) (us : List Value) (Q : St → Hp → Prop), Inv X pins σ H s → Vals vs us → t vs σ H Q →
    wpAny (model X.prog X.w) X.A (assignInOrder ((assignEach ts X.env).map (·.2)) us) (fun _ s' => ∃ σ' H', Inv X pins σ' H' s' ∧ Q σ' H') X.xe s
abbrev TSet := V → V → V → Hp → (Hp → Prop) → Prop
def PSet (X : Cx) (t : TSet) : Prop :=
  ∀ (pins : List (Addr × Obj)) (s : Shared) (σ : St) (H : Hp) (o i v : V) (ov iv u : Value) (Q : Hp → Prop), Inv X pins σ H s → RelV o ov → RelV i iv → RelV v u → t o i v H Q →
    wpAny (model X.prog X.w) X.A (setItem ov iv u) (fun _ s' => ∃ H', Inv X pins σ H' s' ∧ Q H') X.xe s
abbrev TIp := V → V → Hp → VK → Prop
def PIp (X : Cx) (op : Operator) (t : TIp) : Prop :=
  ∀ (pins : List (Addr × Obj)) (s : Shared) (σ : St) (H : Hp) (x y : V) (v u : Value) (Q : VK), Inv X pins σ H s → RelV x v → RelV y u → t x y H Q →
    wpAny (model X.prog X.w) X.A (inplaceOp op v u) (EP X pins σ Q) X.xe s
section
variable {X : Cx} {pos : Pos}
def gName (i : Nat) : TG := fun v σ H Q => Q (σ.set i (some v)) H
theorem pg_name {i : Nat} {x : Str} (hN : X.N.Nodup) (hi : X.N[i]? = some x) (hx : Loc X.env.scope x) (hf : X.fn x = true ∨ X.env.scope.names.lookup x = some .local := by first | exact .inl rfl | exact .inr rfl | assumption) : PG X (.Name x pos) (gName i) := by
  intro pins s σ H v u Q I r h
  exact wpAny_assign_Name (store_ok I hN hi hx r (fun s' I' => ⟨_, H, I', h⟩) hf)
def gNil : TGs := fun vs σ H Q => vs = [] ∧ Q σ H
def gCons (t : TG) (u : TGs) : TGs := fun vs σ H Q => ∃ v r, vs = v :: r ∧ t v σ H fun σ' H' => u r σ' H' Q
theorem pgs_nil : PGs X [] gNil := by
  intro pins s σ H vs us Q I r h
  obtain ⟨e, h⟩ := h
  subst e
  cases r
  exact assignInOrder_nil ⟨σ, H, I, h⟩
theorem pgs_cons {e : Expr} {es : List Expr} {t : TG} {u : TGs} (h1 : PG X e t) (h2 : PGs X es u)
    (hs : (assignEach (e :: es) X.env).map (·.2) = assign e X.env :: (assignEach es X.env).map (·.2) := by rfl) : PGs X (e :: es) (gCons t u) := by
  intro pins s σ H vs us Q I r h
  obtain ⟨v, vr, e1, h⟩ := h
  subst e1
  cases r with
  | cons r rr =>
    rw [hs]
    refine assignInOrder_cons (thn (h1 pins s σ H _ _ _ I r h) fun _ s1 ⟨σ1, H1, I1, q1⟩ => ?_)
    exact h2 pins s1 σ1 H1 _ _ Q I1 rr q1
def gTup (K : PySem.W.Frag) (n : Nat) (t : TGs) : TG := fun v σ H Q => ∃ a xs, v = .ref a ∧ SqT K H a xs ∧ xs.length = n ∧ t xs σ H Q
theorem pg_tup {es : List Expr} {k : Nat} {t : TGs} {n : Nat} (hc : X.calm = true) (h : PGs X es t)
    (hn : (assignEach es X.env).length = n := by rfl) (hst : (assignEach es X.env).findIdx? (·.1) = none := by rfl) : PG X (.Tuple es k pos) (gTup X.K n t) := by
  intro pins s σ H v u Q I r hw
  obtain ⟨a, xs, e1, hq, hl, hw⟩ := hw
  subst e1
  cases r
  obtain ⟨its, rv, ht, hz⟩ := I.tuple hq
  refine assign_Tuple_tuple (I.ok.hd hc) ht (by simp [hn, ← hl, rv.length]) hst fun h' hx => ?_
  have I1 : Inv X pins σ H { s with heap := h' } := I.kept (t' := s.toks) fun b o e => hx b o (Nat.ne_of_lt (Heap.lt_size e)) e
  exact h pins _ σ H xs _ Q I1 (by simpa using rv) hw
def gSub (to ti : TE) (t : TSet) : TG := fun v σ H Q => to σ H fun o H1 => ti σ H1 fun i H2 => t o i v H2 fun H3 => Q σ H3
theorem pg_sub {o i : Expr} {to ti : TE} {t : TSet} (ho : PE X o to) (hi : PE X i ti) (hs : PSet X t)
    (ha : ∀ v, assign (.Subscript o i pos) X.env v = (do
      let ov ← holding [v] (eval o X.env)
      let iv ← holding [v, ov] (eval i X.env)
      standAt pos
      holding [v, ov, iv] (setItem ov iv v)
      release [v, ov, iv] []) := by intro _; rfl) : PG X (.Subscript o i pos) (gSub to ti t) := by
  intro pins s σ H v u Q I r h
  rw [ha]
  refine wpAny_bind (wpAny_holding (thn (ho pins s σ H _ I h) fun ov s1 ⟨x, H1, I1, r1, q1⟩ => ?_))
  refine wpAny_bind (wpAny_holding (thn (hi pins s1 σ H1 _ I1 q1) fun iv s2 ⟨y, H2, I2, r2, q2⟩ => ?_))
  refine wpAny_bind (wpAny_standAt (wpAny_bind (wpAny_holding (thn (hs pins s2 σ H2 x y v ov iv u _ I2 r1 r2 r q2) fun _ s3 ⟨H3, I3, q3⟩ => ?_))))
  exact wpAny_release ⟨σ, H3, I3, q3⟩
def tAsg (te : TE) (g : TG) : TS := fun D σ H => te σ H fun x H1 => g x σ H1 D.nx
theorem ps_asg {tg e : Expr} {te : TE} {g : TG} (he : PE X e te) (hg : PG X tg g) (hs : swapsWithSole [tg] e pos.line X.env = pure false := by rfl) (hw : swappedStores [tg] e X.env = pure none := by rfl)
    (h1 : (assignEach [tg] X.env).map (·.2) = [assign tg X.env] := by rfl) : PS X (.Assign [tg] e pos) (tAsg te g) := by
  intro pins s σ H D I h
  refine wpAny_Assign_stores (thn (he pins s σ H _ I h) fun v s1 ⟨x, H1, I1, r1, q1⟩ => ?_) hs hw
  rw [h1]
  exact thn (hg pins s1 σ H1 x v _ I1 r1 q1) fun _ s2 q => q
theorem ps_set {i : Nat} {x : Str} {e : Expr} {te : TE} {pos' : Pos} (hN : X.N.Nodup) (hi : X.N[i]? = some x) (hx : Loc X.env.scope x) (he : PE X e te) (hs : swapsWith e (some (.Name x pos')) pos.line X.env = pure false := by rfl) (hf : X.fn x = true ∨ X.env.scope.names.lookup x = some .local := by first | exact .inl rfl | exact .inr rfl | assumption) :
    PS X (.Assign [.Name x pos'] e pos) (tAsg te (gName i)) := by
  intro pins s σ H D I h
  refine wpAny_Assign_Name (thn (he pins s σ H _ I h) fun v s1 ⟨y, H1, I1, r1, q1⟩ => ?_) hs
  exact store_ok I1 hN hi hx r1 (fun s2 I2 => ⟨_, H1, I2, q1⟩) hf
def tPar (i j : Nat) (ta : TA) : TS := fun D σ H => ta σ H fun vs H1 => ∃ v w, vs = [v, w] ∧ D.nx ((σ.set i (some v)).set j (some w)) H1
def tAug (i : Nat) (te : TE) (ti : TIp) : TS := fun D σ H => ∃ x, σ[i]? = some (some x) ∧ te σ H fun y H1 => ti x y H1 fun z H2 => D.nx (σ.set i (some z)) H2
def tAugS (to ti te : TE) (tget : V → V → Hp → VK → Prop) (tip : TIp) (tset : TSet) : TS := fun D σ H => to σ H fun o H1 => ti σ H1 fun i H2 => tget o i H2 fun x H3 => te σ H3 fun y H4 => tip x y H4 fun z H5 => tset o i z H5 fun H6 => D.nx σ H6
def PGet (X : Cx) (t : V → V → Hp → VK → Prop) : Prop :=
  ∀ (pins : List (Addr × Obj)) (s : Shared) (σ : St) (H : Hp) (o i : V) (ov iv : Value) (Q : VK), Inv X pins σ H s → RelV o ov → RelV i iv → t o i H Q →
    wpAny (model X.prog X.w) X.A (getItem ov iv) (EP X pins σ Q) X.xe s
def ipI (f : Int → Int → Int) : TIp := fun x y H Q => ∃ i j, x = .int i ∧ y = .int j ∧ Q (.int (f i j)) H
end
section
variable {X : Cx} {pos : Pos}
def tWhile (c : TT) (tb : TS) : TS := fun D σ H => ∃ W : Nat → St → Hp → Prop, (∃ m, W m σ H) ∧ ∀ m σ H, W m σ H →
  c σ H fun b H1 => if b = true then ∃ N : St → Hp → Prop, (∀ σ' H', N σ' H' → ∃ m', m' < m ∧ W m' σ' H') ∧ tb { D with nx := N, ct := N, bk := D.nx } σ H1 else D.nx σ H1
theorem ps_while {c : Expr} {body : List Stmt} {tc : TT} {tb : TS} (hp : PassesOwn (model X.prog X.w) X.A X.env X.xe) (hc : PT X c tc) (hb : PSs X body tb) : PS X (.While c body [] pos) (tWhile tc tb) := by
  intro pins s σ H D I h
  obtain ⟨W, ⟨m0, w0⟩, turn⟩ := h
  refine wpAny_While (codeAny_whileLoop (fun n s' => ∃ σ' H', Inv X pins σ' H' s' ∧ W n σ' H') ?_ m0 ⟨σ, H, I, w0⟩)
  rintro n s1 ⟨σ1, H1, I1, w1⟩
  refine wpAny_passesOwn hp (thn (hc pins s1 σ1 H1 _ I1 (turn n σ1 H1 w1)) fun b s2 ⟨H2, I2, q2⟩ => ?_)
  cases b with
  | true =>
    obtain ⟨N, hN, q2⟩ := q2
    rw [if_pos rfl]
    refine wpAny_passesOwn hp (thn (hb pins s2 σ1 H2 _ I2 q2) fun f s3 q3 => ?_)
    cases f with
    | next =>
      obtain ⟨σ3, H3, I3, n3⟩ := q3
      obtain ⟨m', hm, w3⟩ := hN σ3 H3 n3
      exact ⟨m', hm, σ3, H3, I3, w3⟩
    | cont =>
      obtain ⟨σ3, H3, I3, n3⟩ := q3
      obtain ⟨m', hm, w3⟩ := hN σ3 H3 n3
      exact ⟨m', hm, σ3, H3, I3, w3⟩
    | brk => exact q3
    | ret v => exact q3
  | false =>
    rw [if_neg Bool.false_ne_true]
    exact wpAny_execs_nil ⟨σ1, H2, I2, q2⟩
end
structure It where
  go : Nat → Hp → Prop
  yld : Nat → Hp → V → Hp → Prop
  stop : Nat → Hp → Prop
def FpOk (X : Cx) (pins : List (Addr × Obj)) (H : Hp) (b : Addr) : Prop :=
  H b = none ∧ b ≠ X.env.locals ∧ b ∉ X.fs ∧ (b ∈ X.ex ∨ X.s₀.heap.objs.size ≤ b) ∧ (∀ x c, X.env.cells.lookup x = some c → c ≠ b) ∧ ∀ p ∈ X.pn ++ pins, p.1 ≠ b
theorem Inv.fpOk {X : Cx} {pins : List (Addr × Obj)} {σ : St} {H H' : Hp} {s : Shared} {b : Addr} (I : Inv X pins σ H s) (hb : s.heap.objs.size ≤ b) (hn : H' b = none) : FpOk X pins H' b := by
  refine ⟨hn, Nat.ne_of_gt (Nat.lt_of_lt_of_le I.lt hb), I.nofs hb, .inr (Nat.le_trans I.sz hb), fun x c e z => ?_, fun p hp z => ?_⟩
  · obtain ⟨v, q⟩ := I.cell x c e
    exact absurd (Nat.lt_of_lt_of_le q.lt (by rw [z]; exact hb)) (Nat.lt_irrefl _)
  · exact absurd (Nat.lt_of_lt_of_le (Heap.lt_size (I.pin p hp).1) (by rw [z]; exact hb)) (Nat.lt_irrefl _)
structure Turn (P : Program) (w : World) (K : PySem.W.Frag) (tg : Expr) (J : It) (fp : List Addr) (it : Addr) (tn : Nat → Heap → Prop) : Prop where
  mem : it ∈ fp
  obj : ∀ i h, tn i h → ∀ b ∈ fp, ∃ o, h.get? b = some o ∧ ∀ v, o.data ≠ .cell v
  keep : ∀ i h h', tn i h → (∀ b ∈ fp, ∀ o, h.get? b = some o → h'.get? b = some o) → tn i h'
  item : ∀ (X : Cx), X.prog = P → X.w = w → X.K = K → X.calm = true → ∀ (i : Nat) (pins : List (Addr × Obj)) (s : Shared) (σ : St) (H : Hp) (E : Value → Shared → Prop), Inv X pins σ H s → (∀ b ∈ fp, FpOk X pins H b) → tn i s.heap → J.go i H →
    wpAny (model P w) X.A (pyNext (.ref it)) (fun r s1 => ∃ u, r = some u ∧
      wpAny (model P w) X.A (letOwnedTupleGo tg (.ref it) u) (fun _ s2 => ∃ x H', Inv X pins σ H' s2 ∧ RelV x u ∧ J.yld i H x H' ∧ tn (i + 1) s2.heap ∧ ∀ b ∈ fp, H' b = none) E s1) E s
  done : ∀ (X : Cx), X.prog = P → X.w = w → X.K = K → X.calm = true → ∀ (i : Nat) (pins : List (Addr × Obj)) (s : Shared) (σ : St) (H : Hp) (E : Value → Shared → Prop), Inv X pins σ H s → (∀ b ∈ fp, FpOk X pins H b) → tn i s.heap → J.stop i H →
    wpAny (model P w) X.A (pyNext (.ref it)) (fun r s1 => r = none ∧ Inv X pins σ H s1) E s
  self : ∀ (A : Around) (i : Nat) (s : Shared) (Q : Value → Shared → Prop) (E : Value → Shared → Prop), tn i s.heap → Q (.ref it) s → wpAny (model P w) A (pyIter (.ref it)) Q E s
abbrev TI := St → Hp → (It → Hp → Prop) → Prop
def PIE (X : Cx) (pins : List (Addr × Obj)) (σ : St) (tg : Expr) (R : It → Hp → Prop) (itv : Value) (s2 : Shared) : Prop :=
  ∃ (it : Addr) (fp : List Addr) (tn : Nat → Heap → Prop) (J : It) (H' : Hp), itv = .ref it ∧ Inv X pins σ H' s2 ∧ Turn X.prog X.w X.K tg J fp it tn ∧ tn 0 s2.heap ∧ (∀ b ∈ fp, FpOk X pins H' b) ∧ R J H'
def PI (X : Cx) (tg iter : Expr) (wi : TI) : Prop :=
  ∀ (pins : List (Addr × Obj)) (s : Shared) (σ : St) (H : Hp) (R : It → Hp → Prop), Inv X pins σ H s → wi σ H R →
    wpAny (model X.prog X.w) X.A (eval iter X.env) (fun v s1 => wpAny (model X.prog X.w) X.A (pyIter v) (PIE X pins σ tg R) X.xe s1) X.xe s
theorem go_of {M : Model} {A : Around} {E : Value → Shared → Prop} {s : Shared} {tg : Expr} {it : Addr} {u : Value} {o : Obj} {n : String} {vs : Array Value} {Q : Unit → Shared → Prop} (ho : s.heap.get? it = some o) (hc : o.cls = .type n) (hd : o.data = .fields vs)
    (hn : ["enumerate", "zip", "dict_itemiterator", "dict_reverseitemiterator", "odict_iterator", "itertools.zip_longest", "itertools.pairwise"].contains n = false) (hQ : Q () s) : wpAny M A (letOwnedTupleGo tg (.ref it) u) Q E s := by
  unfold letOwnedTupleGo
  cases tg <;> first
    | exact wpAny_pure hQ
    | (cases u <;> first
        | exact wpAny_pure hQ
        | (refine wpAny_bind (wpAny_load ho ?_)
           rw [hc, hd]
           show wpAny M A (if (["enumerate", "zip", "dict_itemiterator", "dict_reverseitemiterator", "odict_iterator", "itertools.zip_longest", "itertools.pairwise"].contains n && vs[0]? == some (rawInt _)) = true then _ else _) Q E s
           rw [if_neg (by intro h; rw [hn, Bool.false_and] at h; cases h)]
           exact wpAny_pure hQ))
def Itl (K : PySem.W.Frag) (a : Addr) : It :=
  ⟨fun i H => ∃ xs x, SqL K H a xs ∧ xs[i]? = some x, fun i H x H' => H' = H ∧ ∀ xs, SqL K H a xs → xs[i]? = some x, fun i H => ∃ xs, SqL K H a xs ∧ xs.length ≤ i⟩
def Itt (K : PySem.W.Frag) (a : Addr) : It :=
  ⟨fun i H => ∃ xs x, SqT K H a xs ∧ xs[i]? = some x, fun i H x H' => H' = H ∧ ∀ xs, SqT K H a xs → xs[i]? = some x, fun i H => ∃ xs, SqT K H a xs ∧ xs.length ≤ i⟩
def Itr (lo : Int) (n : Nat) : It := ⟨fun i _ => i < n, fun i H x H' => H' = H ∧ x = .int (lo + i), fun i _ => n ≤ i⟩
theorem turn_list {P : Program} {w : World} {K : PySem.W.Frag} {tg : Expr} (a it : Addr) : Turn P w K tg (Itl K a) [it] it (fun i h => h.IsListIter it a i) where
  mem := by simp
  obj := fun i h st b hb => by
    have e : b = it := by simpa using hb
    subst e
    obtain ⟨o, e, c, d⟩ := st
    exact ⟨o, e, fun v z => by rw [d] at z; cases z⟩
  keep := fun i h h' st k => st.at fun o e => k it (by simp) o e
  item := by
    intro X hP hw hK hc i pins s σ H E I hf st hg
    subst hP hw hK
    obtain ⟨xs, x, hq, hx⟩ := hg
    obtain ⟨its, rv, p, hz⟩ := I.list hq
    obtain ⟨u, hu, ru⟩ := rv.get hx
    obtain ⟨f0, f1, f2, f3, f4, f5⟩ := hf it (by simp)
    refine wpAny_pyNext_list_item st p.isList (x := u) (by simpa using hu) fun h' st' sb => ?_
    have I1 : Inv X pins σ H { s with heap := h' } := I.turned (t' := s.toks) (fun b o hb e => (sb.2 b hb).trans e) f0 f1 f3 f4 f5
    obtain ⟨o, e, c, d⟩ := id st'
    exact ⟨u, rfl, go_of (s := { s with heap := h' }) e c d (by decide) ⟨x, H, I1, ru, ⟨rfl, fun ys hy => by rw [I.list_inj hy hq]; exact hx⟩, st', fun b hb => (hf b hb).1⟩⟩
  done := by
    intro X hP hw hK hc i pins s σ H E I hf st hg
    subst hP hw hK
    obtain ⟨xs, hq, hx⟩ := hg
    obtain ⟨its, rv, p, hz⟩ := I.list hq
    obtain ⟨f0, f1, f2, f3, f4, f5⟩ := hf it (by simp)
    have hl := rv.length
    exact wpAny_pyNext_list_end (I.ok.hd hc) st p.isList (by simp; omega) fun h' eb => ⟨rfl, I.turned (t' := s.toks) (fun b o hb e => eb b o hb e) f0 f1 f3 f4 f5⟩
  self := fun _ _ _ _ _ st h => wpAny_pyIter_listiter st h
theorem turn_range {P : Program} {w : World} {K : PySem.W.Frag} {tg : Expr} (it : Addr) (lo : Int) (n : Nat) : Turn P w K tg (Itr lo n) [it] it (fun i h => IsRangeIter h it (lo + (i : Nat) * 1) ((n : Int) - (i : Nat)) 1) where
  mem := by simp
  obj := fun i h st b hb => by
    have e : b = it := by simpa using hb
    subst e
    exact ⟨_, st, fun v z => by
      have z' : Data.fields _ = Data.cell v := z
      cases z'⟩
  keep := fun i h h' st k => k it (by simp) _ st
  item := by
    intro X hP hw hK hc i pins s σ H E I hf st hg
    subst hP hw hK
    obtain ⟨f0, f1, f2, f3, f4, f5⟩ := hf it (by simp)
    have W := Walks.range (prog := X.prog) (w := X.w) (I.ok.hd hc) it lo 1 n
    refine W.item i s _ _ hg st fun v h' tk hv st' kk => ?_
    obtain ⟨t, rfl⟩ := hv
    have I1 : Inv X pins σ H { s with heap := h', toks := tk } := I.turned (fun b o hb e => kk b o (by simpa using hb) e) f0 f1 f3 f4 f5
    refine ⟨_, rfl, go_of (s := { s with heap := h', toks := tk }) (n := "range_iterator") st' rfl rfl (by decide) ⟨.int (lo + i), H, I1, ⟨t, ?_⟩, ⟨rfl, rfl⟩, st', fun b hb => (hf b hb).1⟩⟩
    rw [Int.mul_one]
  done := by
    intro X hP hw hK hc i pins s σ H E I hf st hg
    subst hP hw hK
    obtain ⟨f0, f1, f2, f3, f4, f5⟩ := hf it (by simp)
    exact wpAny_pyNext_range_end (I.ok.hd hc) st (by have : n ≤ i := hg; omega) fun h' eb => ⟨rfl, I.turned (t' := s.toks) (fun b o hb e => eb b o hb e) f0 f1 f3 f4 f5⟩
  self := fun _ _ _ _ _ st h => wpAny_pyIter_rangeiter st h
end L2
namespace L2
open PySem PySem.Spec PyProof.Rows
section
variable {X : Cx} {tg : Expr}
def iList (K : PySem.W.Frag) (tl : TE) : TI := fun σ H R => tl σ H fun x H1 => ∃ a, x = .ref a ∧ (∃ xs, SqL K H1 a xs) ∧ R (Itl K a) H1
def iTup (K : PySem.W.Frag) (tl : TE) : TI := fun σ H R => tl σ H fun x H1 => ∃ a, x = .ref a ∧ (∃ xs, SqT K H1 a xs) ∧ R (Itt K a) H1
theorem pi_list {l : Expr} {tl : TE} (hl : PE X l tl) : PI X tg l (iList X.K tl) := by
  intro pins s σ H R I h
  refine thn (hl pins s σ H _ I h) fun v s1 ⟨x, H1, I1, r1, q1⟩ => ?_
  obtain ⟨a, e, ⟨xs, hq⟩, q⟩ := q1
  subst e
  cases r1
  obtain ⟨its, rv, p, hz⟩ := I1.list hq
  refine wpAny_pyIter_list p.isList ?_
  refine ⟨s1.heap.objs.size, [s1.heap.objs.size], _, _, H1, rfl, I1.kept (t' := s1.toks) fun b o e => Heap.get?_push_of_some _ e, turn_list a _, ⟨_, Heap.get?_push_size _ rfl, rfl, rfl⟩, fun b hb => ?_, q⟩
  have e : b = s1.heap.objs.size := by simpa using hb
  subst e
  exact I1.fpOk (Nat.le_refl _) (I1.hok.fresh (Nat.le_refl _))
theorem range_it {pins : List (Addr × Obj)} {σ : St} {H : Hp} {s : Shared} {R : It → Hp → Prop} {E : Value → Shared → Prop} {lo hi : Int} {t u v : Tok} {tk : Nat} (I : Inv X pins σ H s) (h1 : -(2 ^ 62) ≤ lo) (h2 : lo < 2 ^ 62) (h3 : -(2 ^ 62) ≤ hi) (h4 : hi < 2 ^ 62)
    (q : R (Itr lo (hi - lo).toNat) H) : wpAny (model X.prog X.w) X.A (pyIter (.ref s.heap.objs.size)) (PIE X pins σ tg R) E { s with heap := s.heap.push { cls := .type "range", data := .fields #[.int lo t, .int hi u, .int 1 v] }, toks := tk } := by
  refine wpAny_pyIter_range (IsRange.new ..) (small_one h1 h2 h3 h4) ?_
  have I1 : Inv X pins σ H { s with heap := s.heap.push { cls := .type "range", data := .fields #[.int lo t, .int hi u, .int 1 v] }, toks := tk } := I.kept fun b o e => Heap.get?_push_of_some _ e
  refine ⟨(s.heap.push { cls := .type "range", data := .fields #[.int lo t, .int hi u, .int 1 v] }).objs.size, [(s.heap.push { cls := .type "range", data := .fields #[.int lo t, .int hi u, .int 1 v] }).objs.size], _, _, H, rfl,
    I1.kept (t' := tk) fun b o e => Heap.get?_push_of_some _ e, turn_range _ lo (hi - lo).toNat, ?_, fun b hb => ?_, q⟩
  · have e1 : lo + ((0 : Nat) : Int) * 1 = lo := by simp
    have e2 : (((hi - lo).toNat : Nat) : Int) - ((0 : Nat) : Int) = Builtin.Range.rangeSize lo hi 1 := by rw [rangeSize_one]; split <;> omega
    show IsRangeIter _ _ (lo + ((0 : Nat) : Int) * 1) ((((hi - lo).toNat : Nat) : Int) - ((0 : Nat) : Int)) 1
    rw [e1, e2]
    exact Heap.get?_push_size _ rfl
  · have e : b = (s.heap.push { cls := .type "range", data := .fields #[.int lo t, .int hi u, .int 1 v] }).objs.size := by simpa using hb
    subst e
    exact I1.fpOk (Nat.le_refl _) (I1.hok.fresh (Nat.le_refl _))
def iRng1 (ta : TA) : TI := fun σ H R => ta σ H fun vs H1 => ∃ j : Int, vs = [.int j] ∧ -(2 ^ 62) ≤ j ∧ j < 2 ^ 62 ∧ R (Itr 0 j.toNat) H1
def iRng2 (ta : TA) : TI := fun σ H R => ta σ H fun vs H1 => ∃ i j : Int, vs = [.int i, .int j] ∧ (-(2 ^ 62) ≤ i ∧ i < 2 ^ 62 ∧ -(2 ^ 62) ≤ j ∧ j < 2 ^ 62) ∧ R (Itr i (j - i).toNat) H1
theorem pi_range1 {a : Expr} {ta : TA} {p pos : Pos} (hg : Gl X "range") (hm : X.mg "range" = none) (ha : PA X [a] ta) (hs : starEach [a] X.env = [(false, eval a X.env)] := by rfl) : PI X tg (.Call (.Name "range" p) [a] [] pos) (iRng1 ta) := by
  intro pins s σ H R I h
  refine Call_ (ld_blt I hg hm boot_range (PyProof.Rows.callWith_type1 (thn (ha pos pins s σ H _ I h) fun us s1 ⟨vs, H1, I1, r1, q1⟩ => ?_) hs rfl))
  obtain ⟨j, e, q1, q2, q⟩ := q1
  subst e
  cases r1 with
  | cons r rr =>
    cases rr
    obtain ⟨t, rfl⟩ := r
    exact call_range_1 (range_it I1 (by omega) (by omega) q1 q2 (by simpa using q))
theorem pi_range2 {a b : Expr} {ta : TA} {p pos : Pos} (hg : Gl X "range") (hm : X.mg "range" = none) (ha : PA X [a, b] ta) (hs : starEach [a, b] X.env = [(false, eval a X.env), (false, eval b X.env)] := by rfl) (hs2 : starEach [b] X.env = [(false, eval b X.env)] := by rfl) :
    PI X tg (.Call (.Name "range" p) [a, b] [] pos) (iRng2 ta) := by
  intro pins s σ H R I h
  refine Call_ (ld_blt I hg hm boot_range (PyProof.Rows.callWith_type1 (thn (ha pos pins s σ H _ I h) fun us s1 ⟨vs, H1, I1, r1, q1⟩ => ?_) (by rw [hs, hs2]) (by rw [hs2]; rfl)))
  obtain ⟨i, j, e, ⟨q1, q2, q3, q4⟩, q⟩ := q1
  subst e
  cases r1 with
  | cons r rr =>
    cases rr with
    | cons r' rr =>
      cases rr
      obtain ⟨t, rfl⟩ := r
      obtain ⟨t', rfl⟩ := r'
      exact call_range_2 (range_it I1 q1 q2 q3 q4 q)
def tFor (wi : TI) (g : TG) (tb : TS) : TS := fun D σ H => wi σ H fun J H1 => ∃ W : Nat → Nat → St → Hp → Prop, (∃ m, W 0 m σ H1) ∧ ∀ i m σ H, W i m σ H →
  (J.stop i H ∧ D.nx σ H) ∨ (J.go i H ∧ ∃ N : St → Hp → Prop, (∀ σ' H', N σ' H' → ∃ m', m' < m ∧ W (i + 1) m' σ' H') ∧ ∀ x H', J.yld i H x H' → g x σ H' fun σ2 H2 => tb { D with nx := N, ct := N, bk := D.nx } σ2 H2)
def pinsAt (fp : List Addr) (h : Heap) : List (Addr × Obj) := fp.filterMap fun b => (h.get? b).map fun o => (b, o)
theorem mem_pinsAt {fp : List Addr} {h : Heap} {b : Addr} {o : Obj} (hb : b ∈ fp) (e : h.get? b = some o) : (b, o) ∈ pinsAt fp h := List.mem_filterMap.mpr ⟨b, hb, by rw [e]; rfl⟩
theorem of_pinsAt {fp : List Addr} {h : Heap} {p : Addr × Obj} (hp : p ∈ pinsAt fp h) : p.1 ∈ fp ∧ h.get? p.1 = some p.2 := by
  obtain ⟨b, hb, e⟩ := List.mem_filterMap.mp hp
  cases q : h.get? b with
  | none => rw [q] at e; cases e
  | some o =>
    rw [q] at e
    have e' : (b, o) = p := Option.some.inj e
    subst e'
    exact ⟨hb, q⟩
theorem Inv.pinned {pins : List (Addr × Obj)} {σ : St} {H : Hp} {s : Shared} {fp : List Addr} (I : Inv X pins σ H s) (hf : ∀ b ∈ fp, FpOk X pins H b) (ho : ∀ b ∈ fp, ∃ o, s.heap.get? b = some o ∧ ∀ v, o.data ≠ .cell v) : Inv X (pins ++ pinsAt fp s.heap) σ H s :=
  I.pins_of fun p hp => (List.mem_append.mp hp).elim (fun z => I.pin p (List.mem_append_right _ z)) fun z => by
    obtain ⟨hb, e⟩ := of_pinsAt z
    obtain ⟨f0, f1, f2, _⟩ := hf p.1 hb
    obtain ⟨o, e', d⟩ := ho p.1 hb
    rw [e] at e'; cases e'
    exact ⟨e, f0, f1, f2, d⟩
theorem Inv.unpinned {pins pl : List (Addr × Obj)} {σ : St} {H : Hp} {s : Shared} (I : Inv X (pins ++ pl) σ H s) : Inv X pins σ H s := I.pins_of fun p hp => I.pin p (List.mem_append_right _ (List.mem_append_left _ hp))
theorem ps_for {iter : Expr} {body : List Stmt} {wi : TI} {g : TG} {tb : TS} {pos : Pos} (hp : PassesOwn (model X.prog X.w) X.A X.env X.xe) (hc : X.calm = true) (hi : PI X tg iter wi) (hg : PG X tg g) (hb : PSs X body tb)
    (hs : ∀ x, foldedSetIterable iter X.env x = pure x := by intro _; rfl) : PS X (.For tg iter body [] pos) (tFor wi g tb) := by
  intro pins s σ H D I h
  refine wpAny_For (thn (hi pins s σ H _ I h) fun v s1 h1 => thn h1 fun itv s2 h2 => ?_) hs
  obtain ⟨it, fp, tn, J, H2, e, I2, T, st2, f2, W, ⟨m0, w0⟩, turn⟩ := h2
  subst e
  have stat : ∀ {H' : Hp}, (∀ b ∈ fp, H' b = none) → ∀ b ∈ fp, FpOk X pins H' b := fun hn b hb => ⟨hn b hb, (f2 b hb).2⟩
  refine codeAny_forLoop_any (fun n s' => ∃ i σ' H', Inv X pins σ' H' s' ∧ tn i s'.heap ∧ (∀ b ∈ fp, H' b = none) ∧ W i n σ' H') ?_ m0 ⟨0, σ, H2, I2, st2, fun b hb => (f2 b hb).1, w0⟩
  rintro n s3 ⟨i, σ3, H3, I3, st3, fr3, w3⟩
  rcases turn i n σ3 H3 w3 with ⟨stop, qn⟩ | ⟨go, N, hN, step⟩
  · refine wpAny_passesOwn hp (thn (T.done X rfl rfl rfl hc i pins s3 σ3 H3 X.xe I3 (stat fr3) st3 stop) fun r s4 ⟨hr, I4⟩ => ?_)
    subst hr
    exact wpAny_execs_nil ⟨σ3, H3, I4, qn⟩
  · refine wpAny_passesOwn hp (thn (T.item X rfl rfl rfl hc i pins s3 σ3 H3 X.xe I3 (stat fr3) st3 go) fun r s4 ⟨u, hr, h4⟩ => ?_)
    subst hr
    refine wpAny_passesOwn hp (thn h4 fun _ s5 ⟨x, H5, I5, r5, y5, st5, fr5⟩ => ?_)
    have I5' := I5.pinned (stat fr5) (T.obj _ _ st5)
    refine wpAny_passesOwn hp (thn (hg _ s5 σ3 H5 x u _ I5' r5 (step x H5 y5)) fun _ s6 ⟨σ6, H6, I6, q6⟩ => ?_)
    refine wpAny_passesOwn hp (thn (hb _ s6 σ6 H6 _ I6 q6) fun f s7 q7 => ?_)
    have again : ∀ {σ7 : St} {H7 : Hp}, Inv X (pins ++ pinsAt fp s5.heap) σ7 H7 s7 → N σ7 H7 → ∃ m, m < n ∧ ∃ i σ' H', Inv X pins σ' H' s7 ∧ tn i s7.heap ∧ (∀ b ∈ fp, H' b = none) ∧ W i m σ' H' := fun {σ7 H7} I7 n7 => by
      obtain ⟨m', hm, w7⟩ := hN σ7 H7 n7
      refine ⟨m', hm, i + 1, σ7, H7, I7.unpinned, T.keep _ _ _ st5 fun b hb o e => (I7.pin (b, o) (List.mem_append_right _ (List.mem_append_right _ (mem_pinsAt hb e)))).1, fun b hb => ?_, w7⟩
      obtain ⟨o, e, d⟩ := T.obj _ _ st5 b hb
      exact (I7.pin (b, o) (List.mem_append_right _ (List.mem_append_right _ (mem_pinsAt hb e)))).2.1
    cases f with
    | next => obtain ⟨σ7, H7, I7, n7⟩ := q7; exact again I7 n7
    | cont => obtain ⟨σ7, H7, I7, n7⟩ := q7; exact again I7 n7
    | brk => obtain ⟨σ7, H7, I7, q7⟩ := q7; exact ⟨σ7, H7, I7.unpinned, q7⟩
    | ret v => obtain ⟨x7, σ7, H7, I7, r7, q7⟩ := q7; exact ⟨x7, σ7, H7, I7.unpinned, r7, q7⟩
end
theorem for_list {K : PySem.W.Frag} {a : Addr} {xs : List V} {g : TG} {tb : TS} {D : Ends} {σ : St} {H : Hp} (Pv : Nat → St → Hp → Prop) (h0 : Pv 0 σ H) (hl : ∀ i σ H, i ≤ xs.length → Pv i σ H → SqL K H a xs)
    (hs : ∀ i x σ H, xs[i]? = some x → Pv i σ H → g x σ H fun σ2 H2 => tb { D with nx := Pv (i + 1), ct := Pv (i + 1), bk := D.nx } σ2 H2) (hd : ∀ σ H, Pv xs.length σ H → D.nx σ H) :
    ∃ W : Nat → Nat → St → Hp → Prop, (∃ m, W 0 m σ H) ∧ ∀ i m σ H, W i m σ H →
      ((Itl K a).stop i H ∧ D.nx σ H) ∨ ((Itl K a).go i H ∧ ∃ N : St → Hp → Prop, (∀ σ' H', N σ' H' → ∃ m', m' < m ∧ W (i + 1) m' σ' H') ∧ ∀ x H', (Itl K a).yld i H x H' → g x σ H' fun σ2 H2 => tb { D with nx := N, ct := N, bk := D.nx } σ2 H2) := by
  refine ⟨fun i m σ H => m = xs.length - i ∧ i ≤ xs.length ∧ Pv i σ H, ⟨xs.length, by simp, Nat.zero_le _, h0⟩, ?_⟩
  rintro i m σ H ⟨rfl, hi, p⟩
  have q := hl i σ H hi p
  by_cases hlt : i < xs.length
  · refine .inr ⟨⟨xs, xs[i], q, by simp [hlt]⟩, Pv (i + 1), fun σ' H' p' => ⟨xs.length - (i + 1), by omega, rfl, hlt, p'⟩, fun x H' y => ?_⟩
    obtain ⟨e, y⟩ := y
    subst e
    exact hs i x σ _ (y xs q) p
  · have e : i = xs.length := by omega
    subst e
    exact .inl ⟨⟨xs, q, Nat.le_refl _⟩, hd σ H p⟩
theorem for_range {lo : Int} {n : Nat} {g : TG} {tb : TS} {D : Ends} {σ : St} {H : Hp} (Pv : Nat → St → Hp → Prop) (h0 : Pv 0 σ H)
    (hs : ∀ i σ H, i < n → Pv i σ H → g (.int (lo + i)) σ H fun σ2 H2 => tb { D with nx := Pv (i + 1), ct := Pv (i + 1), bk := D.nx } σ2 H2) (hd : ∀ σ H, Pv n σ H → D.nx σ H) :
    ∃ W : Nat → Nat → St → Hp → Prop, (∃ m, W 0 m σ H) ∧ ∀ i m σ H, W i m σ H →
      ((Itr lo n).stop i H ∧ D.nx σ H) ∨ ((Itr lo n).go i H ∧ ∃ N : St → Hp → Prop, (∀ σ' H', N σ' H' → ∃ m', m' < m ∧ W (i + 1) m' σ' H') ∧ ∀ x H', (Itr lo n).yld i H x H' → g x σ H' fun σ2 H2 => tb { D with nx := N, ct := N, bk := D.nx } σ2 H2) := by
  refine ⟨fun i m σ H => m = n - i ∧ i ≤ n ∧ Pv i σ H, ⟨n, by simp, Nat.zero_le _, h0⟩, ?_⟩
  rintro i m σ H ⟨rfl, hi, p⟩
  by_cases hlt : i < n
  · refine .inr ⟨hlt, Pv (i + 1), fun σ' H' p' => ⟨n - (i + 1), by omega, rfl, hlt, p'⟩, fun x H' y => ?_⟩
    obtain ⟨e, y⟩ := y
    subst e y
    exact hs i σ _ hlt p
  · have e : i = n := by omega
    subst e
    exact .inl ⟨Nat.le_refl _, hd σ H p⟩
theorem while_by {c : TT} {tb : TS} {D : Ends} {σ : St} {H : Hp} (Pv : St → Hp → Prop) (μ : St → Hp → Nat) (h0 : Pv σ H)
    (hs : ∀ σ H, Pv σ H → c σ H fun b H1 => if b = true then tb { D with nx := fun σ' H' => Pv σ' H' ∧ μ σ' H' < μ σ H, ct := fun σ' H' => Pv σ' H' ∧ μ σ' H' < μ σ H, bk := D.nx } σ H1 else D.nx σ H1)
    (mono : ∀ σ H Q Q', (∀ b H1, Q b H1 → Q' b H1) → c σ H Q → c σ H Q') : tWhile c tb D σ H := by
  refine ⟨fun m σ H => m = μ σ H ∧ Pv σ H, ⟨_, rfl, h0⟩, ?_⟩
  rintro m σ H ⟨rfl, p⟩
  refine mono σ H _ _ (fun b H1 q => ?_) (hs σ H p)
  cases b with
  | true => exact ⟨_, fun σ' H' ⟨p', l⟩ => ⟨_, l, rfl, p'⟩, q⟩
  | false => exact q
end L2
namespace L2
open PySem PySem.Spec PyProof.Rows
abbrev R2 := V → V → Hp → VK → Prop
def OpR (X : Cx) (f : Value → Value → Sem Value) (r : R2) : Prop :=
  ∀ (pins : List (Addr × Obj)) (s : Shared) (σ : St) (H : Hp) (x y : V) (v u : Value) (Q : VK), Inv X pins σ H s → RelV x v → RelV y u → r x y H Q →
    wpAny (model X.prog X.w) X.A (f v u) (EP X pins σ Q) X.xe s
def UnR (X : Cx) (f : Value → Sem Value) (r : V → Hp → VK → Prop) : Prop :=
  ∀ (pins : List (Addr × Obj)) (s : Shared) (σ : St) (H : Hp) (x : V) (v : Value) (Q : VK), Inv X pins σ H s → RelV x v → r x H Q →
    wpAny (model X.prog X.w) X.A (f v) (EP X pins σ Q) X.xe s
def CallR (X : Cx) (f : Value) (r : List V → Hp → VK → Prop) : Prop :=
  ∀ (pins : List (Addr × Obj)) (s : Shared) (σ : St) (H : Hp) (xs : List V) (us : List Value) (Q : VK), Inv X pins σ H s → Vals xs us → r xs H Q →
    wpAny (model X.prog X.w) X.A (call f us) (EP X pins σ Q) X.xe s
def TruR (X : Cx) (r : V → Hp → (Bool → Hp → Prop) → Prop) : Prop :=
  ∀ (pins : List (Addr × Obj)) (s : Shared) (σ : St) (H : Hp) (x : V) (v : Value) (Q : Bool → Hp → Prop), Inv X pins σ H s → RelV x v → r x H Q →
    wpAny (model X.prog X.w) X.A (truthy v) (TP X pins σ Q) X.xe s
def tOp (r : R2) (ta tb : TE) : TE := fun σ H Q => ta σ H fun x H1 => tb σ H1 fun y H2 => r x y H2 Q
def tUn (r : V → Hp → VK → Prop) (ta : TE) : TE := fun σ H Q => ta σ H fun x H1 => r x H1 Q
def rI (C : Int → Int → Prop) (g : Int → Int → V) : R2 := fun x y H Q => ∃ i j, x = .int i ∧ y = .int j ∧ C i j ∧ Q (g i j) H
def rI0 (g : Int → Int → V) : R2 := fun x y H Q => ∃ i j, x = .int i ∧ y = .int j ∧ Q (g i j) H
def rU (g : Int → V) : V → Hp → VK → Prop := fun x H Q => ∃ i, x = .int i ∧ Q (g i) H
section
variable {X : Cx} {a b c : Expr} {ta tb tc : TE} {pos : Pos}
theorem binT (ha : PE X a ta) (hb : PE X b tb) {pins : List (Addr × Obj)} {s : Shared} {σ : St} {H : Hp} {R : V → V → Hp → Prop} (I : Inv X pins σ H s)
    (h : ta σ H fun x H1 => tb σ H1 fun y H2 => R x y H2) {Q : Value → Shared → Prop} {f : Value → Value → Sem Value}
    (hf : ∀ v u s2 x y H2, Inv X pins σ H2 s2 → RelV x v → RelV y u → R x y H2 → wpAny (model X.prog X.w) X.A (f v u) Q X.xe s2) :
    wpAny (model X.prog X.w) X.A (eval a X.env) (fun v s₁ => wpAny (model X.prog X.w) X.A (eval b X.env) (fun u s₂ => wpAny (model X.prog X.w) X.A (f v u) Q X.xe s₂) X.xe s₁) X.xe s := by
  refine thn (ha pins s σ H _ I h) fun v s1 ⟨x, H1, I1, r1, q1⟩ => ?_
  refine thn (hb pins s1 σ H1 _ I1 q1) fun u s2 ⟨y, H2, I2, r2, q2⟩ => ?_
  exact hf v u s2 x y H2 I2 r1 r2 q2
theorem pe_op {op : Operator} {r : R2} (ho : OpR X (binaryOp op) r) (ha : PE X a ta) (hb : PE X b tb) : PE X (.BinOp a op b pos) (tOp r ta tb) := by
  intro pins s σ H Q I h
  exact wpAny_BinOp (binT ha hb I h fun v u s2 x y H2 I2 rx ry q => ho pins s2 σ H2 x y v u Q I2 rx ry q)
theorem pe_un {op : UnaryOp} {r : V → Hp → VK → Prop} (ho : UnR X (unaryOp op) r) (ha : PE X a ta) : PE X (.UnaryOp op a pos) (tUn r ta) := by
  intro pins s σ H Q I h
  exact UnaryOp_ (thn (ha pins s σ H _ I h) fun v s1 ⟨x, H1, I1, r1, q1⟩ => ho pins s1 σ H1 x v Q I1 r1 q1)
theorem opI {f : Value → Value → Sem Value} {C : Int → Int → Prop} {g : Int → Int → Int}
    (rule : ∀ (i j : Int) (t u : Tok) (s : Shared) (Q : Value → Shared → Prop) (E : Value → Shared → Prop), C i j → Q (.int (g i j) s.toks) { s with toks := s.toks + 1 } → wpAny (model X.prog X.w) X.A (f (.int i t) (.int j u)) Q E s) :
    OpR X f (rI C fun i j => .int (g i j)) := by
  intro pins s σ H x y v u Q I rx ry h
  obtain ⟨i, j, rfl, rfl, hc, q⟩ := h
  obtain ⟨t, rfl⟩ := rx
  obtain ⟨t', rfl⟩ := ry
  exact rule i j t t' s _ _ hc ⟨.int (g i j), H, I.tok _, ⟨_, rfl⟩, q⟩
theorem opI0 {f : Value → Value → Sem Value} {g : Int → Int → Int}
    (rule : ∀ (i j : Int) (t u : Tok) (s : Shared) (Q : Value → Shared → Prop) (E : Value → Shared → Prop), Q (.int (g i j) s.toks) { s with toks := s.toks + 1 } → wpAny (model X.prog X.w) X.A (f (.int i t) (.int j u)) Q E s) :
    OpR X f (rI0 fun i j => .int (g i j)) := by
  intro pins s σ H x y v u Q I rx ry h
  obtain ⟨i, j, rfl, rfl, q⟩ := h
  obtain ⟨t, rfl⟩ := rx
  obtain ⟨t', rfl⟩ := ry
  exact rule i j t t' s _ _ ⟨.int (g i j), H, I.tok _, ⟨_, rfl⟩, q⟩
theorem opB0 {f : Value → Value → Sem Value} {g : Int → Int → Bool}
    (rule : ∀ (i j : Int) (t u : Tok) (s : Shared) (Q : Value → Shared → Prop) (E : Value → Shared → Prop), Q (.bool (g i j)) s → wpAny (model X.prog X.w) X.A (f (.int i t) (.int j u)) Q E s) :
    OpR X f (rI0 fun i j => .bl (g i j)) := by
  intro pins s σ H x y v u Q I rx ry h
  obtain ⟨i, j, rfl, rfl, q⟩ := h
  obtain ⟨t, rfl⟩ := rx
  obtain ⟨t', rfl⟩ := ry
  exact rule i j t t' s _ _ ⟨.bl (g i j), H, I, rfl, q⟩
def CDiv (i j : Int) : Prop := 0 < j ∧ j < 1073741824
def CDivN (i j : Int) : Prop := j ≠ 0 ∧ j.natAbs < 1073741824
def CPow (i j : Int) : Prop := 0 ≤ j ∧ j ≤ 1000000 ∧ i.natAbs < 2 ^ 64
def CMul (i j : Int) : Prop := (-(2 ^ 64) < i ∧ i < 2 ^ 64) ∨ (-(2 ^ 64) < j ∧ j < 2 ^ 64)
theorem CMul.ok {i j : Int} (h : CMul i j) : IntMulOk i j := by
  rcases h with ⟨h1, h2⟩ | ⟨h1, h2⟩
  · exact .of_left (intBits_le_64 h1 h2)
  · exact .of_right (intBits_le_64 h1 h2)
theorem op_add : OpR X (binaryOp .Add) (rI0 fun i j => .int (i + j)) := opI0 fun _ _ _ _ _ _ _ q => add_int q
theorem op_sub : OpR X (binaryOp .Sub) (rI0 fun i j => .int (i - j)) := opI0 fun _ _ _ _ _ _ _ q => sub_int q
theorem op_mul : OpR X (binaryOp .Mult) (rI CMul fun i j => .int (i * j)) := opI fun _ _ _ _ _ _ _ hc q => mul_int q hc.ok
theorem op_fdiv : OpR X (binaryOp .FloorDiv) (rI CDiv fun i j => .int (i / j)) := opI fun i j _ _ _ _ _ hc q => by
  have h1 : (0 : Int) < j := hc.1
  have h2 : j < 1073741824 := hc.2
  exact floordiv_int (by omega) (by rw [Int.fdiv_eq_ediv_of_nonneg i (by omega)]; exact q) (.inl (PyProof.noPylong_small (by omega)))
theorem op_mod : OpR X (binaryOp .Mod) (rI (fun _ j => 0 < j) fun i j => .int (i % j)) := opI fun i j _ _ _ _ _ hc q => by
  have h1 : (0 : Int) < j := hc
  exact mod_int' (by omega) (by rw [Int.fmod_eq_emod_of_nonneg i (by omega)]; exact q)
theorem op_pow : OpR X (binaryOp .Pow) (rI CPow fun i j => .int (i ^ j.toNat)) := opI fun _ _ _ _ _ _ _ hc q => pow_int_small hc.1 hc.2.1 hc.2.2 q
theorem unI {f : Value → Sem Value} {g : Int → Int}
    (rule : ∀ (i : Int) (t : Tok) (s : Shared) (Q : Value → Shared → Prop) (E : Value → Shared → Prop), Q (.int (g i) s.toks) { s with toks := s.toks + 1 } → wpAny (model X.prog X.w) X.A (f (.int i t)) Q E s) :
    UnR X f (rU fun i => .int (g i)) := by
  intro pins s σ H x v Q I rx h
  obtain ⟨i, rfl, q⟩ := h
  obtain ⟨t, rfl⟩ := rx
  exact rule i t s _ _ ⟨.int (g i), H, I.tok _, ⟨_, rfl⟩, q⟩
theorem un_neg : UnR X (unaryOp .USub) (rU fun i => .int (-i)) := unI fun _ _ _ _ _ q => neg_int q
end
def scal : V → V → Bool
  | .non, .non => true | .non, .int _ => true | .int _, .non => true | .non, .bl _ => true | .bl _, .non => true | .non, .str _ => true | .str _, .non => true
  | .int _, .int _ => true | .bl _, .bl _ => true | .str _, .str _ => true | .byt _, .byt _ => true
  | .int _, .str _ => true | .str _, .int _ => true | .bl _, .str _ => true | .str _, .bl _ => true
  | _, _ => false
def rEq : R2 := fun x y H Q => scal x y = true ∧ Q (.bl (decide (x = y))) H
def rNe : R2 := fun x y H Q => scal x y = true ∧ Q (.bl (!decide (x = y))) H
theorem dec_int {i j : Int} : decide (V.int i = V.int j) = (i == j) := by
  rw [Bool.eq_iff_iff]
  simp
theorem dec_bl {i j : Bool} : decide (V.bl i = V.bl j) = (i == j) := by
  rw [Bool.eq_iff_iff]
  simp
theorem dec_str {i j : Str} : decide (V.str i = V.str j) = (i == j) := by
  rw [Bool.eq_iff_iff]
  simp
theorem dec_byt {i j : Array UInt8} : decide (V.byt i = V.byt j) = (i.toList == j.toList) := by
  rw [Bool.eq_iff_iff]
  cases i
  cases j
  simp
section
variable {X : Cx} {a b c : Expr} {ta tb tc : TE} {pos : Pos}
theorem fin_bl {pins : List (Addr × Obj)} {σ : St} {H : Hp} {s : Shared} {Q : VK} {k k' : Bool} (I : Inv X pins σ H s) (q : Q (.bl k) H) (e : k = k') : EP X pins σ Q (.bool k') s := by
  subst e
  exact ⟨.bl k, H, I, rfl, q⟩
theorem op_eq : OpR X (compareOp .Eq) rEq := by
  intro pins s σ H x y v u Q I rx ry h
  obtain ⟨hs, q⟩ := h
  cases x with
  | non =>
    cases rx
    cases y with
    | non => cases ry; exact PySem.EqNone.eq_none_none (fin_bl I q (by simp))
    | bl j => cases ry; exact PySem.EqNone.eq_none_bool (fin_bl I q (by simp))
    | int j => obtain ⟨t', rfl⟩ := ry; exact PySem.EqNone.eq_none_int (fin_bl I q (by simp))
    | str j => obtain ⟨t', rfl⟩ := ry; exact PySem.EqNone.eq_none_str (fin_bl I q (by simp))
    | _ => exact absurd (show false = true from hs) Bool.false_ne_true
  | bl i =>
    cases rx
    cases y with
    | non => cases ry; exact PySem.EqNone.eq_bool_none (fin_bl I q (by simp))
    | bl j => cases ry; exact eq_bool (fin_bl I q dec_bl)
    | str j => obtain ⟨t', rfl⟩ := ry; exact PySem.EqMixed.eq_bool_str (fin_bl I q (by simp))
    | _ => exact absurd (show false = true from hs) Bool.false_ne_true
  | int i =>
    obtain ⟨t, rfl⟩ := rx
    cases y with
    | non => cases ry; exact PySem.EqNone.eq_int_none (fin_bl I q (by simp))
    | int j => obtain ⟨t', rfl⟩ := ry; exact eq_int (fin_bl I q dec_int)
    | str j => obtain ⟨t', rfl⟩ := ry; exact PySem.EqMixed.eq_int_str (fin_bl I q (by simp))
    | _ => exact absurd (show false = true from hs) Bool.false_ne_true
  | str i =>
    obtain ⟨t, rfl⟩ := rx
    cases y with
    | non => cases ry; exact PySem.EqNone.eq_str_none (fin_bl I q (by simp))
    | bl j => cases ry; exact PySem.EqMixed.eq_str_bool (fin_bl I q (by simp))
    | int j => obtain ⟨t', rfl⟩ := ry; exact PySem.EqMixed.eq_str_int (fin_bl I q (by simp))
    | str j => obtain ⟨t', rfl⟩ := ry; exact eq_str (fin_bl I q dec_str)
    | _ => exact absurd (show false = true from hs) Bool.false_ne_true
  | byt i =>
    obtain ⟨t, rfl⟩ := rx
    cases y with
    | byt j => obtain ⟨t', rfl⟩ := ry; exact PySem.W.eq_bytes (fin_bl I q dec_byt)
    | _ => exact absurd (show false = true from hs) Bool.false_ne_true
  | _ => cases y <;> exact absurd (show false = true from hs) Bool.false_ne_true
theorem op_ne : OpR X (compareOp .NotEq) rNe := by
  intro pins s σ H x y v u Q I rx ry h
  obtain ⟨hs, q⟩ := h
  cases x with
  | non =>
    cases rx
    cases y with
    | non => cases ry; exact PySem.EqNone.ne_none_none (fin_bl I q (by simp))
    | bl j => cases ry; exact PySem.EqNone.ne_none_bool (fin_bl I q (by simp))
    | int j => obtain ⟨t', rfl⟩ := ry; exact PySem.EqNone.ne_none_int (fin_bl I q (by simp))
    | str j => obtain ⟨t', rfl⟩ := ry; exact PySem.EqNone.ne_none_str (fin_bl I q (by simp))
    | _ => exact absurd (show false = true from hs) Bool.false_ne_true
  | bl i =>
    cases rx
    cases y with
    | non => cases ry; exact PySem.EqNone.ne_bool_none (fin_bl I q (by simp))
    | bl j => cases ry; exact ne_bool (fin_bl I q (congrArg not dec_bl))
    | str j => obtain ⟨t', rfl⟩ := ry; exact PySem.EqMixed.ne_bool_str (fin_bl I q (by simp))
    | _ => exact absurd (show false = true from hs) Bool.false_ne_true
  | int i =>
    obtain ⟨t, rfl⟩ := rx
    cases y with
    | non => cases ry; exact PySem.EqNone.ne_int_none (fin_bl I q (by simp))
    | int j => obtain ⟨t', rfl⟩ := ry; exact ne_int (fin_bl I q (congrArg not dec_int))
    | str j => obtain ⟨t', rfl⟩ := ry; exact PySem.EqMixed.ne_int_str (fin_bl I q (by simp))
    | _ => exact absurd (show false = true from hs) Bool.false_ne_true
  | str i =>
    obtain ⟨t, rfl⟩ := rx
    cases y with
    | non => cases ry; exact PySem.EqNone.ne_str_none (fin_bl I q (by simp))
    | bl j => cases ry; exact PySem.EqMixed.ne_str_bool (fin_bl I q (by simp))
    | int j => obtain ⟨t', rfl⟩ := ry; exact PySem.EqMixed.ne_str_int (fin_bl I q (by simp))
    | str j => obtain ⟨t', rfl⟩ := ry; exact ne_str (fin_bl I q (congrArg not dec_str))
    | _ => exact absurd (show false = true from hs) Bool.false_ne_true
  | byt i =>
    obtain ⟨t, rfl⟩ := rx
    cases y with
    | byt j => obtain ⟨t', rfl⟩ := ry; exact PySem.W.ne_bytes (fin_bl I q (congrArg not dec_byt))
    | _ => exact absurd (show false = true from hs) Bool.false_ne_true
  | _ => cases y <;> exact absurd (show false = true from hs) Bool.false_ne_true
theorem op_lt : OpR X (compareOp .Lt) (rI0 fun i j => .bl (decide (i < j))) := opB0 fun _ _ _ _ _ _ _ q => lt_int q
theorem op_le : OpR X (compareOp .LtE) (rI0 fun i j => .bl (decide (i ≤ j))) := opB0 fun _ _ _ _ _ _ _ q => le_int q
theorem op_gt : OpR X (compareOp .Gt) (rI0 fun i j => .bl (decide (j < i))) := opB0 fun _ _ _ _ _ _ _ q => gt_int q
theorem op_ge : OpR X (compareOp .GtE) (rI0 fun i j => .bl (decide (j ≤ i))) := opB0 fun _ _ _ _ _ _ _ q => ge_int q
theorem op_in_str : OpR X (compareOp .In) (fun x y H Q => ∃ i j, x = .str i ∧ y = .str j ∧ Q (.bl (!(Builtin.Str.occurrences j i 0 j.length 1).isEmpty)) H) := by
  intro pins s σ H x y v u Q I rx ry h
  obtain ⟨i, j, rfl, rfl, q⟩ := h
  obtain ⟨t, rfl⟩ := rx
  obtain ⟨t', rfl⟩ := ry
  exact in_str (fin_bl I q rfl)
def isObj : HO → Bool
  | .lst _ => true
  | .ins _ _ _ => true
  | _ => false
theorem OpR.or {f : Value → Value → Sem Value} {r r' : R2} (h : OpR X f r) (h' : OpR X f r') : OpR X f (fun x y H Q => r x y H Q ∨ r' x y H Q) := by
  intro pins s σ H x y v u Q I rx ry q
  rcases q with q | q
  · exact h pins s σ H x y v u Q I rx ry q
  · exact h' pins s σ H x y v u Q I rx ry q
theorem nomark (b : Expr) {op : CmpOp} (h : op ≠ .In := by decide) (h2 : op ≠ .NotIn := by decide) : behindInMarks op b = false := by
  have e1 : (op == CmpOp.In) = false := by cases op <;> first | rfl | exact absurd rfl h
  have e2 : (op == CmpOp.NotIn) = false := by cases op <;> first | rfl | exact absurd rfl h2
  cases b <;> simp [behindInMarks, e1, e2]
theorem pe_cmpR {op : CmpOp} {r : R2} (ho : OpR X (compareOp op) r) (ha : PE X a ta) (hb : PE X b tb) (hm : behindInMarks op b = false) : PE X (.Compare a [op] [b] pos) (tOp r ta tb) := by
  intro pins s σ H Q I h
  exact wpAny_Compare1 (binT ha hb I h fun v u s2 x y H2 I2 rx ry q => ho pins s2 σ H2 x y v u Q I2 rx ry q) hm
def tTest (t : TE) : TT := fun σ H Q => t σ H fun x H' => ∃ k, x = .bl k ∧ Q k H'
theorem pt_cmpR {op : CmpOp} {r : R2} (ho : OpR X (compareOp op) r) (ha : PE X a ta) (hb : PE X b tb) (hm : behindInMarks op b = false) : PT X (.Compare a [op] [b] pos) (tTest (tOp r ta tb)) := by
  intro pins s σ H Q I h
  refine wpAny_isTrue_Compare1 (thn (ha pins s σ H _ I h) fun v s1 ⟨x, H1, I1, r1, q1⟩ => thn (hb pins s1 σ H1 _ I1 q1) fun u s2 ⟨y, H2, I2, r2, q2⟩ =>
    thn (ho pins s2 σ H2 x y v u _ I2 r1 r2 q2) fun c s3 ⟨z, H3, I3, r3, k, e, q3⟩ => ?_) hm
  subst e
  cases r3
  exact wpAny_truthy_bool ⟨H3, I3, q3⟩
def tChain (r r' : R2) (ta tb tc : TE) : TE := fun σ H Q => ta σ H fun x H1 => tb σ H1 fun y H2 => r x y H2 fun z H3 => ∃ k, z = .bl k ∧
  (if k = true then tc σ H3 fun w' H4 => r' y w' H4 Q else Q (.bl false) H3)
def TruV (K : PySem.W.Frag) (x : V) (H : Hp) (k : Bool) : Prop :=
  match x with
  | .non => k = false
  | .bl b => k = b
  | .int i => k = (i != 0)
  | .str y => y.length ≤ sizeLine ∧ k = ((y.length : Int) != 0)
  | .byt y => y.size ≤ sizeLine ∧ k = ((y.size : Int) != 0)
  | .ref p => (∃ xs, SqL K H p xs ∧ k = !xs.isEmpty) ∨ (∃ xs, SqT K H p xs ∧ k = !xs.isEmpty) ∨ ∃ kvs, H p = some (.dK kvs) ∧ k = !kvs.isEmpty
  | _ => False
theorem line63 : (sizeLine : Nat) < 2 ^ 63 := by rw [sizeLine_eq]; decide
theorem op_add_str : OpR X (binaryOp .Add) (fun x y H Q => ∃ i j, x = .str i ∧ y = .str j ∧ i.length + j.length ≤ sizeLine ∧ Q (.str (i ++ j)) H) := by
  intro pins s σ H x y v u Q I rx ry h
  obtain ⟨i, j, rfl, rfl, hz, q⟩ := h
  obtain ⟨t, rfl⟩ := rx
  obtain ⟨t', rfl⟩ := ry
  exact add_str (fun t' tk => ⟨.str (i ++ j), H, I.tok _, ⟨_, rfl⟩, q⟩) hz
def PlainIxT (b : Expr) : Prop := ∀ o i, subscripted b false o i = operate [o, i] (getItem o i)
theorem vals1 {x : V} {us : List Value} (r : Vals [x] us) : ∃ u, us = [u] ∧ RelV x u := by
  cases r with
  | cons r1 r2 => cases r2; exact ⟨_, rfl, r1⟩
theorem call_abs : CallR X (.builtin "abs") (fun xs H Q => ∃ i, xs = [.int i] ∧ Q (.int (if i < 0 then -i else i)) H) := by
  intro pins s σ H xs us Q I r h
  obtain ⟨i, rfl, q⟩ := h
  obtain ⟨u, rfl, t, rfl⟩ := vals1 r
  exact call_abs_int fun u tk => ⟨.int (if i < 0 then -i else i), H, I.tok _, ⟨_, rfl⟩, q⟩
theorem call_int1 : CallR X (.type "int") (fun xs H Q => (∃ i, xs = [.int i] ∧ Q (.int i) H) ∨ ∃ k, xs = [.bl k] ∧ Q (.int (if k then 1 else 0)) H) := by
  intro pins s σ H xs us Q I r h
  rcases h with ⟨i, rfl, q⟩ | ⟨k, rfl, q⟩
  · obtain ⟨u, rfl, t, rfl⟩ := vals1 r
    exact call_int_int ⟨.int i, H, I, ⟨_, rfl⟩, q⟩
  · obtain ⟨u, rfl, r1⟩ := vals1 r
    cases r1
    exact call_int_bool ⟨.int (if k then 1 else 0), H, I.tok _, ⟨_, rfl⟩, q⟩
def LenV (K : PySem.W.Frag) (x : V) (H : Hp) (n : Nat) : Prop :=
  match x with
  | .str y => y.length ≤ sizeLine ∧ n = y.length
  | .byt y => y.size ≤ sizeLine ∧ n = y.size
  | .ref p => (∃ xs, SqL K H p xs ∧ n = xs.length) ∨ ∃ xs, SqT K H p xs ∧ n = xs.length
  | _ => False
end
end L2
namespace L2
open PySem PySem.Spec PyProof.Rows
structure ObjM (h : Heap) (x dx C : Addr) (mA : Str → Option Value) : Prop where
  obj : h.get? x = some (PySem.W.instObj C dx)
  ns : h.Ns1 dx mA
  ne : dx ≠ x
theorem lookIn_ns {h : Heap} {dx : Addr} {mA : Str → Option Value} (n : h.Ns1 dx mA) : ∃ od, h.get? dx = some od ∧ ∀ name, PySem.W.lookIn name od = some (mA name) := by
  obtain ⟨o, es, ep, ho, hd, hk, _, hm⟩ := n
  refine ⟨o, ho, fun name => ?_⟩
  have e := hm name
  unfold nsFind findBy at e
  rw [← Array.find?_toList] at e
  unfold PySem.W.lookIn
  rw [hd]
  dsimp only
  split
  · rename_i y q
    rw [q] at e
    exact congrArg some e
  · rename_i q
    rw [q] at e
    have a : es.toList.any (·.refKey) = false := by
      rw [List.any_eq_false]
      intro y hy
      obtain ⟨z, t, hkey⟩ := hk y (Array.mem_toList_iff.mp hy)
      simp [DictEntry.refKey, hkey]
    have a' : ¬ es.toList.any (·.refKey) = true := by rw [a]; exact Bool.false_ne_true
    rw [if_neg a']
    exact congrArg some e
theorem ObjM.look {h : Heap} {x dx C : Addr} {mA : Str → Option Value} (I : ObjM h x dx C mA) : ∃ od, PySem.W.InstAt h x (PySem.W.instObj C dx) C (some od) ∧ ∀ name, PySem.W.lookIn name od = some (mA name) :=
  let ⟨od, ho, hl⟩ := lookIn_ns I.ns
  ⟨od, ⟨I.obj, rfl, rfl, ho⟩, hl⟩
section
variable {prog : Program} {w : World} {A : Around} {E : Value → Shared → Prop} {s : Shared} {K : PySem.W.Frag} {x dx C f : Addr} {mA : Str → Option Value} {name : Str} {v : Value}
theorem get_map {expr : Bool} {Q : Value → Shared → Prop} (X : K.In s.heap) (I : ObjM s.heap x dx C mA) (hg : PySem.W.plainGet K C name = true) (hh : PySem.W.hasDictIn K C = true)
    (ha : PySem.W.findIn K (.ref C) name = some none) (hv : mA name = some v) (hv' : PySem.W.handedIn v = true) (h : Q v { s with toks := s.toks + 1 }) :
    wpAny (model prog w) A (getAttr (.ref x) name expr) Q E s := by
  obtain ⟨od, J, hl⟩ := I.look
  exact PySem.W.get_value X J (PySem.W.plainGet_of hg).1 (PySem.W.findObj_own hh ha rfl (by rw [hl, hv])) hv' h
theorem get_meth {pl : Sem Bool} {Q : Value × List Value → Shared → Prop} (X : K.In s.heap) (I : ObjM s.heap x dx C mA) (hg : PySem.W.plainGet K C name = true)
    (hf : PySem.W.findIn K (.ref C) name = some (some (.ref f))) (ht : PySem.W.isFn K (.ref f) = true) (hv : mA name = none) (h : Q (.ref f, [.ref x]) s) :
    wpAny (model prog w) A (getMethod (.ref x) name pl) Q E s := by
  obtain ⟨od, J, hl⟩ := I.look
  exact PySem.W.method_fn X J (PySem.W.plainGet_of hg).1 (PySem.W.plainGet_of hg).2 hf (beq_iff_eq.mp ht) (by show (PySem.W.lookIn name od).map (·.isSome) = some false; rw [hl, hv]; rfl) h
theorem set_map {ns : List Str} {Q : Unit → Shared → Prop} (X : K.In s.heap) (I : ObjM s.heap x dx C mA)
    (hs : PySem.W.findIn K (.ref C) "__setattr__" = some (some (.builtin "object.__setattr__"))) (hp : PySem.W.plainOver K C = true) (ht : PySem.W.takerIn K C name = some none) (hh : PySem.W.hasDictIn K C = true)
    (hw : PySem.Within mA ns) (hsz : ns.length ≤ sizeLine)
    (h : ∀ h', ObjM h' x dx C (fun y => if y = name then some v else mA y) → Heap.SameBut dx s.heap h' → Q () { s with heap := h', toks := s.toks + 2 }) :
    wpAny (model prog w) A (setAttr (.ref x) name v) Q E s := by
  obtain ⟨od, J, hl⟩ := I.look
  refine PySem.W.set_plain X J hs (PySem.W.osa_open (s := { s with toks := s.toks + 1 }) (r := none) X J hp ht fun b => ?_)
  obtain ⟨cd, hc, hd'⟩ := PySem.W.any_some hh
  have hx : s.heap.get? x = some ⟨.ref C, some dx, .plain, #[]⟩ := I.obj
  refine wpAny_bind (wpAny_pure (wpAny_bind (wpAny_bind (wpAny_loadPart hx (wpAny_bind (PySem.W.Looks.here (s := { s with toks := s.toks + 1 }) (PySem.W.looks_clsIn X hc) ?_))))))
  rw [hd']
  refine wpAny_pure (a := some dx) (wpAny_bind (wpAny_pure (wpAny_bind ?_)))
  refine wpAny_nsSet1 (s := { s with toks := s.toks + 1 }) I.ns fun h' hn2 hs2 => ?_
  obtain ⟨oD, esD, epD, hoD, hdD, hcD⟩ := hn2.count (PySem.Within.cons name v hw)
  refine wpAny_bind (wpAny_lookBehind hoD (by rw [hdD]; exact pastItsLine_dict (Nat.le_trans hcD (by rw [List.length_cons]; omega))) ?_)
  exact wpAny_pure (h _ ⟨(hs2.2 _ (Ne.symm I.ne)).trans I.obj, hn2, I.ne⟩ hs2)
theorem make_map {R : Result → Shared → Prop} {vs : List Value} {kw : List (Str × Value)} (X : K.In s.heap) (hm : PySem.W.makesIn K C = true)
    (hi : PySem.W.findIn K (.ref C) "__init__" = some (some (.ref f))) (hf : PySem.W.typeIn K (.ref f) = some (.type "function"))
    (h : codeAny (model prog w) (A.under (.builtin "type.__call__" ⟨.ref C :: vs, kw⟩)) (.call (.ref f) ⟨.ref (s.heap.objs.size + 1) :: vs, kw⟩) (PySem.W.InitBack (s.heap.objs.size + 1) R)
      { s with heap := (s.heap.push PySem.W.emptyDict).push (PySem.W.instObj C s.heap.objs.size) }) :
    codeAny (model prog w) A (.call (.ref C) ⟨vs, kw⟩) R s := by
  obtain ⟨hh, g, d, t, os⟩ := s
  exact PySem.W.make_core (PySem.W.makes_of X hm) (PySem.W.looks_findIn X hi) (fun self => PySem.W.bind_fn X self hf) (.inl rfl) h
end
def putF (f : Str) (v : V) : List (Str × V) → List (Str × V)
  | [] => [(f, v)]
  | (g, x) :: r => if g = f then (g, v) :: r else (g, x) :: putF f v r
theorem lookup_putF (f g : Str) (v : V) : ∀ fs : List (Str × V), (putF f v fs).lookup g = if g = f then some v else fs.lookup g
  | [] => by
    show List.lookup g [(f, v)] = _
    by_cases h : g = f
    · have hb : (g == f) = true := beq_iff_eq.mpr h
      simp only [List.lookup, hb, if_pos h]
    · have hb : (g == f) = false := beq_eq_false_iff_ne.mpr h
      simp only [List.lookup, hb, if_neg h]
  | (k, x) :: r => by
    have ih := lookup_putF f g v r
    rw [show putF f v ((k, x) :: r) = (if k = f then (k, v) :: r else (k, x) :: putF f v r) from rfl]
    by_cases hk : k = f
    · rw [if_pos hk]
      by_cases h : g = k
      · have hb : (g == k) = true := beq_iff_eq.mpr h
        simp only [List.lookup, hb, if_pos (h.trans hk)]
      · have hb : (g == k) = false := beq_eq_false_iff_ne.mpr h
        simp only [List.lookup, hb, if_neg (fun e : g = f => h (e.trans hk.symm))]
    · rw [if_neg hk]
      by_cases h : g = k
      · have hb : (g == k) = true := beq_iff_eq.mpr h
        simp only [List.lookup, hb, if_neg (fun e : g = f => hk (h.symm.trans e))]
      · have hb : (g == k) = false := beq_eq_false_iff_ne.mpr h
        simp only [List.lookup, hb]
        exact ih
theorem keys_putF (f : Str) (v : V) : ∀ fs : List (Str × V), f ∈ (putF f v fs).map (·.1) ∧ ∀ g, g ∈ fs.map (·.1) → g ∈ (putF f v fs).map (·.1)
  | [] => ⟨by simp [putF], fun g h => by simp at h⟩
  | (k, x) :: r => by
    obtain ⟨i1, i2⟩ := keys_putF f v r
    rw [show putF f v ((k, x) :: r) = (if k = f then (k, v) :: r else (k, x) :: putF f v r) from rfl]
    by_cases hk : k = f
    · rw [if_pos hk]
      subst hk
      exact ⟨by simp, fun g h => by simpa using h⟩
    · rw [if_neg hk]
      refine ⟨?_, fun g h => ?_⟩
      · rw [List.map_cons]
        exact List.mem_cons_of_mem _ i1
      · rw [List.map_cons] at h ⊢
        rcases List.mem_cons.mp h with e | e
        · exact List.mem_cons.mpr (.inl e)
        · exact List.mem_cons_of_mem _ (i2 g e)
theorem length_putF (f : Str) (v : V) : ∀ fs : List (Str × V), (putF f v fs).length ≤ fs.length + 1
  | [] => by simp [putF]
  | (k, x) :: r => by
    have ih := length_putF f v r
    rw [show putF f v ((k, x) :: r) = (if k = f then (k, v) :: r else (k, x) :: putF f v r) from rfl]
    by_cases hk : k = f
    · rw [if_pos hk, List.length_cons, List.length_cons]; omega
    · rw [if_neg hk, List.length_cons, List.length_cons]; omega
theorem RelO.some_of {v : V} {o : Option Value} (r : RelO (some v) o) : ∃ u, o = some u ∧ RelV v u := by
  cases o with
  | none => exact (show False from r).elim
  | some u => exact ⟨u, rfl, r⟩
theorem RelO.none_of {o : Option Value} (r : RelO none o) : o = none := by
  cases o with
  | none => rfl
  | some u => exact (show False from r).elim
theorem handed_of {v : V} {u : Value} (r : RelV v u) : PySem.W.handedIn u = true := by
  cases v with
  | non => cases (show u = Value.none from r); rfl
  | bl b => cases (show u = Value.bool b from r); rfl
  | int i => obtain ⟨t, e⟩ := (show ∃ t, u = Value.int i t from r); cases e; rfl
  | str x => obtain ⟨t, e⟩ := (show ∃ t, u = Value.str x t from r); cases e; rfl
  | byt b => obtain ⟨t, e⟩ := (show ∃ t, u = Value.bytes b t from r); cases e; rfl
  | flt b => obtain ⟨t, e⟩ := (show ∃ t, u = Value.float b t from r); cases e; rfl
  | ref a => cases (show u = Value.ref a from r); rfl
  | ty n => cases (show u = Value.type n from r); rfl
section
variable {P : Program} {w : World} {H H' : Hp} {h h' : Heap} {a C dx : Addr} {fs fs' : List (Str × V)}
theorem ins_get (hok : HOk P w H h) (e : H a = some (.ins C dx fs)) : ∃ mA, ObjM h a dx C mA ∧ (∀ f, RelO (fs.lookup f) (mA f)) ∧ PySem.Within mA (fs.map (·.1)) ∧ fs.length ≤ 1000 ∧ H dx = some (.own a) := by
  obtain ⟨d, z, ne, ob, mA, n, r, q⟩ := (show ObjOk P w H h a (.ins C dx fs) from hok a _ e)
  exact ⟨mA, ⟨ob, n, ne⟩, r, q, z, d⟩
end
structure Cls (K : PySem.W.Frag) (C : Addr) : Prop where
  pg : PySem.W.plainGet K C Str.empty = true
  hd : PySem.W.hasDictIn K C = true
  po : PySem.W.plainOver K C = true
  sa : PySem.W.findIn K (.ref C) "__setattr__" = some (some (.builtin "object.__setattr__"))
theorem Cls.get {K : PySem.W.Frag} {C : Addr} (c : Cls K C) (f : Str) : PySem.W.plainGet K C f = true := c.pg
def NoAttr (K : PySem.W.Frag) (C : Addr) (f : Str) : Prop := PySem.W.findIn K (.ref C) f = some none
theorem NoAttr.taker {K : PySem.W.Frag} {C : Addr} {f : Str} (n : NoAttr K C f) : PySem.W.takerIn K C f = some none := by
  unfold PySem.W.takerIn
  rw [show PySem.W.findIn K (.ref C) f = some none from n]
  rfl
structure Con (K : PySem.W.Frag) (C : Addr) (f : Str) (v : V) (u : Value) : Prop where
  at_ : PySem.W.findIn K (.ref C) f = some (some u)
  rel : RelV v u
  get : PySem.W.specialIn K u "__get__" = some none
  cp : PySem.W.copiedNames.contains f = false
structure Meth (K : PySem.W.Frag) (C : Addr) (m : Str) (f : Addr) : Prop where
  at_ : PySem.W.findIn K (.ref C) m = some (some (.ref f))
  fn : PySem.W.isFn K (.ref f) = true
  kp : PySem.W.keepIn K (.ref f) = true
section
variable {X : Cx} {pins : List (Addr × Obj)} {σ : St} {H : Hp} {s : Shared} {a C dx : Addr} {fs : List (Str × V)} {f : Str} {v : V} {A : Around} {E : Value → Shared → Prop}
theorem getattr_ok {b : Bool} {Q : Value → Shared → Prop} (I : Inv X pins σ H s) (e : H a = some (.ins C dx fs)) (c : Cls X.K C) (n : NoAttr X.K C f) (l : fs.lookup f = some v)
    (h : ∀ u s', Inv X pins σ H s' → RelV v u → Q u s') : wpAny (model X.prog X.w) A (getAttr (.ref a) f b) Q E s := by
  obtain ⟨mA, O, r, _, _, _⟩ := ins_get I.hok e
  obtain ⟨u, hu, ru⟩ := RelO.some_of (v := v) (o := mA f) (by rw [← l]; exact r f)
  exact get_map I.kIn O (c.get f) c.hd n hu (handed_of ru) (h u _ (I.tok _) ru)
theorem getmeth_ok {m : Str} {g : Addr} {pl : Sem Bool} {Q : Value × List Value → Shared → Prop} (I : Inv X pins σ H s) (e : H a = some (.ins C dx fs)) (c : Cls X.K C) (k : Meth X.K C m g) (l : fs.lookup m = none)
    (h : Q (.ref g, [.ref a]) s) : wpAny (model X.prog X.w) A (getMethod (.ref a) m pl) Q E s := by
  obtain ⟨mA, O, r, _, _, _⟩ := ins_get I.hok e
  have hn : mA m = none := RelO.none_of (by rw [← l]; exact r m)
  exact get_meth I.kIn O (c.get m) k.at_ k.fn hn h
theorem setattr_ok {y : V} {u : Value} {Q : Unit → Shared → Prop} (I : Inv X pins σ H s) (e : H a = some (.ins C dx fs)) (c : Cls X.K C) (n : NoAttr X.K C f) (hl : fs.length < 1000) (ry : RelV y u)
    (h : ∀ s', Inv X pins σ (upd H a (.ins C dx (putF f y fs))) s' → Q () s') : wpAny (model X.prog X.w) A (setAttr (.ref a) f u) Q E s := by
  obtain ⟨mA, O, r, wi, _, ho⟩ := ins_get I.hok e
  have hz : (fs.map (·.1)).length ≤ sizeLine := by rw [List.length_map, sizeLine_eq]; omega
  refine set_map I.kIn O c.sa c.po n.taker c.hd wi hz fun h' O' sb => h _ ?_
  have hd : ∃ o, h'.get? dx = some o := let ⟨o, _, _, e', _⟩ := O'.ns; ⟨o, e'⟩
  refine I.write (x := a) (e := dx) (by rw [e]; exact True.intro) (.inr ho) (fun b q hb z => (sb.2 b hb).trans z) hd ?_
  refine ⟨by rw [upd_ne O.ne]; exact ho, ?_, O.ne, O'.obj, _, O'.ns, fun g => ?_, fun g hg => ?_⟩
  · have := length_putF f y fs; omega
  · show RelO ((putF f y fs).lookup g) (if g = f then some u else mA g)
    rw [lookup_putF]
    by_cases q : g = f
    · rw [if_pos q, if_pos q]; exact ry
    · rw [if_neg q, if_neg q]; exact r g
  · by_cases q : g = f
    · rw [q]; exact (keys_putF f y fs).1
    · refine (keys_putF f y fs).2 g (wi g fun z => hg ?_)
      show (if g = f then some u else mA g) = none
      rw [if_neg q]; exact z
theorem Inv.made (I : Inv X pins σ H s) : Inv X pins σ (upd (upd H s.heap.objs.size (.own (s.heap.objs.size + 1))) (s.heap.objs.size + 1) (.ins C s.heap.objs.size []))
    { s with heap := (s.heap.push PySem.W.emptyDict).push (PySem.W.instObj C s.heap.objs.size) } := by
  have e1 : (s.heap.push PySem.W.emptyDict).get? s.heap.objs.size = some PySem.W.emptyDict := Heap.get?_push_size s.heap rfl
  have e2 : ((s.heap.push PySem.W.emptyDict).push (PySem.W.instObj C s.heap.objs.size)).get? (s.heap.objs.size + 1) = some (PySem.W.instObj C s.heap.objs.size) := by
    have := Heap.get?_push_size (s.heap.push PySem.W.emptyDict) (o := PySem.W.instObj C s.heap.objs.size) rfl
    rwa [Heap.size_push] at this
  have e3 : (s.heap.push PySem.W.emptyDict).Ns s.heap.objs.size (fun _ => none) := ⟨PySem.W.emptyDict, #[], _, e1, rfl, (fun e he => absurd he (by simp)), fun _ => rfl⟩
  have I1 := I.laid (a := s.heap.objs.size) (o := .own (s.heap.objs.size + 1)) (h' := s.heap.push PySem.W.emptyDict) (t' := s.toks) (fun b u q => Heap.get?_push_of_some _ q) (Nat.le_refl _) ⟨_, e1⟩
  refine I1.laid (a := s.heap.objs.size + 1) (o := .ins C s.heap.objs.size []) (t' := s.toks) (fun b u q => Heap.get?_push_of_some _ q) (Nat.le_of_eq (Heap.size_push _ _)) ?_
  have ne : s.heap.objs.size ≠ s.heap.objs.size + 1 := Nat.ne_of_lt (Nat.lt_succ_self _)
  refine ⟨by rw [upd_ne ne, upd_same], Nat.zero_le _, ne, e2, fun _ => none, (Heap.Ns1.of_empty e3).at fun o q => Heap.get?_push_of_some _ q, fun _ => True.intro, fun y hy => absurd rfl hy⟩
theorem attr_of {prog : Program} {w : World} {env : Env} {e : Expr} {f : Str} {pos : Pos} {s : Shared} {Q : Value → Shared → Prop} (hb : attributeBase e f env (eval e env) = eval e env)
    (h : wpAny (model prog w) A (eval e env) (fun o s₁ => wpAny (model prog w) A (getAttr o f true) Q E s₁) E s) : wpAny (model prog w) A (eval (.Attribute e f pos) env) Q E s :=
  Attribute_any_ h (by rw [arm_eval_Attribute, hb])
end
def tFld (K : PySem.W.Frag) (ta : TE) (f : Str) : TE := fun σ H Q => ta σ H fun x H1 => ∃ a C dx fs v, x = .ref a ∧ H1 a = some (.ins C dx fs) ∧ Cls K C ∧ NoAttr K C f ∧ fs.lookup f = some v ∧ Q v H1
def tCon (K : PySem.W.Frag) (ta : TE) (f : Str) : TE := fun σ H Q => ta σ H fun x H1 => ∃ a C dx fs v u, x = .ref a ∧ H1 a = some (.ins C dx fs) ∧ Cls K C ∧ Con K C f v u ∧ fs.lookup f = none ∧ Q v H1
def sFld (K : PySem.W.Frag) (ta tv : TE) (f : Str) : TS := fun D σ H => tv σ H fun y H1 => ta σ H1 fun x H2 => ∃ a C dx fs, x = .ref a ∧ H2 a = some (.ins C dx fs) ∧ Cls K C ∧ NoAttr K C f ∧ fs.length < 1000 ∧
  D.nx σ (upd H2 a (.ins C dx (putF f y fs)))
def InOp (X : Cx) (op : Operator) (rd : V → V → Hp → VK → Prop) : Prop :=
  ∀ (pins : List (Addr × Obj)) (s : Shared) (σ : St) (H : Hp) (x y : V) (u v : Value) (Q : VK), Inv X pins σ H s → RelV x u → RelV y v → rd x y H Q → wpAny (model X.prog X.w) X.A (inplaceOp op u v) (EP X pins σ Q) X.xe s
def sFldAug (K : PySem.W.Frag) (ta tv : TE) (rd : V → V → Hp → VK → Prop) (f : Str) : TS := fun D σ H => ta σ H fun x H1 => ∃ a C dx fs v, x = .ref a ∧ H1 a = some (.ins C dx fs) ∧ Cls K C ∧ NoAttr K C f ∧ fs.lookup f = some v ∧
  tv σ H1 fun y H2 => rd v y H2 fun z H3 => ∃ dx' fs', H3 a = some (.ins C dx' fs') ∧ fs'.length < 1000 ∧ D.nx σ (upd H3 a (.ins C dx' (putF f z fs')))
section
variable {X : Cx} {o e value : Expr} {f : Str} {pos pos' tpos : Pos} {ta tv : TE}
theorem pe_fld (he : PE X e ta) (hb : attributeBase e f X.env (eval e X.env) = eval e X.env) : PE X (.Attribute e f pos) (tFld X.K ta f) := by
  intro pins s σ H Q I h
  refine attr_of hb (thn (he pins s σ H _ I h) fun u s1 ⟨x, H1, I1, rx, a, C, dx, fs, v, ex, ea, c, n, l, q⟩ => ?_)
  subst ex
  obtain rfl : u = Value.ref a := rx
  exact getattr_ok I1 ea c n l fun u' s2 I2 ru => ⟨v, H1, I2, ru, q⟩
theorem ps_fld (ha : PE X o ta) (hv : PE X value tv) (hs : swapsWith value (some (.Attribute o f pos')) pos.line X.env = pure false) : PS X (.Assign [.Attribute o f pos'] value pos) (sFld X.K ta tv f) := by
  intro pins s σ H D I h
  refine plainObj_wpAny_Assign_Attribute (thn (hv pins s σ H _ I h) fun u s1 ⟨y, H1, I1, ry, q⟩ => thn (ha pins s1 σ H1 _ I1 q) fun ov s2 ⟨x, H2, I2, rx, a, C, dx, fs, ex, ea, c, n, l, q2⟩ => ?_) hs
  subst ex
  obtain rfl : ov = Value.ref a := rx
  exact setattr_ok I2 ea c n l ry fun s3 I3 => ⟨σ, _, I3, q2⟩
def rAdd : V → V → Hp → VK → Prop := fun x y H Q => ∃ i j, x = .int i ∧ y = .int j ∧ Q (.int (i + j)) H
def rSub : V → V → Hp → VK → Prop := fun x y H Q => ∃ i j, x = .int i ∧ y = .int j ∧ Q (.int (i - j)) H
end
section
variable {X : Cx} {pins : List (Addr × Obj)} {σ : St} {H : Hp} {s : Shared} {A : Around} {E : Value → Shared → Prop} {Q : Value → Shared → Prop} {c : Value} {b : Bool}
inductive TyOf (K : PySem.W.Frag) (H : Hp) : V → Value → Prop where
  | non : TyOf K H .non (.type "NoneType")
  | bl (x : Bool) : TyOf K H (.bl x) (.type "bool")
  | int (i : Int) : TyOf K H (.int i) (.type "int")
  | str (x : Str) : TyOf K H (.str x) (.type "str")
  | flt (x : UInt64) : TyOf K H (.flt x) (.type "float")
  | lst {a : Addr} {xs : List V} (e : H a = some (.lst xs)) : TyOf K H (.ref a) (.type "list")
  | frz {a : Addr} {o : Obj} {xs : List V} (e : H a = some (.frz o (.lst xs))) : TyOf K H (.ref a) (.type "list")
  | tup {a : Addr} {xs : List V} (e : H a = some (.tup xs)) : TyOf K H (.ref a) (.type "tuple")
  | dK {a : Addr} {kvs : List (Key × V)} (e : H a = some (.dK kvs)) : TyOf K H (.ref a) (.type "dict")
  | dT {a : Addr} {kvs : List (List Key × V)} (e : H a = some (.dT kvs)) : TyOf K H (.ref a) (.type "dict")
  | ins {a C dx : Addr} {fs : List (Str × V)} (e : H a = some (.ins C dx fs)) (cl : Cls K C) (ha : PySem.W.findIn K (.ref C) "__class__" = some (some (.builtin "object.__class__")))
      (hn : PySem.W.specialIn K (.builtin "object.__class__") "__get__" = some (some (.builtin "getset_descriptor.__get__"))) (htk : PySem.W.takesIn K (.builtin "object.__class__") = some true)
      (hm : PySem.W.mroIn K C (.type "object") = some true) : TyOf K H (.ref a) (.ref C)
theorem isinst_ok {x : V} {u t : Value} (I : Inv X pins σ H s) (rx : RelV x u) (ty : TyOf X.K H x t) (e : PySem.W.kitOne X.K t c = some b) (h : ∀ tk, Q (.bool b) { s with toks := tk }) :
    wpAny (model X.prog X.w) A (call (.builtin "isinstance") [u, c]) Q E s := by
  cases ty with
  | non => cases (show u = Value.none from rx); exact PySem.W.kia_one PySem.W.kitx_none I.kIn True.intro e (fun z => nomatch z) h
  | bl y => cases (show u = Value.bool y from rx); exact PySem.W.kia_one PySem.W.kitx_bool I.kIn True.intro e (fun z => nomatch z) h
  | int i => obtain ⟨t, q⟩ := (show ∃ t, u = Value.int i t from rx); cases q; exact PySem.W.kia_one PySem.W.kitx_int I.kIn True.intro e (fun z => nomatch z) h
  | str y => obtain ⟨t, q⟩ := (show ∃ t, u = Value.str y t from rx); cases q; exact PySem.W.kia_one PySem.W.kitx_str I.kIn True.intro e (fun z => nomatch z) h
  | flt y => obtain ⟨t, q⟩ := (show ∃ t, u = Value.float y t from rx); cases q; exact PySem.W.kia_one PySem.W.kitx_float I.kIn True.intro e (fun z => nomatch z) h
  | @lst a xs ea =>
    cases (show u = Value.ref a from rx)
    obtain ⟨_, _, n, _, h1⟩ := (show ObjOk X.prog X.w H s.heap a (.lst xs) from I.hok a _ ea)
    exact PySem.W.kia_one PySem.W.kitx_list I.kIn ⟨_, h1, rfl⟩ e (fun z => nomatch z) h
  | @frz a ob xs ea =>
    cases (show u = Value.ref a from rx)
    obtain ⟨_, _, _, n, _, h1⟩ := (show ObjOk X.prog X.w H s.heap a (.frz ob (.lst xs)) from I.hok a _ ea)
    exact PySem.W.kia_one PySem.W.kitx_list I.kIn ⟨_, h1, rfl⟩ e (fun z => nomatch z) h
  | @tup a xs ea =>
    cases (show u = Value.ref a from rx)
    obtain ⟨_, _, _, p⟩ := (show ObjOk X.prog X.w H s.heap a (.tup xs) from I.hok a _ ea)
    obtain ⟨o, h1, h2, _⟩ := p
    exact PySem.W.kia_one PySem.W.kitx_tuple I.kIn ⟨o, h1, h2⟩ e (fun z => nomatch z) h
  | @dK a kvs ea =>
    cases (show u = Value.ref a from rx)
    obtain ⟨_, _, vs, _, p⟩ := (show ObjOk X.prog X.w H s.heap a (.dK kvs) from I.hok a _ ea)
    obtain ⟨o, es, ep, h1, h2, _⟩ := p
    exact PySem.W.kia_one PySem.W.kitx_dict I.kIn ⟨o, h1, h2.1⟩ e (fun z => nomatch z) h
  | @dT a kvs ea =>
    cases (show u = Value.ref a from rx)
    obtain ⟨_, _, xs, _, o, es, ep, h1, h2, _⟩ := (show ObjOk X.prog X.w H s.heap a (.dT kvs) from I.hok a _ ea)
    exact PySem.W.kia_one PySem.W.kitx_dict I.kIn ⟨o, h1, h2.1⟩ e (fun z => nomatch z) h
  | @ins a C dx fs ea cl ha hn htk hm =>
    cases (show u = Value.ref a from rx)
    obtain ⟨mA, O, _⟩ := ins_get I.hok ea
    obtain ⟨od, J, _⟩ := O.look
    exact PySem.W.kia_one (PySem.W.kitx_own (cl.get _) cl.hd ha hn htk hm) I.kIn J e (fun z => nomatch z) h
end
end L2
namespace L2
open PySem PySem.Spec PyProof.Rows
structure Room (k : Nat) (A : Around) : Prop where
  hd : A.handled = none
  dp : A.depth + 3 * k + 5 < recursionLimit
  un : A.units + 16 * k + 200 < cLine
theorem Room.mono {j k : Nat} {A : Around} (r : Room k A) (h : j ≤ k) : Room j A := ⟨r.hd, by have := r.dp; omega, by have := r.un; omega⟩
theorem Room.deeper {k : Nat} {A : Around} (r : Room (k + 1) A) (env : Env) : Room k (A.deeper env) :=
  ⟨r.hd, by have := r.dp; show A.depth + 1 + 3 * k + 5 < _; omega, by have := r.un; show A.units + 3 + 16 * k + 200 < _; omega⟩
theorem Room.in1 {k : Nat} {A : Around} (r : Room (k + 1) A) : Room k A.in1 :=
  ⟨r.hd, by have := r.dp; show A.depth + 3 * k + 5 < _; omega, by have := r.un; show A.units + 1 + 16 * k + 200 < _; omega⟩
theorem make_depth {A : Around} {C : Addr} {us : List Value} {kw : List (Str × Value)} : (A.under (.builtin "type.__call__" ⟨.ref C :: us, kw⟩)).depth = A.depth + 1 := by
  first | rfl | simp [Around.under, Code.weight, Code.isCreation, Code.isGuard, Code.isCaller, Code.frames, Code.isFrame, guardIds]
theorem make_units {A : Around} {C : Addr} {us : List Value} {kw : List (Str × Value)} : (A.under (.builtin "type.__call__" ⟨.ref C :: us, kw⟩)).units = A.units + 1 := by
  first | rfl | simp [Around.under, Code.cUnits, Code.frames, Code.isFrame]
theorem Room.make {k : Nat} {A : Around} (r : Room (k + 1) A) (C : Addr) (us : List Value) (kw : List (Str × Value)) : Room k (A.under (.builtin "type.__call__" ⟨.ref C :: us, kw⟩)) :=
  ⟨r.hd, by have := r.dp; rw [make_depth]; omega, by have := r.un; rw [make_units]; omega⟩
theorem Room.depth {k : Nat} {A : Around} (r : Room k A) : A.depth < recursionLimit := by have := r.dp; omega
theorem Room.units {k : Nat} {A : Around} (r : Room k A) : A.units + 64 < cLine := by have := r.un; omega
def tNil : TA := fun _ H Q => Q [] H
def tCons (ta : TE) (tr : TA) : TA := fun σ H Q => ta σ H fun x H1 => tr σ H1 fun xs H2 => Q (x :: xs) H2
section
variable {X : Cx} {e : Expr} {es : List Expr} {te : TE} {t : TA} {pos : Pos}
theorem pa_nil : PA X [] tNil := fun _ _ _ _ H Q I h => Calls.spliced_nil ⟨[], H, I, .nil, h⟩
theorem pa_cons (ha : PE X e te) (hr : PA X es t) (hs : starEach (e :: es) X.env = (false, eval e X.env) :: starEach es X.env := by rfl) : PA X (e :: es) (tCons te t) := by
  intro pos pins s σ H Q I h
  rw [hs]
  show wpAny _ _ (spliced ((false, eval e X.env) :: backTo pos (starEach es X.env))) _ _ s
  refine Calls.spliced_cons (thn (ha pins s σ H _ I h) fun u s1 ⟨x, H1, I1, r1, q1⟩ => ?_)
  exact thn (hr pos pins s1 σ H1 _ I1 q1) fun us s2 ⟨xs, H2, I2, r2, q2⟩ => ⟨x :: xs, H2, I2, .cons r1 r2, q2⟩
def tTup (t : TA) : TE := fun σ H Q => t σ H fun xs H1 => xs.length ≤ sizeLine ∧ ∀ p, H1 p = none → Q (.ref p) (upd H1 p (.tup xs))
def tLst (t : TA) : TE := fun σ H Q => t σ H fun xs H1 => xs.length ≤ sizeLine ∧ ∀ p, H1 p = none → Q (.ref p) (upd H1 p (.lst xs))
theorem pe_tup {x1} (h : PA X es t) : PE X (.Tuple es x1 pos) (tTup t) := by
  intro pins s σ H Q I hq
  refine wpAny_Tuple_spliced (thn (h pos pins s σ H _ I hq) fun us s1 ⟨xs, H1, I1, r, z, q⟩ => ⟨by rw [← r.length]; exact z, ?_⟩)
  have hf : H1 s1.heap.objs.size = none := I1.hok.fresh (Nat.le_refl _)
  refine ⟨.ref s1.heap.objs.size, upd H1 s1.heap.objs.size (.tup xs), I1.laid (t' := s1.toks) (fun b u e => Heap.get?_push_of_some _ e) (Nat.le_refl _) ?_, rfl, q _ hf⟩
  exact ⟨z, us, r, ⟨_, Heap.get?_push_size _ rfl, rfl, _, rfl⟩⟩
theorem pe_lst (h : PA X es t) : PE X (.List es pos) (tLst t) := by
  intro pins s σ H Q I hq
  refine wpAny_List_spliced (thn (h pos pins s σ H _ I hq) fun us s1 ⟨xs, H1, I1, r, z, q⟩ => ⟨by rw [← r.length]; exact z, ?_⟩)
  have hf : H1 s1.heap.objs.size = none := I1.hok.fresh (Nat.le_refl _)
  refine ⟨.ref s1.heap.objs.size, upd H1 s1.heap.objs.size (.lst xs), I1.laid (t' := s1.toks) (fun b u e => Heap.get?_push_of_some _ e) (Nat.le_refl _) ?_, rfl, q _ hf⟩
  exact ⟨z, us, 0, r, Heap.get?_push_size _ rfl⟩
end
abbrev Sp := List V → Hp → VK → XK → Prop
abbrev CXT := List Env → Hp → Shared → XK → Value → Shared → Prop
structure Env0 (P : Program) (w : World) (K : PySem.W.Frag) (mg : Str → Option Value) (base : Heap) (A : Around) (outer : List Env) (s : Shared) (H : Hp) : Prop where
  frames : A.frames = some outer
  mod : Mod K mg base
  bs : ∀ b o, base.get? b = some o → s.heap.get? b = some o ∧ H b = none
  bsz : base.objs.size ≤ s.heap.objs.size
  funs : s.heap.FunFrames base outer
  frf : ∀ b ∈ frs outer, H b = none
  hok : HOk P w H s.heap
  bare : AllBare s.gens
def CE (outer : List Env) (P : Program) (w : World) (H : Hp) (s : Shared) (Q : VK) (u : Value) (s' : Shared) : Prop :=
  ∃ v H', s'.os = s.os ∧ AllBare s'.gens ∧ Un (frs outer) [] H H' s.heap s'.heap ∧ HOk P w H' s'.heap ∧ RelV v u ∧ Q v H'
def CR (CX : CXT) (outer : List Env) (P : Program) (w : World) (H : Hp) (s : Shared) (Q : VK) (E : XK) (r : Result) (s' : Shared) : Prop :=
  match r with
  | .ok (.ret u) => CE outer P w H s Q u s'
  | .ok _ => False
  | .error e => CX outer H s E e s'
structure FnOk (P : Program) (w : World) (K : PySem.W.Frag) (mg : Str → Option Value) (base : Heap) (CX : CXT) (k : Nat) (f : Addr) (fd : FuncData) (ps : List Str) (sp : Sp) : Prop where
  len : ∀ vs H Q E, sp vs H Q E → vs.length = ps.length
  run : ∀ (A : Around) (outer : List Env) (s : Shared) (H : Hp) (args : Args) (us : List Value) (vs : List V) (Q : VK) (E : XK), Room k A → Env0 P w K mg base A outer s H → BindsTo s fd args (ps.zip us) → Vals vs us → sp vs H Q E →
    codeAny (model P w) A (.call (.ref f) args) (CR CX outer P w H s Q E) s
theorem FnOk.mono {P : Program} {w : World} {K : PySem.W.Frag} {mg : Str → Option Value} {base : Heap} {CX : CXT} {j k : Nat} {f : Addr} {fd : FuncData} {ps : List Str} {sp : Sp} (F : FnOk P w K mg base CX j f fd ps sp) (h : j ≤ k) :
    FnOk P w K mg base CX k f fd ps sp := ⟨F.len, fun A outer s H args us vs Q E hr => F.run A outer s H args us vs Q E (hr.mono h)⟩
theorem FnOk.imp {P : Program} {w : World} {K : PySem.W.Frag} {mg : Str → Option Value} {base : Heap} {CX : CXT} {k : Nat} {f : Addr} {fd : FuncData} {ps : List Str} {sp sp' : Sp} (F : FnOk P w K mg base CX k f fd ps sp)
    (h : ∀ vs H Q E, sp' vs H Q E → sp vs H Q E) : FnOk P w K mg base CX k f fd ps sp' :=
  ⟨fun vs H Q E q => F.len vs H Q E (h _ _ _ _ q), fun A outer s H args us vs Q E hr he hb hv hs => F.run A outer s H args us vs Q E hr he hb hv (h _ _ _ _ hs)⟩
theorem Env0.make {P : Program} {w : World} {K : PySem.W.Frag} {mg : Str → Option Value} {base : Heap} {A : Around} {outer : List Env} {s : Shared} {H : Hp} (e : Env0 P w K mg base A outer s H) (C : Addr) (us : List Value) (kw : List (Str × Value)) :
    Env0 P w K mg base (A.under (.builtin "type.__call__" ⟨.ref C :: us, kw⟩)) outer s H := ⟨by first | exact e.frames | (simpa [Around.under, Code.envs, Code.isFrame, pushEnvs] using e.frames), e.mod, e.bs, e.bsz, e.funs, e.frf, e.hok, e.bare⟩
theorem Env0.in1 {P : Program} {w : World} {K : PySem.W.Frag} {mg : Str → Option Value} {base : Heap} {A : Around} {outer : List Env} {s : Shared} {H : Hp} (e : Env0 P w K mg base A outer s H) :
    Env0 P w K mg base A.in1 outer s H := ⟨e.frames, e.mod, e.bs, e.bsz, e.funs, e.frf, e.hok, e.bare⟩
section
variable {X : Cx} {pins : List (Addr × Obj)} {σ : St} {H : Hp} {s s' : Shared}
theorem Inv.env0 (I : Inv X pins σ H s) : Env0 X.prog X.w X.K X.mg X.base X.A X.stack s H :=
  ⟨I.ok.frames, I.ok.mod, I.bs, Nat.le_trans I.ok.bsz I.sz, I.stack, I.stkFree, I.hok, I.bare⟩
theorem Inv.after {Q : VK} {u : Value} (I : Inv X pins σ H s) (h : CE X.stack X.prog X.w H s Q u s') : EP X pins σ Q u s' := by
  obtain ⟨v, H', os, bare, un, hok, r, q⟩ := h
  obtain ⟨hh, g, d, t, os'⟩ := s'
  obtain rfl : os' = s.os := os
  exact ⟨v, H', I.call (h' := hh) (g' := g) (d' := d) (t' := t) (ch := []) un hok bare (fun b z => absurd z (by simp)), r, q⟩
end
def tCall (sp : Sp) (dvs : List V) (E : XK) (t : TA) : TE := fun σ H Q => t σ H fun vs H1 => sp (vs ++ dvs) H1 Q E
def tMeth (C : Addr) (m : Str) (sp : Sp) (dvs : List V) (E : XK) (ta : TE) (t : TA) : TE := fun σ H Q => ta σ H fun x H1 => ∃ a dx fs, x = .ref a ∧ H1 a = some (.ins C dx fs) ∧ fs.lookup m = none ∧
  t σ H1 fun vs H2 => sp (x :: (vs ++ dvs)) H2 Q E
def tMake (C : Addr) (sp : Sp) (dvs : List V) (E : XK) (t : TA) : TE := fun σ H Q => t σ H fun vs H1 => ∀ x dx, H1 x = none → H1 dx = none → dx ≠ x →
  sp (.ref x :: (vs ++ dvs)) (upd (upd H1 dx (.own x)) x (.ins C dx [])) (fun v H2 => v = .non ∧ Q (.ref x) H2) E
def Binds (K : PySem.W.Frag) (fd : FuncData) (ps : List Str) (ds : List Value) : Prop :=
  ∀ (s : Shared) (us : List Value), K.In s.heap → (us ++ ds).length = ps.length → BindsTo s fd ⟨us, []⟩ (ps.zip (us ++ ds))
theorem Binds.all {K : PySem.W.Frag} {fd : FuncData} {ps : List Str} (h : ∀ us : List Value, us.length = ps.length → bindArgs fd ⟨us, []⟩ = pure (ps.zip us)) : Binds K fd ps [] := fun s us _ hl => by
  rw [List.append_nil] at hl ⊢
  exact .of_eq (h us hl)
def Passes (CX : CXT) (X : Cx) (E : XK) : Prop := ∀ (pins : List (Addr × Obj)) (σ : St) (H : Hp) (s : Shared) (e : Value) (s' : Shared), Inv X pins σ H s → CX X.stack H s E e s' → X.xe e s'
section
variable {X : Cx} {CX : CXT} {k : Nat} {f C : Addr} {fd : FuncData} {ps : List Str} {sp : Sp} {dvs : List V} {ds : List Value} {E : XK} {x m : Str} {p pos apos : Pos} {e o : Expr} {es : List Expr} {ta : TE} {t : TA}
theorem run_fn {pins : List (Addr × Obj)} {σ : St} {H : Hp} {s : Shared} {Q : VK} {us : List Value} {vs : List V} (F : FnOk X.prog X.w X.K X.mg X.base CX k f fd ps sp) (hr : Room k X.A) (hb : Binds X.K fd ps ds) (hd : Vals dvs ds) (hx : Passes CX X E)
    (I : Inv X pins σ H s) (r : Vals vs us) (h : sp (vs ++ dvs) H Q E) : wpAny (model X.prog X.w) X.A (call (.ref f) us) (EP X pins σ Q) X.xe s := by
  have r2 : Vals (vs ++ dvs) (us ++ ds) := r.append hd
  have hl : (us ++ ds).length = ps.length := by rw [← r2.length]; exact F.len _ _ _ _ h
  refine wpAny_call (codeAny_mono (F.run X.A X.stack s H ⟨us, []⟩ (us ++ ds) (vs ++ dvs) Q E hr I.env0 (hb s us I.kIn hl) r2 h) fun r s' hq => ?_)
  cases r with
  | error e => exact hx pins σ H s e s' I hq
  | ok fl =>
    cases fl with
    | ret u => exact I.after hq
    | next => exact False.elim hq
    | brk => exact False.elim hq
    | cont => exact False.elim hq
theorem pe_call (F : FnOk X.prog X.w X.K X.mg X.base CX k f fd ps sp) (hr : Room k X.A) (hg : Gl X x) (hm : X.mg x = some (.ref f)) (hk : PySem.W.keepIn X.K (.ref f) = true) (hb : Binds X.K fd ps ds) (hd : Vals dvs ds) (hx : Passes CX X E)
    (ha : PA X (e :: es) t) (hdb : (x == ("__debug__" : Str)) = false := by decide) (he : starEach (e :: es) X.env = (false, eval e X.env) :: starEach es X.env := by rfl) (hpl : (backTo pos (starEach es X.env)).any (·.1) = false := by rfl) :
    PE X (.Call (.Name x p) (e :: es) [] pos) (tCall sp dvs E t) := by
  intro pins s σ H Q I h
  refine wpAny_Call_Name_kw (ld_glob I hg hm ?_ hdb)
  refine PySem.W.callWith_K (h₀ := X.base) I.ok.mod.kin hk (thn (ha pos pins s σ H _ I h) fun us s1 ⟨vs, H1, I1, r, q⟩ => ⟨I1.kIn, ?_⟩) he hpl
  exact run_fn F hr hb hd hx I1 r q
theorem pe_meth {pl : Sem Bool} (he : PE X o ta) (c : Cls X.K C) (hm : Meth X.K C m f) (F : FnOk X.prog X.w X.K X.mg X.base CX k f fd ps sp) (hr : Room k X.A) (hb : Binds X.K fd ps ds) (hd : Vals dvs ds) (hx : Passes CX X E) (ha : PA X (e :: es) t)
    (hst : starEach (e :: es) X.env = (false, eval e X.env) :: starEach es X.env := by rfl) (hpl : (backTo pos (starEach es X.env)).any (·.1) = false := by rfl)
    (ht : eval (.Call (.Attribute o m apos) (e :: es) [] pos) X.env = (do
      let ov ← eval o X.env
      standAt apos.atName
      let (f, first) ← holding [ov] (getMethod ov m pl)
      callWith pos f first (backTo pos (starEach (e :: es) X.env)) (backToKw pos (keywordEach [] X.env))) := by rfl) :
    PE X (.Call (.Attribute o m apos) (e :: es) [] pos) (tMeth C m sp dvs E ta t) := by
  intro pins s σ H Q I h
  refine PySem.W.methodCall_KW (pl := pl) (thn (he pins s σ H _ I h) fun u s1 ⟨x, H1, I1, rx, a, dx, fs, ex, ea, l, q⟩ => ?_) ht
  subst ex
  obtain rfl : u = Value.ref a := rx
  refine getmeth_ok I1 ea c hm l ?_
  refine PySem.W.callWith_K (first := [.ref a]) (h₀ := X.base) I.ok.mod.kin hm.kp (thn (ha pos pins s1 σ H1 _ I1 q) fun us s2 ⟨vs, H2, I2, r, q2⟩ => ⟨I2.kIn, ?_⟩) hst hpl
  exact run_fn (us := .ref a :: us) (vs := .ref a :: vs) F hr hb hd hx I2 (.cons rfl r) q2
theorem pe_meth0 {pl : Sem Bool} (he : PE X o ta) (c : Cls X.K C) (hm : Meth X.K C m f) (F : FnOk X.prog X.w X.K X.mg X.base CX k f fd ps sp) (hr : Room k X.A) (hb : Binds X.K fd ps ds) (hd : Vals dvs ds) (hx : Passes CX X E)
    (ht : eval (.Call (.Attribute o m apos) [] [] pos) X.env = (do
      let ov ← eval o X.env
      standAt apos.atName
      let (f, first) ← holding [ov] (getMethod ov m pl)
      callWith pos f first (backTo pos (starEach [] X.env)) (backToKw pos (keywordEach [] X.env))) := by rfl) :
    PE X (.Call (.Attribute o m apos) [] [] pos) (tMeth C m sp dvs E ta tNil) := by
  intro pins s σ H Q I h
  refine PySem.W.methodCall_KW (pl := pl) (thn (he pins s σ H _ I h) fun u s1 ⟨x, H1, I1, rx, a, dx, fs, ex, ea, l, q⟩ => ?_) ht
  subst ex
  obtain rfl : u = Value.ref a := rx
  refine getmeth_ok I1 ea c hm l ?_
  exact PySem.W.callWith_K0 (first := [.ref a]) I1.kIn hm.kp (run_fn (us := [.ref a]) (vs := [.ref a]) F hr hb hd hx I1 (.cons rfl .nil) q)
structure Mk (K : PySem.W.Frag) (C f : Addr) : Prop where
  makes : PySem.W.makesIn K C = true
  init : PySem.W.findIn K (.ref C) "__init__" = some (some (.ref f))
  fn : PySem.W.isFn K (.ref f) = true
  kp : PySem.W.keepIn K (.ref C) = true
theorem run_make {pins : List (Addr × Obj)} {σ : St} {H : Hp} {s : Shared} {Q : VK} {us : List Value} {vs : List V} (M : Mk X.K C f) (F : FnOk X.prog X.w X.K X.mg X.base CX k f fd ps sp) (hr : Room (k + 1) X.A) (hb : Binds X.K fd ps ds) (hd : Vals dvs ds)
    (hx : Passes CX X E) (I : Inv X pins σ H s) (r : Vals vs us)
    (h : ∀ x dx, H x = none → H dx = none → dx ≠ x → sp (.ref x :: (vs ++ dvs)) (upd (upd H dx (.own x)) x (.ins C dx [])) (fun v H2 => v = .non ∧ Q (.ref x) H2) E) :
    wpAny (model X.prog X.w) X.A (call (.ref C) us) (EP X pins σ Q) X.xe s := by
  have hq := h (s.heap.objs.size + 1) s.heap.objs.size (I.hok.fresh (Nat.le_succ _)) (I.hok.fresh (Nat.le_refl _)) (Nat.ne_of_lt (Nat.lt_succ_self _))
  have I2 := Inv.made (C := C) I
  have r2 : Vals (V.ref (s.heap.objs.size + 1) :: (vs ++ dvs)) (Value.ref (s.heap.objs.size + 1) :: (us ++ ds)) := .cons rfl (r.append hd)
  have hl : (Value.ref (s.heap.objs.size + 1) :: us ++ ds).length = ps.length := by
    have e := r2.length
    rw [F.len _ _ _ _ hq] at e
    exact e.symm
  refine wpAny_call (make_map (f := f) I.kIn M.makes M.init (beq_iff_eq.mp M.fn) (codeAny_mono (F.run _ X.stack _ _ ⟨Value.ref (s.heap.objs.size + 1) :: us, []⟩ (Value.ref (s.heap.objs.size + 1) :: (us ++ ds)) _ _ E (hr.make C us [])
    (I2.env0.make C us []) (hb _ (Value.ref (s.heap.objs.size + 1) :: us) I2.kIn hl) r2 hq) fun r s' hq' => ?_))
  cases r with
  | error e => exact hx pins σ _ _ e s' I2 hq'
  | ok fl =>
    cases fl with
    | ret u =>
      obtain ⟨v, H', I3, rv, ev, q3⟩ := I2.after hq'
      subst ev
      exact ⟨rv, ⟨V.ref (s.heap.objs.size + 1), H', I3, rfl, q3⟩⟩
    | next => exact False.elim hq'
    | brk => exact False.elim hq'
    | cont => exact False.elim hq'
theorem pe_make0 (M : Mk X.K C f) (F : FnOk X.prog X.w X.K X.mg X.base CX k f fd ps sp) (hr : Room (k + 1) X.A) (hg : Gl X x) (hm : X.mg x = some (.ref C)) (hb : Binds X.K fd ps ds) (hd : Vals dvs ds) (hx : Passes CX X E)
    (hdb : (x == ("__debug__" : Str)) = false := by decide) : PE X (.Call (.Name x p) [] [] pos) (tMake C sp dvs E tNil) := by
  intro pins s σ H Q I h
  refine wpAny_Call_Name_kw (ld_glob I hg hm ?_ hdb)
  exact PySem.W.callWith_K0 I.kIn M.kp (run_make (us := []) M F hr hb hd hx I .nil h)
end
def PK (X : Cx) (kws : List Keyword) (t : TA) : Prop :=
  ∀ (pos : Pos) (pins : List (Addr × Obj)) (s : Shared) (σ : St) (H : Hp) (Q : List V → Hp → Prop), Inv X pins σ H s → t σ H Q → wpAny (model X.prog X.w) X.A (evalAll ((backToKw pos (keywordEach kws X.env)).map (·.2))) (AP X pins σ Q) X.xe s
section
variable {X : Cx} {CX : CXT} {k : Nat} {f C : Addr} {fd : FuncData} {ps ks : List Str} {sp : Sp} {E : XK} {x m : Str} {p pos apos kpos : Pos} {e o : Expr} {es : List Expr} {kws : List Keyword} {te ta : TE} {t tk : TA} {nm : Option Str}
structure KBinds (K : PySem.W.Frag) (fd : FuncData) (ps ks : List Str) (g : List Value → List Value → List Value) (gV : List V → List V → List V) : Prop where
  to : ∀ (s : Shared) (us ws : List Value), K.In s.heap → (g us ws).length = ps.length → BindsTo s fd ⟨us, ks.zip ws⟩ (ps.zip (g us ws))
  rel : ∀ {vs : List V} {us : List Value} {zs : List V} {ws : List Value}, Vals vs us → Vals zs ws → Vals (gV vs zs) (g us ws)
def tCallK (sp : Sp) (gV : List V → List V → List V) (E : XK) (t tk : TA) : TE := fun σ H Q => t σ H fun vs H1 => tk σ H1 fun zs H2 => sp (gV vs zs) H2 Q E
variable {g : List Value → List Value → List Value} {gV : List V → List V → List V}
end
structure FnScope (N P : List Str) (sc : Scope) : Prop where
  kind : sc.kind = .function
  co : sc.isCoroutine = false
  gen : sc.isGenerator = false
  nd : N.Nodup
  pre : N.take P.length = P
  par : ∀ x ∈ P, sc.names.lookup x = some .local ∨ sc.names.lookup x = some .cell
  nofree : ∀ y ∈ sc.names, y.2 ≠ .free
theorem bindL_out {kindOf : Str → Option NameKind} {x : Str} : ∀ {binds : List (Str × Value)} {m : Str → Option Value}, (∀ v, (x, v) ∉ binds) → bindL kindOf binds m x = m x
  | [], _, _ => rfl
  | (n, v) :: r, m, h => by
    unfold bindL
    rw [bindL_out fun w hw => h w (List.mem_cons_of_mem _ hw)]
    split
    · have : x ≠ n := by rintro rfl; exact h v List.mem_cons_self
      simp [this]
    · rfl
theorem bindC_out {kindOf : Str → Option NameKind} {x : Str} : ∀ {binds : List (Str × Value)} {m : Str → Option Value}, (∀ v, (x, v) ∉ binds) → bindC kindOf binds m x = m x
  | [], _, _ => rfl
  | (n, v) :: r, m, h => by
    unfold bindC
    rw [bindC_out fun w hw => h w (List.mem_cons_of_mem _ hw)]
    split
    · rfl
    · have : x ≠ n := by rintro rfl; exact h v List.mem_cons_self
      simp [this]
theorem bindL_get {kindOf : Str → Option NameKind} {x : Str} {v : Value} : ∀ {P : List Str} {vs : List Value} {i : Nat} {m : Str → Option Value}, P.Nodup → P[i]? = some x → vs[i]? = some v → kindOf x = some .local →
    bindL kindOf (P.zip vs) m x = some v
  | [], _, _, _, _, h, _, _ => by simp at h
  | _ :: _, [], _, _, _, _, h, _ => by simp at h
  | p :: P, w :: vs, 0, m, nd, h1, h2, hk => by
    simp at h1 h2; subst h1; subst h2
    show bindL kindOf ((p, w) :: P.zip vs) m p = _
    unfold bindL
    rw [bindL_out fun v hv => (List.nodup_cons.mp nd).1 (List.of_mem_zip hv).1, if_pos hk]
    simp
  | p :: P, w :: vs, i + 1, m, nd, h1, h2, hk => by
    show bindL kindOf ((p, w) :: P.zip vs) m x = _
    unfold bindL
    exact bindL_get (i := i) (List.nodup_cons.mp nd).2 (by simpa using h1) (by simpa using h2) hk
theorem bindC_get {kindOf : Str → Option NameKind} {x : Str} {v : Value} : ∀ {P : List Str} {vs : List Value} {i : Nat} {m : Str → Option Value}, P.Nodup → P[i]? = some x → vs[i]? = some v → kindOf x ≠ some .local →
    bindC kindOf (P.zip vs) m x = some v
  | [], _, _, _, _, h, _, _ => by simp at h
  | _ :: _, [], _, _, _, _, h, _ => by simp at h
  | p :: P, w :: vs, 0, m, nd, h1, h2, hk => by
    simp at h1 h2; subst h1; subst h2
    show bindC kindOf ((p, w) :: P.zip vs) m p = _
    unfold bindC
    rw [bindC_out fun v hv => (List.nodup_cons.mp nd).1 (List.of_mem_zip hv).1, if_neg hk]
    simp
  | p :: P, w :: vs, i + 1, m, nd, h1, h2, hk => by
    show bindC kindOf ((p, w) :: P.zip vs) m x = _
    unfold bindC
    exact bindC_get (i := i) (List.nodup_cons.mp nd).2 (by simpa using h1) (by simpa using h2) hk
def start (N : List Str) (vs : List V) : St := vs.map some ++ List.replicate (N.length - vs.length) none
def cxOf (CX : CXT) (P : Program) (w : World) (K : PySem.W.Frag) (mg : Str → Option Value) (base : Heap) (N : List Str) (qual : Str) (scope : Scope) (f : Addr) (cd : Value) (A : Around) (outer : List Env) (s : Shared) (H : Hp) (E : XK) : Cx where
  prog := P
  w := w
  K := K
  mg := mg
  base := base
  A := A.deeper (envOfC qual scope s.heap.objs.size f cd)
  N := N
  s₀ := s
  H₀ := H
  env := envOfC qual scope s.heap.objs.size f cd
  outer := outer
  stack := envOfC qual scope s.heap.objs.size f cd :: outer
  ex := []
  calm := true
  fn := fun _ => true
  pn := []
  xe := fun e s' => wpAny (model P w) (A.deeper (envOfC qual scope s.heap.objs.size f cd)) (leaving (envOfC qual scope s.heap.objs.size f cd) e) (fun _ s'' => CX outer H s E e s'') (fun e' s'' => CX outer H s E e' s'') s'
theorem cell_has {sc : Scope} {n : Nat} {x : Str} (h : sc.names.lookup x = some .cell) : ∃ c, (cellsFrom n sc.names []).lookup x = some c := by
  have q := PySem.W.cellsFrom_some sc.names n [] (.inl h)
  exact Option.isSome_iff_exists.mp q
theorem inv_start {CX : CXT} {P : Program} {w : World} {K : PySem.W.Frag} {mg : Str → Option Value} {base : Heap} {N ps : List Str} {qual : Str} {scope : Scope} {f : Addr} {cd : Value} {A : Around} {outer : List Env} {s s1 : Shared} {H : Hp} {E : XK} {us : List Value} {vs : List V}
    (S : FnScope N ps scope) (hd : A.handled = none) (e0 : Env0 P w K mg base A outer s H) (hl : vs.length = ps.length) (r : Vals vs us)
    (x : InCallC s s.heap.objs.size (bindL (envOfC qual scope s.heap.objs.size f cd).kindOf (ps.zip us) fun _ => none) (cellsFrom (s.heap.objs.size + 1) scope.names []) (bindC (envOfC qual scope s.heap.objs.size f cd).kindOf (ps.zip us) fun _ => none) s1) :
    Inv (cxOf CX P w K mg base N qual scope f cd A outer s H E) [] (start N vs) H s1 := by
  have hpl : ps.length ≤ N.length := by have := congrArg List.length S.pre; rw [List.length_take] at this; omega
  obtain ⟨h1, tk, rfl, hk⟩ := x.done
  have noA : ∀ b : Addr, b ∉ (cxOf CX P w K mg base N qual scope f cd A outer s H E).ex := fun b z => absurd (show b ∈ ([] : List Addr) from z) (by simp)
  refine ⟨⟨e0.mod, S.kind, rfl, rfl, Nat.le_refl _, fun y z c h1 h2 => ?_, fun y hy => ?_, fun y c _ h => ?_, fun _ => hd, Around.frames_deeper e0.frames, .inr ⟨rfl, rfl⟩, fun b z => absurd z (noA b), e0.bs, e0.bsz, fun b _ _ => noA b, fun b z => absurd z (noA b), e0.funs, e0.frf⟩,
    rfl, e0.bare, Un.kept hk, ⟨_, x.toInCall.ns, fun i y v h1 h2 h3 => ?_⟩, fun y c h => ⟨_, x.cell y c h⟩, e0.hok.fresh (Nat.le_refl _), fun y c h => ?_, fun p hp => absurd (show p ∈ ([] : List (Addr × Obj)) from hp) (by simp), e0.hok.kept hk, ?_⟩
  · exact name_of_addr x.apart (PySem.mem_of_lookup h1) (PySem.mem_of_lookup h2)
  · have hy : scope.names.lookup y = some .cell ∨ scope.names.lookup y = some .free := hy
    rcases hy with hy | hy
    · exact cell_has hy
    · exact absurd rfl (S.nofree _ (PySem.mem_of_lookup hy))
  · exact Nat.le_of_lt (x.above y c (PySem.mem_of_lookup h))
  · have hi : i < vs.length := by
      unfold start at h2
      by_cases hi : i < vs.length
      · exact hi
      · rw [List.getElem?_append_right (by simpa using hi)] at h2
        rw [List.getElem?_replicate] at h2
        split at h2 <;> cases h2
    have ha : vs[i]? = some v := by
      unfold start at h2
      rw [List.getElem?_append_left (by simpa using hi), List.getElem?_map] at h2
      cases e : vs[i]? with
      | none => rw [e] at h2; cases h2
      | some a => rw [e] at h2; cases h2; rfl
    obtain ⟨u, hu, rv⟩ := r.get ha
    have hp : ps[i]? = some y := by
      rw [← S.pre, List.getElem?_take_of_lt (by omega)]; exact h1
    have ndP : ps.Nodup := by rw [← S.pre]; exact S.nd.sublist (List.take_sublist _ _)
    refine ⟨u, rv, ?_⟩
    rcases S.par y (List.mem_of_getElem? hp) with k | k
    · exact .inl ⟨k, bindL_get ndP hp hu k⟩
    · obtain ⟨c, e⟩ := cell_has (n := s.heap.objs.size + 1) k
      refine .inr ⟨.inl k, c, e, ?_⟩
      have q := x.cell y c e
      rw [bindC_get ndP hp hu (by show scope.names.lookup y ≠ _; rw [k]; decide)] at q
      exact q
  · exact e0.hok.fresh (Nat.le_of_lt (x.above y c (PySem.mem_of_lookup h)))
  · unfold start
    show _ = N.length
    rw [List.length_append, List.length_map, List.length_replicate]
    omega
theorem fn_of {CX : CXT} {P : Program} {w : World} {K : PySem.W.Frag} {mg : Str → Option Value} {base : Heap} {k : Nat} {f : Addr} {name qual : Str} {params : Arguments} {body : List Stmt} {scope : Scope} {dV kV doc pm cdv ct oc : Value} {an od : Option Addr}
    {osl : Array (Option Value)} {N ps : List Str} {sp : Sp} (lk : K.lookup f = some ⟨oc, od, .func (PySem.W.fnOf name qual params body scope dV kV doc pm an cdv ct), osl⟩) (hcd : PySem.W.codeIn K cdv qual = true) (S : FnScope N ps scope)
    (len : ∀ vs H Q E, sp vs H Q E → vs.length = ps.length)
    (hbody : ∀ (A : Around) (outer : List Env) (s : Shared) (H : Hp) (vs : List V) (Q : VK) (E : XK), Room k (A.deeper (envOfC qual scope s.heap.objs.size f cdv)) → sp vs H Q E →
      ∃ t, PSs (cxOf CX P w K mg base N qual scope f cdv A outer s H E) body t ∧ t { nx := fun _ H' => Q .non H', rt := Q } (start N vs) H) :
    FnOk P w K mg base CX (k + 1) f (PySem.W.fnOf name qual params body scope dV kV doc pm an cdv ct) ps sp := by
  refine ⟨len, fun A outer s H args us vs Q E hr e0 hb r hsp => ?_⟩
  have hl := len _ _ _ _ hsp
  have KX : K.In s.heap := e0.mod.kin.keeps fun b o e => (e0.bs b o e).1
  have lim : s.heap.NoLimit := e0.mod.nolimit.keeps fun b o e => (e0.bs b o e).1
  have hkind : ∀ y ∈ ps.zip us, scope.names.lookup y.1 = some .local ∨ (scope.names.lookup y.1 = some .cell ∧ ((cellsFrom (s.heap.objs.size + 1) scope.names []).lookup y.1).isSome = true) := fun ⟨n, v⟩ hy => by
    rcases S.par n (List.of_mem_zip hy).1 with q | q
    · exact .inl q
    · exact .inr ⟨q, PySem.W.cellsFrom_some _ _ _ (.inl q)⟩
  refine codeAny_call_function hr.depth (KX _ _ lk) rfl S.co S.gen rfl (PySem.W.codeRec_of KX hcd) (hb _ _ _ _ ?_)
  refine wpAny_newFunctionEnv_cells S.kind hkind fun env he s1 x => ?_
  subst he
  refine ⟨lim.keeps x.toInCall.keep, codeAny_func ?_⟩
  obtain ⟨t, ht, hq⟩ := hbody A outer s H vs Q E (hr.deeper _) hsp
  have I : Inv (cxOf CX P w K mg base N qual scope f cdv A outer s H E) [] (start N vs) H s1 := inv_start S hr.hd e0 hl r x
  refine wpAny_mono (ht [] s1 (start N vs) H _ I hq) (fun fl s' hs => ?_) fun e s' hs => hs
  have fin : ∀ {σ' : St} {H' : Hp} {v : V} {u : Value}, Inv (cxOf CX P w K mg base N qual scope f cdv A outer s H E) [] σ' H' s' → RelV v u → Q v H' → CE outer P w H s Q u s' :=
    fun {σ' H' v u} J rv q => ⟨v, H', J.os, J.bare, J.base, J.hok, rv, q⟩
  cases fl with
  | ret u =>
    obtain ⟨v, σ', H', J, rv, q⟩ := hs
    exact fin J rv q
  | next =>
    obtain ⟨σ', H', J, q⟩ := hs
    exact fin (v := V.non) (u := Value.none) J rfl q
  | brk =>
    obtain ⟨_, _, _, q⟩ := hs
    exact False.elim q
  | cont =>
    obtain ⟨_, _, _, q⟩ := hs
    exact False.elim q
end L2
namespace L2
open PySem PySem.Spec PyProof.Rows
section
variable {X : Cx} {x : Str} {p pos : Pos} {e : Expr} {es : List Expr} {t : TA} {id T : String} {r : List V → Hp → VK → Prop}
def tCB (r : List V → Hp → VK → Prop) (t : TA) : TE := fun σ H Q => t σ H fun vs H1 => r vs H1 Q
theorem pe_callB (hc : CallR X (.builtin id) r) (hg : Gl X x) (hm : X.mg x = none) (hv : bootBuiltins x = some (.builtin id)) (ha : PA X (e :: es) t) (hn : x ≠ "__name__" := by decide) (hdb : (x == ("__debug__" : Str)) = false := by decide)
    (he : starEach (e :: es) X.env = (false, eval e X.env) :: starEach es X.env := by rfl) (hpl : (backTo pos (starEach es X.env)).any (·.1) = false := by rfl) : PE X (.Call (.Name x p) (e :: es) [] pos) (tCB r t) := by
  intro pins s σ H Q I h
  refine wpAny_Call_Name_kw (ld_blt I hg hm hv ?_ hn hdb)
  exact PyProof.Rows.callWith_builtin1 (thn (ha pos pins s σ H _ I h) fun us s1 ⟨vs, H1, I1, r1, q1⟩ => hc pins s1 σ H1 vs us Q I1 r1 q1) he hpl
theorem pe_callTy (hc : CallR X (.type T) r) (hg : Gl X x) (hm : X.mg x = none) (hv : bootBuiltins x = some (.type T)) (ha : PA X (e :: es) t) (hn : x ≠ "__name__" := by decide) (hdb : (x == ("__debug__" : Str)) = false := by decide)
    (he : starEach (e :: es) X.env = (false, eval e X.env) :: starEach es X.env := by rfl) (hpl : (backTo pos (starEach es X.env)).any (·.1) = false := by rfl) : PE X (.Call (.Name x p) (e :: es) [] pos) (tCB r t) := by
  intro pins s σ H Q I h
  refine wpAny_Call_Name_kw (ld_blt I hg hm hv ?_ hn hdb)
  exact PyProof.Rows.callWith_type1 (thn (ha pos pins s σ H _ I h) fun us s1 ⟨vs, H1, I1, r1, q1⟩ => hc pins s1 σ H1 vs us Q I1 r1 q1) he hpl
end
end L2
namespace HT
open PySem PyProof.Rows
def lexLt : List Int → List Int → Bool
  | [], [] => false
  | [], _ :: _ => true
  | _ :: _, [] => false
  | x :: xs, y :: ys => if x = y then lexLt xs ys else decide (x < y)
section
open PySem.SeqAt
open PySem.AutoSeq1 (wpAny_loadPart')
open PySem.MeetsSeq PySem.MeetsSeq2 PySem.MeetsSeq3
end
section
variable {prog : Program} {w : World} {A : Around} {E : Value → Shared → Prop} {s : Shared}
def sIx (n d : Nat) : Option Int → Nat
  | none => d
  | some v => if v < 0 then (v + (n : Int)).toNat else min v.toNat n
theorem sIx_none (n d : Nat) : sIx n d none = d := rfl
theorem sIx_nat (n d k : Nat) : sIx n d (some (k : Int)) = min k n := by
  show (if (k : Int) < 0 then ((k : Int) + (n : Int)).toNat else min (k : Int).toNat n) = min k n
  rw [if_neg (by omega), Int.toNat_natCast]
end
end HT
namespace L2
open PySem PySem.Spec PyProof.Rows
abbrev TO := St → Hp → (Option Int → Hp → Prop) → Prop
def PO (X : Cx) (e : Option Expr) (t : TO) : Prop :=
  ∀ (pins : List (Addr × Obj)) (s : Shared) (σ : St) (H : Hp) (Q : Option Int → Hp → Prop), Inv X pins σ H s → t σ H Q →
    wpAny (model X.prog X.w) X.A (evalPart e X.env) (fun u s' => ∃ o H', Inv X pins σ H' s' ∧ IsPart u o ∧ Q o H') X.xe s
def tNoPart : TO := fun _ H Q => Q none H
def tPart (t : TE) : TO := fun σ H Q => t σ H fun x H1 => ∃ i, x = .int i ∧ Q (some i) H1
section
variable {X : Cx} {e : Expr} {te : TE} {lo hi : Option Expr} {tl th : TO} {pos p2 : Pos}
theorem po_none : PO X none tNoPart := by
  intro pins s σ H Q I h
  rw [evalPart_none]
  exact wpAny_pure ⟨none, H, I, .none, h⟩
theorem po_some (h : PE X e te) : PO X (some e) (tPart te) := by
  intro pins s σ H Q I hw
  rw [evalPart_some]
  refine thn (h pins s σ H _ I hw) fun u s1 ⟨x, H1, I1, r1, q1⟩ => ?_
  obtain ⟨i, rfl, q⟩ := q1
  obtain ⟨t, rfl⟩ := r1
  exact ⟨some i, H1, I1, .int i t, q⟩
def SlR (X : Cx) (r : V → Option Int → Option Int → Hp → VK → Prop) : Prop :=
  ∀ (pins : List (Addr × Obj)) (s : Shared) (σ : St) (H : Hp) (x : V) (v vl vu : Value) (lo hi : Option Int) (sl : Addr) (Q : VK), Inv X pins σ H s → RelV x v → s.heap.IsSliceOf sl vl vu .none → IsPart vl lo → IsPart vu hi → r x lo hi H Q →
    ∃ T id, typeLookup (.type T) "__getitem__" = pure (some (.builtin id)) ∧ s.TypeIs v T ∧ wpAny (model X.prog X.w) X.A (getItem v (.ref sl)) (EP X pins σ Q) X.xe s
theorem SlR.or {r r' : V → Option Int → Option Int → Hp → VK → Prop} (h : SlR X r) (h' : SlR X r') : SlR X (fun x lo hi H Q => r x lo hi H Q ∨ r' x lo hi H Q) := by
  intro pins s σ H x v vl vu lo hi sl Q I rx hs pl pu q
  rcases q with q | q
  · exact h pins s σ H x v vl vu lo hi sl Q I rx hs pl pu q
  · exact h' pins s σ H x v vl vu lo hi sl Q I rx hs pl pu q
def tSl (r : V → Option Int → Option Int → Hp → VK → Prop) (te : TE) (tl th : TO) : TE := fun σ H Q => te σ H fun x H1 => tl σ H1 fun l H2 => th σ H2 fun u H3 => r x l u H3 Q
theorem pe_slice {r : V → Option Int → Option Int → Hp → VK → Prop} (hr : SlR X r) (he : PE X e te) (hl : PO X lo tl) (hu : PO X hi th) : PE X (.Subscript e (.Slice lo hi none p2) pos) (tSl r te tl th) := by
  intro pins s σ H Q I h
  refine Subscript_ (thn (he pins s σ H _ I h) fun v s1 ⟨x, H1, I1, r1, q1⟩ => ?_)
  refine wpAny_Slice (thn (hl pins s1 σ H1 _ I1 q1) fun vl s2 ⟨l, H2, I2, pl, q2⟩ => thn (hu pins s2 σ H2 _ I2 q2) fun vu s3 ⟨u, H3, I3, pu, q3⟩ => ?_)
  rw [evalPart_none]
  refine wpAny_pure ?_
  have I4 : Inv X pins σ H3 { s3 with heap := s3.heap.push { cls := .type "slice", data := .fields #[vl, vu, .none] } } := I3.kept (t' := s3.toks) fun b ob q => Heap.get?_push_of_some _ q
  obtain ⟨T, id, hT, ht, hg⟩ := hr pins { s3 with heap := s3.heap.push { cls := .type "slice", data := .fields #[vl, vu, .none] } } σ H3 x v vl vu l u s3.heap.objs.size Q I4 r1 (Heap.IsSliceOf.new ..) pl pu q3
  show wpAny (model X.prog X.w) X.A (subscriptTail e (.Slice lo hi none p2) v (.ref s3.heap.objs.size)) (EP X pins σ Q) X.xe { s3 with heap := s3.heap.push { cls := .type "slice", data := .fields #[vl, vu, .none] } }
  exact tail_any (ops := [.ref s3.heap.objs.size, v]) ht hT hg (by with_unfolding_all rfl)
def cutV (xs : List V) (lo hi : Option Int) : List V := (xs.drop (HT.sIx xs.length 0 lo)).take (HT.sIx xs.length xs.length hi - HT.sIx xs.length 0 lo)
theorem cutV_length (xs : List V) (lo hi : Option Int) : (cutV xs lo hi).length ≤ xs.length := by
  unfold cutV
  rw [List.length_take, List.length_drop]
  omega
def rSlT (K : PySem.W.Frag) : V → Option Int → Option Int → Hp → VK → Prop := fun x lo hi H Q => ∃ a xs, x = .ref a ∧ SqT K H a xs ∧
  ¬ (HT.sIx xs.length 0 lo = 0 ∧ HT.sIx xs.length xs.length hi = xs.length) ∧ ∀ p, H p = none → Q (.ref p) (upd H p (.tup (cutV xs lo hi)))
def rLtT (K : PySem.W.Frag) : R2 := fun x y H Q => ∃ a b ns ms, x = .ref a ∧ y = .ref b ∧ SqT K H a (ns.map V.int) ∧ SqT K H b (ms.map V.int) ∧ Q (.bl (HT.lexLt ns ms)) H
def rCatT (K : PySem.W.Frag) : R2 := fun x y H Q => ∃ a b xs ys, x = .ref a ∧ y = .ref b ∧ SqT K H a xs ∧ SqT K H b ys ∧ xs ≠ [] ∧ xs.length + ys.length ≤ sizeLine ∧
  (ys = [] → Q (.ref a) H) ∧ (ys ≠ [] → ∀ p, H p = none → Q (.ref p) (upd H p (.tup (xs ++ ys))))
end
end L2
namespace L2
open PySem PySem.Spec PyProof.Rows
def ixN (n : Nat) (i : Int) : Option Nat := if 0 ≤ i then (if i < n then some i.toNat else none) else if -(n : Int) ≤ i then some (i + n).toNat else none
def atI {α : Type} (xs : List α) (i : Int) : Option α := (ixN xs.length i).bind fun j => xs[j]?
theorem ixN_seq {n : Nat} {i : Int} {j : Nat} (h : ixN n i = some j) : seqIndex? i n = some j ∧ j < n ∧ -(n : Int) ≤ i ∧ i < n := by
  unfold ixN at h
  by_cases h0 : 0 ≤ i
  · rw [if_pos h0] at h
    by_cases h1 : i < n
    · rw [if_pos h1] at h
      have e : i.toNat = j := Option.some.inj h
      exact ⟨by rw [seqIndex_of h0 h1, e], by omega, by omega, h1⟩
    · rw [if_neg h1] at h; cases h
  · rw [if_neg h0] at h
    by_cases h1 : -(n : Int) ≤ i
    · rw [if_pos h1] at h
      have e : (i + n).toNat = j := Option.some.inj h
      exact ⟨by rw [seqIndex_neg (by omega) h1, e], by omega, h1, by omega⟩
    · rw [if_neg h1] at h; cases h
theorem atI_get {α : Type} {xs : List α} {i : Int} {v : α} (h : atI xs i = some v) : ∃ j, seqIndex? i xs.length = some j ∧ xs[j]? = some v ∧ j < xs.length ∧ -(xs.length : Int) ≤ i ∧ i < xs.length := by
  unfold atI at h
  cases e : ixN xs.length i with
  | none => rw [e] at h; cases h
  | some j =>
    rw [e] at h
    obtain ⟨h1, h2, h3, h4⟩ := ixN_seq e
    exact ⟨j, h1, h, h2, h3, h4⟩
theorem atI_nat {α : Type} {xs : List α} {j : Nat} {v : α} (h : xs[j]? = some v) : atI xs (j : Int) = some v := by
  have hj : j < xs.length := (List.getElem?_eq_some_iff.mp h).1
  have e : ixN xs.length (j : Int) = some j := by
    unfold ixN
    rw [if_pos (by omega), if_pos (by omega)]; simp
  unfold atI; rw [e]; exact h
def PlainIx (b : Expr) : Prop := ∀ o i, subscripted b false o i = operate [o, i] (getItem o i)
def IxR (X : Cx) (r : R2) : Prop :=
  ∀ (value slice : Expr) (pins : List (Addr × Obj)) (s : Shared) (σ : St) (H : Hp) (x y : V) (v u : Value) (Q : VK), Inv X pins σ H s → RelV x v → RelV y u → r x y H Q →
    subscripted slice false v u = operate [v, u] (getItem v u) → wpAny (model X.prog X.w) X.A (subscriptTail value slice v u) (EP X pins σ Q) X.xe s
def MtR (X : Cx) (id : String) (r : V → List V → Hp → VK → Prop) : Prop :=
  ∀ (pins : List (Addr × Obj)) (s : Shared) (σ : St) (H : Hp) (x : V) (xs : List V) (v : Value) (us : List Value) (Q : VK), Inv X pins σ H s → RelV x v → Vals xs us → r x xs H Q →
    wpAny (model X.prog X.w) X.A (call (.builtin id) (v :: us)) (EP X pins σ Q) X.xe s
section
variable {X : Cx} {a b : Expr} {ta tb : TE} {pos : Pos}
theorem IxR.or {r r' : R2} (h : IxR X r) (h' : IxR X r') : IxR X (fun x y H Q => r x y H Q ∨ r' x y H Q) := by
  intro value slice pins s σ H x y v u Q I rx ry q hs
  rcases q with q | q
  · exact h value slice pins s σ H x y v u Q I rx ry q hs
  · exact h' value slice pins s σ H x y v u Q I rx ry q hs
theorem MtR.or {id : String} {r r' : V → List V → Hp → VK → Prop} (h : MtR X id r) (h' : MtR X id r') : MtR X id (fun x xs H Q => r x xs H Q ∨ r' x xs H Q) := by
  intro pins s σ H x xs v us Q I rx rs q
  rcases q with q | q
  · exact h pins s σ H x xs v us Q I rx rs q
  · exact h' pins s σ H x xs v us Q I rx rs q
theorem pe_ix {r : R2} (hr : IxR X r) (ha : PE X a ta) (hb : PE X b tb) (hs : PlainIx b) : PE X (.Subscript a b pos) (tOp r ta tb) := by
  intro pins s σ H Q I h
  exact Subscript_ (binT ha hb I h fun v u s2 x y H2 I2 rx ry q => hr a b pins s2 σ H2 x y v u Q I2 rx ry q (hs _ _))
def rIxL (K : PySem.W.Frag) : R2 := fun x y H Q => ∃ p xs i v, x = .ref p ∧ y = .int i ∧ SqL K H p xs ∧ atI xs i = some v ∧ Q v H
def rIxT (K : PySem.W.Frag) : R2 := fun x y H Q => ∃ p xs i v, x = .ref p ∧ y = .int i ∧ SqT K H p xs ∧ atI xs i = some v ∧ Q v H
def rIxS : R2 := fun x y H Q => ∃ z i c, x = .str z ∧ y = .int i ∧ z.length ≤ sizeLine ∧ atI z.cps.toList i = some c ∧ Q (.str ⟨#[c]⟩) H
theorem ix_list : IxR X (rIxL X.K) := by
  intro value slice pins s σ H x y v u Q I rx ry h hs
  obtain ⟨p, xs, i, z, rfl, rfl, hq, he, q⟩ := h
  cases rx
  obtain ⟨t, rfl⟩ := ry
  obtain ⟨its, r, pl, hz⟩ := I.list hq
  obtain ⟨j, h1, h2, h3, h4, h5⟩ := atI_get he
  obtain ⟨w, ew, rw'⟩ := r.get h2
  have hl := r.length
  have hn := line63
  have fin : EP X pins σ Q w s := ⟨z, H, I, rw', q⟩
  by_cases h0 : 0 ≤ i
  · have hj : i.toNat = j := by
      rw [seqIndex_of h0 h5] at h1
      exact Option.some.inj h1
    exact item_listR pl.isList h0 (by omega) (by rw [hj]; simpa using ew) fin hs
  · have hj : (i + (its.toArray.size : Int)).toNat = j := by
      rw [seqIndex_neg (by omega) h4] at h1
      rw [List.size_toArray, ← hl]
      exact Option.some.inj h1
    exact subscriptTail_builtinR (x := w) pl.isList.typeIs slot_list_getitem.lookup
      (wpAny_getItem_list_neg (Q := fun r s' => r = w ∧ EP X pins σ Q r s') pl.isList (by omega) (by rw [List.size_toArray] <;> omega) (by omega) (by rw [hj]; simpa using ew) ⟨rfl, fin⟩) hs
theorem ix_tup : IxR X (rIxT X.K) := by
  intro value slice pins s σ H x y v u Q I rx ry h hs
  obtain ⟨p, xs, i, z, rfl, rfl, hq, he, q⟩ := h
  cases rx
  obtain ⟨t, rfl⟩ := ry
  obtain ⟨its, r, pl, hz⟩ := I.tuple hq
  obtain ⟨j, h1, h2, h3, h4, h5⟩ := atI_get he
  obtain ⟨w, ew, rw'⟩ := r.get h2
  have hl := r.length
  have hn := line63
  have fin : EP X pins σ Q w s := ⟨z, H, I, rw', q⟩
  exact subscriptTail_builtinR (x := w) pl.typeIs slot_tuple_getitem.lookup
    (getItem_tuple (j := j) (Q := fun r s' => r = w ∧ EP X pins σ Q r s') pl (by omega) (by omega) (by rw [List.size_toArray, ← hl]; exact h1) (by simpa using ew) ⟨rfl, fin⟩) hs
theorem ix_str : IxR X rIxS := by
  intro value slice pins s σ H x y v u Q I rx ry h hs
  obtain ⟨z, i, c, rfl, rfl, hz, he, q⟩ := h
  obtain ⟨t, rfl⟩ := rx
  obtain ⟨t', rfl⟩ := ry
  obtain ⟨j, h1, h2, h3, h4, h5⟩ := atI_get he
  have hl : z.cps.toList.length = z.length := by simp [Str.length]
  rw [hl] at h1 h4 h5
  have hn := line63
  exact tail_any (typeIs_str s z t) slot_str_getitem.lookup (getItem_str (c := c) (by
    have e1 : decide (i < -(2 ^ 63 : Int)) = false := decide_eq_false (by omega)
    have e2 : decide (i ≥ 2 ^ 63) = false := decide_eq_false (by omega)
    rw [e1, e2, Bool.or_false]) (by rw [h1]; simpa using h2) ⟨.str ⟨#[c]⟩, H, I.tok _, ⟨_, rfl⟩, q⟩) hs
def rIx (K : PySem.W.Frag) : R2 := fun x y H Q => rIxL K x y H Q ∨ rIxT K x y H Q ∨ rIxS x y H Q
theorem mapSeq_set (its : List Value) (n j : Nat) (u : Value) : Obj.mapSeq (·.setIfInBounds j u) { cls := .type "list", data := .seq its.toArray n } = { cls := .type "list", data := .seq (its.set j u).toArray n } := by
  simp [Obj.mapSeq]
theorem Inv.lst {pins : List (Addr × Obj)} {σ : St} {H : Hp} {s : Shared} {p : Addr} {xs : List V} (I : Inv X pins σ H s) (h : H p = some (.lst xs)) :
    ∃ (its : List Value) (n : Nat), Vals xs its ∧ s.heap.get? p = some { cls := .type "list", data := .seq its.toArray n } ∧ xs.length ≤ sizeLine := by
  obtain ⟨z, its, n, r, e⟩ := I.hok p _ h
  exact ⟨its, n, r, e, z⟩
theorem Inv.lstUpd {pins : List (Addr × Obj)} {σ : St} {H : Hp} {s : Shared} {p : Addr} {xs ys : List V} {its its' : List Value} {n n' : Nat} {f : Obj → Obj} (I : Inv X pins σ H s) (h : H p = some (.lst xs))
    (ho : s.heap.get? p = some { cls := .type "list", data := .seq its.toArray n }) (hf : f { cls := .type "list", data := .seq its.toArray n } = { cls := .type "list", data := .seq its'.toArray n' }) (r : Vals ys its') (hz : ys.length ≤ sizeLine) (t : Nat) :
    Inv X pins σ (upd H p (.lst ys)) { s with heap := s.heap.update p f, toks := t } := by
  have e : (s.heap.update p f).get? p = some { cls := .type "list", data := .seq its'.toArray n' } := by
    rw [Heap.get?_update_self f ho (by rw [hf] <;> rfl), hf]
  refine I.write (x := p) (e := p) (by rw [h]; trivial) (.inl rfl) (fun b u hb q => (Heap.get?_update_other _ _ (Ne.symm hb)).trans q) ⟨_, e⟩ ?_
  exact ⟨hz, its', n', r, e⟩
def rSetL : V → V → V → Hp → (Hp → Prop) → Prop := fun o i v H Q => ∃ p xs k j, o = .ref p ∧ i = .int k ∧ H p = some (.lst xs) ∧ ixN xs.length k = some j ∧ Q (upd H p (.lst (xs.set j v)))
theorem set_list : PSet X rSetL := by
  intro pins s σ H o i v ov iv u Q I ro ri rv h
  obtain ⟨p, xs, k, j, rfl, rfl, hp, hj, q⟩ := h
  cases ro
  obtain ⟨t, rfl⟩ := ri
  obtain ⟨its, n, r, ho, hz⟩ := I.lst hp
  obtain ⟨h1, h2, h3, h4⟩ := ixN_seq hj
  have hl := r.length
  have hn := line63
  have I' : Inv X pins σ (upd H p (.lst (xs.set j v))) { s with heap := s.heap.update p (Obj.mapSeq (·.setIfInBounds j u)) } :=
    I.lstUpd hp ho (mapSeq_set its n j u) (r.set rv j) (by rw [List.length_set]; exact hz) s.toks
  by_cases h0 : 0 ≤ k
  · have hk : k.toNat = j := by
      rw [seqIndex_of h0 h4] at h1
      exact Option.some.inj h1
    exact PySem.W.ki_setAt ho h0 (by omega) (by rw [List.size_toArray, ← hl]; exact h4) (by rw [hk]; exact ⟨_, I', q⟩)
  · have hk : (k + (its.toArray.size : Int)).toNat = j := by
      rw [seqIndex_neg (by omega) h3] at h1
      rw [List.size_toArray, ← hl]
      exact Option.some.inj h1
    exact PySem.W.ki_setBack ho (by omega) (by rw [List.size_toArray, ← hl]; exact h3) (by omega) (by rw [hk]; exact ⟨_, I', q⟩)
theorem slice_bounds (lo hi : Option Int) (n : Nat) : (sliceBounds lo hi none n).1 = ((HT.sIx n 0 lo : Nat) : Int) ∧ (sliceBounds lo hi none n).2.1 = ((HT.sIx n n hi : Nat) : Int) ∧ (sliceBounds lo hi none n).2.2 = 1 := by
  refine ⟨?_, ?_, rfl⟩
  · cases lo with
    | none => simp [sliceBounds, HT.sIx]
    | some i =>
      simp only [sliceBounds, HT.sIx, Option.getD_none, show (1 : Int) > 0 by decide, if_true]
      by_cases h : i < 0
      · simp only [h, if_true] <;> omega
      · simp only [h, if_false] <;> omega
  · cases hi with
    | none => simp [sliceBounds, HT.sIx]
    | some i =>
      simp only [sliceBounds, HT.sIx, Option.getD_none, show (1 : Int) > 0 by decide, if_true]
      by_cases h : i < 0
      · simp only [h, if_true] <;> omega
      · simp only [h, if_false] <;> omega
theorem slicePick_cut (its : List Value) (lo hi : Option Int) : slicePick its.toArray lo hi none = ((its.drop (HT.sIx its.length 0 lo)).take (HT.sIx its.length its.length hi - HT.sIx its.length 0 lo)).toArray := by
  obtain ⟨h1, h2, h3⟩ := slice_bounds lo hi its.toArray.size
  unfold slicePick
  rw [h1, h2, h3]
  simp only [sliceRange_one, pick_run, List.size_toArray] <;> rfl
def rSlL (K : PySem.W.Frag) : V → Option Int → Option Int → Hp → VK → Prop := fun x lo hi H Q => ∃ a xs, x = .ref a ∧ SqL K H a xs ∧ ∀ p, H p = none → Q (.ref p) (upd H p (.lst (cutV xs lo hi)))
theorem sl_list : SlR X (rSlL X.K) := by
  intro pins s σ H x v vl vu lo hi sl Q I rx hs pl pu h
  obtain ⟨a, xs, rfl, hx, q⟩ := h
  cases rx
  obtain ⟨its, r, ht, hz⟩ := I.list hx
  have hlen := r.length
  refine ⟨"list", _, slot_list_getitem.lookup, ht.isList.typeIs, ?_⟩
  refine wpAny_getItem_list_slice ht.isList hs pl pu .none (by simp) ?_ (by rw [List.size_toArray] <;> omega)
  rw [slicePick_cut, ← hlen]
  refine ⟨.ref s.heap.objs.size, _, I.laid (t' := s.toks) (o := .lst (cutV xs lo hi)) (fun b ob q => Heap.get?_push_of_some _ q) (Nat.le_refl _) ?_, rfl, q _ (I.hok.fresh (Nat.le_refl _))⟩
  exact ⟨Nat.le_trans (cutV_length xs lo hi) hz, _, 0, (r.drop (HT.sIx xs.length 0 lo)).take (HT.sIx xs.length xs.length hi - HT.sIx xs.length 0 lo), Heap.get?_push_size _ rfl⟩
def flatV : V → Bool
  | .non => true
  | .bl _ => true
  | .int _ => true
  | .str _ => true
  | _ => false
def eqV : V → V → Bool
  | .non, .non => true
  | .bl a, .bl b => a == b
  | .bl a, .int b => (if a then 1 else 0) == b
  | .int a, .bl b => a == (if b then 1 else 0)
  | .int a, .int b => a == b
  | .str a, .str b => a == b
  | _, _ => false
theorem eqAt_V {A : Around} {s : Shared} {y x : V} {u v : Value} (ry : RelV y u) (rx : RelV x v) (fy : flatV y = true) (fx : flatV x = true) : SeqAt.EqAt A s u v (eqV y x) := by
  cases y with
  | non =>
    cases ry
    cases x with
    | non => cases rx; exact SeqAt.EqAt.same _
    | bl b => cases rx; exact SeqAt.EqAt.none_bool b
    | int b => obtain ⟨t, rfl⟩ := rx; exact SeqAt.EqAt.none_int b t
    | str b => obtain ⟨t, rfl⟩ := rx; exact SeqAt.EqAt.none_str b t
    | _ => exact absurd (show false = true from fx) Bool.false_ne_true
  | bl a =>
    cases ry
    cases x with
    | non => cases rx; exact SeqAt.EqAt.bool_none a
    | bl b => cases rx; exact SeqAt.EqAt.bool_bool a b
    | int b => obtain ⟨t, rfl⟩ := rx; exact SeqAt.EqAt.bool_int a b t
    | str b => obtain ⟨t, rfl⟩ := rx; exact SeqAt.EqAt.bool_str a b t
    | _ => exact absurd (show false = true from fx) Bool.false_ne_true
  | int a =>
    obtain ⟨t', rfl⟩ := ry
    cases x with
    | non => cases rx; exact SeqAt.EqAt.int_none a t'
    | bl b => cases rx; exact SeqAt.EqAt.int_bool a t' b
    | int b => obtain ⟨t, rfl⟩ := rx; exact SeqAt.EqAt.int_int a t' b t
    | str b => obtain ⟨t, rfl⟩ := rx; exact SeqAt.EqAt.int_str a t' b t
    | _ => exact absurd (show false = true from fx) Bool.false_ne_true
  | str a =>
    obtain ⟨t', rfl⟩ := ry
    cases x with
    | non => cases rx; exact SeqAt.EqAt.str_none a t'
    | bl b => cases rx; exact SeqAt.EqAt.str_bool a t' b
    | int b => obtain ⟨t, rfl⟩ := rx; exact SeqAt.EqAt.str_int a t' b t
    | str b => obtain ⟨t, rfl⟩ := rx; exact SeqAt.EqAt.str_str a t' b t
    | _ => exact absurd (show false = true from fx) Bool.false_ne_true
  | _ => exact absurd (show false = true from fy) Bool.false_ne_true
def eqU (x : V) (u : Value) : Bool := match u with
  | .none => eqV .non x
  | .bool b => eqV (.bl b) x
  | .int i _ => eqV (.int i) x
  | .str z _ => eqV (.str z) x
  | _ => false
theorem eqU_of {x y : V} {u : Value} (r : RelV y u) (f : flatV y = true) : eqU x u = eqV y x := by
  cases y with
  | non => cases r; rfl
  | bl b => cases r; rfl
  | int i => obtain ⟨t, rfl⟩ := r; rfl
  | str z => obtain ⟨t, rfl⟩ := r; rfl
  | _ => exact absurd (show false = true from f) Bool.false_ne_true
theorem any_eqU {x : V} : ∀ {xs : List V} {us : List Value}, Vals xs us → xs.all flatV = true → us.any (eqU x) = xs.any fun y => eqV y x
  | _, _, .nil, _ => rfl
  | y :: xs, u :: us, .cons r t, f => by
    rw [List.all_cons, Bool.and_eq_true] at f
    rw [List.any_cons, List.any_cons, eqU_of r f.1, any_eqU t f.2]
theorem mem_eqAt {A : Around} {s : Shared} {x : V} {v : Value} (rx : RelV x v) (fx : flatV x = true) : ∀ {xs : List V} {us : List Value}, Vals xs us → xs.all flatV = true → ∀ u ∈ us, SeqAt.EqAt A s u v (eqU x u)
  | _, _, .nil, _ => fun u hu => by cases hu
  | y :: xs, u :: us, .cons r t, f => fun u' hu => by
    rw [List.all_cons, Bool.and_eq_true] at f
    rcases List.mem_cons.mp hu with rfl | hu
    · rw [eqU_of r f.1]; exact eqAt_V r rx f.1 fx
    · exact mem_eqAt rx fx t f.2 u' hu
def inV (x : V) (xs : List V) : Bool := xs.any fun y => eqV y x
def rIn (K : PySem.W.Frag) (neg : Bool) : R2 := fun x y H Q => ∃ p xs, y = .ref p ∧ (SqL K H p xs ∨ SqT K H p xs) ∧ flatV x = true ∧ xs.all flatV = true ∧ Q (.bl (if neg then !inV x xs else inV x xs)) H
theorem op_in_seq : OpR X (compareOp .In) (rIn X.K false) := by
  intro pins s σ H x y v u Q I rx ry h
  obtain ⟨p, xs, rfl, hq, fx, fs, q⟩ := h
  cases ry
  rcases hq with hq | hq
  · obtain ⟨its, r, pl, hz⟩ := I.list hq
    refine SeqAt.in_listAt (eqU x) pl.isList (fun w hw => mem_eqAt rx fx r fs w (by simpa using hw)) ⟨.bl _, H, I, rfl, ?_⟩
    rw [show its.toArray.any (eqU x) = its.any (eqU x) by simp, any_eqU r fs]
    exact q
  · obtain ⟨its, r, pl, hz⟩ := I.tuple hq
    refine SeqAt.in_tupleAt (eqU x) pl (fun w hw => mem_eqAt rx fx r fs w (by simpa using hw)) ⟨.bl _, H, I, rfl, ?_⟩
    rw [show its.toArray.any (eqU x) = its.any (eqU x) by simp, any_eqU r fs]
    exact q
theorem op_notIn_seq : OpR X (compareOp .NotIn) (rIn X.K true) := by
  intro pins s σ H x y v u Q I rx ry h
  obtain ⟨p, xs, rfl, hq, fx, fs, q⟩ := h
  cases ry
  rcases hq with hq | hq
  · obtain ⟨its, r, pl, hz⟩ := I.list hq
    refine SeqAt.notIn_listAt (eqU x) pl.isList (fun w hw => mem_eqAt rx fx r fs w (by simpa using hw)) ⟨.bl _, H, I, rfl, ?_⟩
    rw [show its.toArray.any (eqU x) = its.any (eqU x) by simp, any_eqU r fs]
    exact q
  · obtain ⟨its, r, pl, hz⟩ := I.tuple hq
    refine SeqAt.notIn_tupleAt (eqU x) pl (fun w hw => mem_eqAt rx fx r fs w (by simpa using hw)) ⟨.bl _, H, I, rfl, ?_⟩
    rw [show its.toArray.any (eqU x) = its.any (eqU x) by simp, any_eqU r fs]
    exact q
theorem call_len_seq : CallR X (.builtin "len") (fun xs H Q => ∃ p ys, xs = [.ref p] ∧ (SqL X.K H p ys ∨ SqT X.K H p ys) ∧ Q (.int ys.length) H) := by
  intro pins s σ H xs us Q I r h
  obtain ⟨p, ys, rfl, hq, q⟩ := h
  obtain ⟨u, rfl, rx⟩ := vals1 r
  cases rx
  have hn := line63
  rcases hq with hq | hq
  · obtain ⟨its, r', pl, hz⟩ := I.list hq
    have hlen := r'.length
    exact Calls.call_len_list pl.isList (by simp only [List.size_toArray] <;> omega) ⟨.int ys.length, H, I.tok _, ⟨s.toks + 1, by rw [List.size_toArray, hlen]⟩, q⟩
  · obtain ⟨its, r', pl, hz⟩ := I.tuple hq
    have hlen := r'.length
    exact len_tuple pl (by simp only [List.size_toArray] <;> omega) ⟨.int ys.length, H, I.tok _, ⟨s.toks + 1, by rw [List.size_toArray, hlen]⟩, q⟩
theorem call_len_str : CallR X (.builtin "len") (fun xs H Q => ∃ z, xs = [.str z] ∧ z.length ≤ sizeLine ∧ Q (.int z.length) H) := by
  intro pins s σ H xs us Q I r h
  obtain ⟨z, rfl, hz, q⟩ := h
  obtain ⟨u, rfl, t, rfl⟩ := vals1 r
  have hn := line63
  exact len_str (by omega) ⟨.int z.length, H, I.tok _, ⟨_, rfl⟩, q⟩
theorem CallR.or {f : Value} {r r' : List V → Hp → VK → Prop} (h : CallR X f r) (h' : CallR X f r') : CallR X f (fun xs H Q => r xs H Q ∨ r' xs H Q) := by
  intro pins s σ H xs us Q I rs q
  rcases q with q | q
  · exact h pins s σ H xs us Q I rs q
  · exact h' pins s σ H xs us Q I rs q
theorem call_list_of : CallR X (.type "list") (fun xs H Q => ∃ p ys, xs = [.ref p] ∧ (SqL X.K H p ys ∨ SqT X.K H p ys) ∧ ∀ l, H l = none → Q (.ref l) (upd H l (.lst ys))) := by
  intro pins s σ H xs us Q I r h
  obtain ⟨p, ys, rfl, hq, q⟩ := h
  obtain ⟨u, rfl, rx⟩ := vals1 r
  cases rx
  have fin : ∀ (its : List Value), Vals ys its → ys.length ≤ sizeLine → ∀ (h' : Heap) (c' : Nat), (∀ b o', s.heap.get? b = some o' → h'.get? b = some o') →
      h'.get? s.heap.objs.size = some { cls := .type "list", dict := none, data := .seq its.toArray c', slots := #[] } → EP X pins σ Q (.ref s.heap.objs.size) { s with heap := h' } := fun its r' hz h' c' kp e =>
    ⟨.ref s.heap.objs.size, _, I.laid (t' := s.toks) kp (Nat.le_refl _) (show ObjOk X.prog X.w _ h' _ (.lst ys) from ⟨hz, its, c', r', e⟩), rfl, q _ (I.hok.fresh (Nat.le_refl _))⟩
  rcases hq with hq | hq
  · obtain ⟨its, r', pl, hz⟩ := I.list hq
    have hlen := r'.length
    obtain ⟨o, ho, hc, n, hd⟩ := pl.isList
    exact call_list_seq p (.inl rfl) ho hc hd (fun h' c' kp e => fin its r' hz h' c' kp e) (by simp only [List.size_toArray] <;> omega)
  · obtain ⟨its, r', pl, hz⟩ := I.tuple hq
    have hlen := r'.length
    obtain ⟨o, ho, hc, n, hd⟩ := pl
    exact call_list_seq p (.inr rfl) ho hc hd (fun h' c' kp e => fin its r' hz h' c' kp e) (by simp only [List.size_toArray] <;> omega)
def tyV (K : PySem.W.Frag) (T : String) (x : V) (H : Hp) : Prop := match x with
  | .str _ => T = "str"
  | .int _ => T = "int"
  | .ref p => (T = "list" ∧ ∃ xs, SqL K H p xs) ∨ (T = "tuple" ∧ ∃ o, K.lookup p = some o ∧ o.cls = .type "tuple" ∧ o.dict = none) ∨
      (T = "dict" ∧ ((∃ kvs, H p = some (.dK kvs)) ∨ ∃ kvs, H p = some (.dT kvs))) ∨ (T = "set" ∧ ∃ S n, H p = some (.set S n))
  | _ => False
theorem tyV_is {pins : List (Addr × Obj)} {σ : St} {H : Hp} {s : Shared} {T : String} {x : V} {v : Value} (I : Inv X pins σ H s) (r : RelV x v) (ty : tyV X.K T x H) :
    s.TypeIs v T ∧ ∀ a, v = .ref a → ∃ ob, s.heap.get? a = some ob ∧ ob.dict = none := by
  cases x with
  | str z =>
    obtain ⟨t, rfl⟩ := r
    cases (show T = "str" from ty)
    exact ⟨typeIs_str s z t, fun _ e => nomatch e⟩
  | int i =>
    obtain ⟨t, rfl⟩ := r
    cases (show T = "int" from ty)
    exact ⟨typeIs_int s i t, fun _ e => nomatch e⟩
  | ref p =>
    cases r
    rcases ty with ⟨rfl, xs, hq⟩ | ⟨rfl, o, hk, hc, hd⟩ | ⟨rfl, hk⟩ | ⟨rfl, S, n, hk⟩
    · obtain ⟨its, _, pl, _⟩ := I.list hq
      refine ⟨pl.isList.typeIs, fun a e => ?_⟩
      cases e
      obtain ⟨o, n, e, c, hd, _⟩ := pl
      exact ⟨o, e, hd⟩
    · refine ⟨⟨o, I.kIn p o hk, hc⟩, fun a e => ?_⟩
      cases e
      exact ⟨o, I.kIn _ o hk, hd⟩
    · have z : ∃ o, s.heap.get? p = some o ∧ o.ExactDict := by
        rcases hk with ⟨kvs, hk⟩ | ⟨kvs, hk⟩
        · obtain ⟨_, _, _, _, o, _, _, e, ex, _⟩ := I.hok p _ hk
          exact ⟨o, e, ex⟩
        · obtain ⟨_, _, _, _, o, _, _, e, ex, _⟩ := I.hok p _ hk
          exact ⟨o, e, ex⟩
      obtain ⟨o, e, ex⟩ := z
      refine ⟨⟨o, e, ex.1⟩, fun a e2 => ?_⟩
      cases e2
      exact ⟨o, e, ex.2.1⟩
    · obtain ⟨o, _, _, _, e, ex, _⟩ := I.hok p _ hk
      refine ⟨⟨o, e, ex.1⟩, fun a e2 => ?_⟩
      cases e2
      exact ⟨o, e, ex.2.1⟩
  | _ => exact False.elim ty
def tBM0 (K : PySem.W.Frag) (T : String) (r : V → List V → Hp → VK → Prop) (to : TE) : TE := fun σ H Q => to σ H fun x H1 => tyV K T x H1 ∧ r x [] H1 Q
def tBM (K : PySem.W.Frag) (T : String) (r : V → List V → Hp → VK → Prop) (to : TE) (t : TA) : TE := fun σ H Q => to σ H fun x H1 => tyV K T x H1 ∧ t σ H1 fun xs H2 => r x xs H2 Q
variable {o e : Expr} {es : List Expr} {to : TE} {t : TA} {name : Str} {apos cpos : Pos} {T id : String} {r : V → List V → Hp → VK → Prop}
theorem pe_bm0 (pa : PlainAttrs T) (slot : Slot T name id) (hty : typeOf (.builtin id) = pure (.type "method_descriptor")) (hm : MtR X id r) (ho : PE X o to)
    (hbase : attributeBase o name X.env (eval o X.env) = eval o X.env := by rfl) (hline : (apos.endLine == cpos.line) = true := by rfl) : PE X (.Call (.Attribute o name apos) [] [] cpos) (tBM0 X.K T r to) := by
  intro pins s σ H Q I h
  refine wpAny_Call_method0_late hbase hline (thn (ho pins s σ H _ I h) fun v s1 ⟨x, H1, I1, r1, ty, q1⟩ => ?_)
  obtain ⟨h1, h2⟩ := tyV_is I1 r1 ty
  exact ⟨T, id, pa, slot, hty, h1, h2, Calls.callWith_builtin rfl (PySem.evalArgs_none (hm pins s1 σ H1 x [] v [] Q I1 r1 .nil q1))⟩
theorem pe_bm (pa : PlainAttrs T) (slot : Slot T name id) (hty : typeOf (.builtin id) = pure (.type "method_descriptor")) (hm : MtR X id r) (ho : PE X o to) (ha : PA X (e :: es) t)
    (hbase : attributeBase o name X.env (eval o X.env) = eval o X.env := by rfl)
    (hfew : ((backTo cpos (starEach (e :: es) X.env)).all (fun x => !x.1) && (backToKw cpos (keywordEach [] X.env)).all (fun x => x.1.isSome)
      && decide ((e :: es).length + ([] : List Keyword).length + (if ([] : List Keyword).isEmpty then 0 else 1) < 30)) = true := by rfl)
    (hline : (apos.endLine == cpos.line) = true := by rfl) (hs : starEach (e :: es) X.env = (false, eval e X.env) :: starEach es X.env := by rfl) (hplain : (backTo cpos (starEach es X.env)).any (·.1) = false := by rfl) :
    PE X (.Call (.Attribute o name apos) (e :: es) [] cpos) (tBM X.K T r to t) := by
  intro pins s σ H Q I h
  refine wpAny_Call_method_late hbase hfew hline rfl (thn (ho pins s σ H _ I h) fun v s1 ⟨x, H1, I1, r1, ty, q1⟩ => ?_)
  obtain ⟨h1, h2⟩ := tyV_is I1 r1 ty
  refine ⟨T, id, pa, slot, hty, h1, h2, ?_⟩
  have hA := ha cpos pins s1 σ H1 _ I1 q1
  rw [hs] at hA ⊢
  refine Calls.callWith_builtin (by show (false || (backTo cpos (starEach es X.env)).any (·.1)) = false; rw [hplain] <;> rfl) (Calls.evalArgs_plain ?_)
  exact thn hA fun us s2 ⟨vs, H2, I2, r2, q2⟩ => hm pins s2 σ H2 x vs v us Q I2 r1 r2 q2
/- xs.append(e), list.index on a module's tuple .. are MtR facts of 06m -/
end
end L2
namespace L2
open PySem PySem.Spec PyProof.Rows
def MtM (X : Cx) (id : String) (r : V → List V → Hp → VK → Prop) : Prop :=
  ∀ (pins : List (Addr × Obj)) (s : Shared) (σ : St) (H : Hp) (x : V) (xs : List V) (v : Value) (us : List Value) (Q : VK), Inv X pins σ H s → RelV x v → Vals xs us → r x xs H Q →
    wpAny (model X.prog X.w) X.A (call (.builtin id) (v :: us)) (EP X pins σ Q) X.xe s
theorem Vals.one : ∀ {x : V} {us : List Value}, Vals [x] us → ∃ u, us = [u] ∧ RelV x u
  | _, _, .cons r .nil => ⟨_, rfl, r⟩
theorem Vals.two : ∀ {x y : V} {us : List Value}, Vals [x, y] us → ∃ u v, us = [u, v] ∧ RelV x u ∧ RelV y v
  | _, _, _, .cons r (.cons q .nil) => ⟨_, _, rfl, r, q⟩
theorem Vals.zero : ∀ {us : List Value}, Vals [] us → us = []
  | _, .nil => rfl
theorem Vals.dropLast {xs : List V} {us : List Value} (h : Vals xs us) : Vals xs.dropLast us.dropLast := by
  induction h with
  | nil => exact .nil
  | cons r t ih =>
    cases t with
    | nil => exact .nil
    | cons q t' => exact .cons r ih
theorem Vals.eraseIdx : ∀ {xs : List V} {us : List Value} (i : Nat), Vals xs us → Vals (xs.eraseIdx i) (us.eraseIdx i)
  | _, _, _, .nil => .nil
  | _, _, 0, .cons _ t => t
  | _, _, i + 1, .cons r t => .cons r (Vals.eraseIdx i t)
theorem Vals.reverse {xs : List V} {us : List Value} (h : Vals xs us) : Vals xs.reverse us.reverse := by
  induction h with
  | nil => exact .nil
  | cons r t ih => rw [List.reverse_cons, List.reverse_cons]; exact Vals.append ih (.cons r .nil)
theorem Vals.rep {xs : List V} {us : List Value} (h : Vals xs us) : ∀ k : Nat, Vals (List.replicate k xs).flatten (List.replicate k us).flatten
  | 0 => .nil
  | k + 1 => by
    rw [List.replicate_succ, List.replicate_succ, List.flatten_cons, List.flatten_cons]
    exact Vals.append h (Vals.rep h k)
section
variable {X : Cx} {pins : List (Addr × Obj)} {σ : St} {H : Hp} {s : Shared} {l b : Addr} {xs ys zs : List V}
theorem Inv.lset {its its' : List Value} {n : Nat} {f : Array Value → Array Value} {t' : Nat} (I : Inv X pins σ H s) (hH : H l = some (.lst xs))
    (e : s.heap.get? l = some { cls := .type "list", data := .seq its.toArray n }) (hf : f its.toArray = its'.toArray) (hv : Vals ys its') (hz : ys.length ≤ sizeLine) :
    Inv X pins σ (upd H l (.lst ys)) { s with heap := s.heap.update l (Obj.mapSeq f), toks := t' } := by
  have q := PySem.IsL.update e f
  rw [hf] at q
  refine I.write (x := l) (e := l) (by rw [hH]; exact trivial) (.inl rfl) (fun b' u hb hu => (Heap.get?_update_other s.heap (Obj.mapSeq f) (Ne.symm hb)).trans hu) ⟨_, q⟩ ?_
  exact ⟨hz, its', _, hv, q⟩
theorem Inv.lnew {its : List Value} {t' : Nat} (I : Inv X pins σ H s) (hv : Vals ys its) (hz : ys.length ≤ sizeLine) :
    Inv X pins σ (upd H s.heap.objs.size (.lst ys)) { s with heap := s.heap.push { cls := .type "list", data := .seq its.toArray }, toks := t' } :=
  I.laid (fun _ _ q => Heap.get?_push_of_some _ q) (Nat.le_refl _) ⟨hz, its, 0, hv, Heap.get?_push_size _ rfl⟩
theorem Inv.fresh (I : Inv X pins σ H s) : H s.heap.objs.size = none := I.hok.fresh (Nat.le_refl _)
theorem Inv.lstM (I : Inv X pins σ H s) (hH : H l = some (.lst xs)) : xs.length ≤ sizeLine ∧ ∃ (its : List Value) (n : Nat), Vals xs its ∧ xs.length = its.length ∧ s.heap.get? l = some { cls := .type "list", data := .seq its.toArray n } := by
  obtain ⟨z, its, n, r, e⟩ := I.hok l _ hH
  exact ⟨z, its, n, r, r.length, e⟩
end
section
variable {X : Cx}
def rAppend : V → List V → Hp → VK → Prop := fun x vs H Q => ∃ l xs y, x = .ref l ∧ vs = [y] ∧ H l = some (.lst xs) ∧ xs.length < sizeLine ∧ Q .non (upd H l (.lst (xs ++ [y])))
theorem mt_append : MtM X "list.append" rAppend := by
  intro pins s σ H x vs v us Q I rx rv h
  obtain ⟨l, xs, y, rfl, rfl, hH, hz, q⟩ := h
  cases rx
  obtain ⟨u, rfl, ru⟩ := rv.one
  obtain ⟨z, its, n, r, hl, e⟩ := I.lstM hH
  refine call_meets F.slot_list_append ⟨_, e, rfl⟩ F.entry_list_append (F.args_list_append_2 _ _) (PySem.list_append l its.toArray n u (by rw [List.size_toArray]; omega)) ⟨e, ?_⟩
  refine ⟨.non, _, I.lset (its' := its ++ [u]) hH e (by simp) (r.append (.cons ru .nil)) ?_, rfl, q⟩
  rw [List.length_append, List.length_singleton]
  omega
def rExtend : V → List V → Hp → VK → Prop := fun x vs H Q => ∃ l b xs zs, x = .ref l ∧ vs = [.ref b] ∧ H l = some (.lst xs) ∧ H b = some (.lst zs) ∧ xs.length + zs.length ≤ sizeLine ∧ Q .non (upd H l (.lst (xs ++ zs)))
def rPop : V → List V → Hp → VK → Prop := fun x vs H Q => ∃ l xs y, x = .ref l ∧ vs = [] ∧ H l = some (.lst xs) ∧ xs[xs.length - 1]? = some y ∧ Q y (upd H l (.lst xs.dropLast))
def rPopAt : V → List V → Hp → VK → Prop := fun x vs H Q => ∃ l xs i k y, x = .ref l ∧ vs = [.int i] ∧ H l = some (.lst xs) ∧ -(2 ^ 63) ≤ i ∧ i < 2 ^ 63 ∧ seqIndex? i xs.length = some k ∧ xs[k]? = some y ∧ Q y (upd H l (.lst (xs.eraseIdx k)))
def rReverse : V → List V → Hp → VK → Prop := fun x vs H Q => ∃ l xs, x = .ref l ∧ vs = [] ∧ H l = some (.lst xs) ∧ Q .non (upd H l (.lst xs.reverse))
theorem mt_reverse : MtM X "list.reverse" rReverse := by
  intro pins s σ H x vs v us Q I rx rv h
  obtain ⟨l, xs, rfl, rfl, hH, q⟩ := h
  cases rx
  have hus := rv.zero
  subst hus
  obtain ⟨z, its, n, r, hl, e⟩ := I.lstM hH
  refine call_meets F.slot_list_reverse ⟨_, e, rfl⟩ F.entry_list_reverse (F.args_list_reverse_1 _) (AutoSeq1.list_reverse_list_0 l its.toArray n (by rw [List.size_toArray]; omega)) ⟨e, ?_⟩
  refine ⟨.non, _, I.lset (its' := its.reverse) hH e (by simp) r.reverse ?_, rfl, q⟩
  rw [List.length_reverse]
  omega
def rClear : V → List V → Hp → VK → Prop := fun x vs H Q => ∃ l xs, x = .ref l ∧ vs = [] ∧ H l = some (.lst xs) ∧ Q .non (upd H l (.lst []))
def rCat : R2 := fun x y H Q => ∃ l b xs zs, x = .ref l ∧ y = .ref b ∧ H l = some (.lst xs) ∧ H b = some (.lst zs) ∧ xs.length + zs.length ≤ sizeLine ∧ ∀ p, H p = none → Q (.ref p) (upd H p (.lst (xs ++ zs)))
theorem op_cat : OpR X (binaryOp .Add) rCat := by
  intro pins s σ H x y v u Q I rx ry h
  obtain ⟨l, b, xs, zs, rfl, rfl, hH, hB, hz, q⟩ := h
  cases rx
  cases ry
  obtain ⟨z, its, n, r, hl, e⟩ := I.lstM hH
  obtain ⟨z2, its2, n2, r2, hl2, e2⟩ := I.lstM hB
  refine PySem.P.add_list e e2 ?_ (by rw [List.size_toArray, List.size_toArray]; omega)
  have ea : its.toArray ++ its2.toArray = (its ++ its2).toArray := by simp
  rw [ea]
  exact ⟨.ref _, _, I.lnew (t' := s.toks) (r.append r2) (by rw [List.length_append]; omega), rfl, q _ I.fresh⟩
def rRep : R2 := fun x y H Q => ∃ l k xs, x = .ref l ∧ y = .int k ∧ H l = some (.lst xs) ∧ -(2 ^ 63) ≤ k ∧ k < 2 ^ 63 ∧ xs.length * k.toNat ≤ sizeLine ∧
  ∀ p, H p = none → Q (.ref p) (upd H p (.lst (List.replicate k.toNat xs).flatten))
end
section
variable {prog : Program} {w : World} {A : Around} {E : Value → Shared → Prop} {s : Shared}
end
section
variable {X : Cx}
end
end L2
namespace Att
open PySem PySem.W PySem.Calls PyProof.Rows
theorem ints_of_wellAll {P : Params} {h : Heap} : ∀ (ns : List Int) (vs : List Value), WellAll P h vs (ns.map WData.int) → IntsAre vs ns := by
  intro ns
  induction ns with
  | nil =>
    intro vs w
    rw [List.map_nil] at w
    cases w
    exact .nil
  | cons n ns ih =>
    intro vs w
    rw [List.map_cons] at w
    cases w with
    | cons a b =>
      cases a
      exact .cons _ _ (ih _ b)
theorem script_of {l : OpenLaw} {n : Nat} (hn : l.most = some n) {P : Params} {h : Heap} {args : List WData} {vals : List Value}
    (hpre : l.row.toRowW.claim.pre args = true) (hwl : WellAll P h vals args) :
    ∃ a vs ns, vals = [Value.ref a] ∧ args = [WData.list (ns.map WData.int)] ∧ h.get? a = some { cls := .type "list", data := .seq vs.toArray } ∧ IntsAre vs ns ∧ ns.length ≤ n := by
  have hsh : WShape.hasAll [] args [.list .int] = true := (pre_splitW hpre).1
  have hc : l.pre.holds [] { args := args } = true := (pre_splitW hpre).2
  obtain ⟨d, r, rfl, h1, h2⟩ := hasAllW_cons hsh
  obtain rfl := hasAllW_nil h2
  obtain ⟨xs, rfl, h3⟩ := hasW_list h1
  obtain ⟨ns, rfl⟩ := items_int h3
  have hlen : ns.length ≤ n := by
    unfold OpenLaw.pre at hc
    have h4 : (WTm.not (.lt (.lit (.int (n : Int))) (.len (.arg 0)))).holds [] { args := [.list (ns.map .int)] } = true := by
      have h4 := (holds_andW hc).1
      rw [hn] at h4
      exact h4
    have h5 := condW_of h4 (w_not (w_lt w_lit (w_len_list (w_arg rfl))))
    rw [List.length_map] at h5
    refine Nat.le_of_not_lt fun q => ?_
    have q' : (n : Int) < ((ns.length : Nat) : Int) := by omega
    first
      | (rw [decide_eq_true q'] at h5; exact absurd h5 (by decide))
      | (simp at h5; omega)
  cases hwl with
  | cons w1 w2 =>
    cases w2
    cases w1 with
    | list ho hall => exact ⟨_, _, ns, rfl, rfl, ho, ints_of_wellAll ns _ hall, hlen⟩
theorem post_true (l : OpenLaw) (args : List WData) : l.row.toRowW.claim.post args (.bool true) args = true :=
  postW_of (r := l.row.toRowW) (X := (true == true))
    (show WShape.has [] (.bool true) .bool = true by first | rfl | decide | simp [WShape.has, WShape.arms, WShape.armsAll])
    (show (WTm.eq .res (.lit (.bool true))).value [] { args := args, res := some (.bool true), after := args } = some (.bool (true == true)) from w_eq_bool (w_res rfl) w_lit) rfl
theorem attach_call {l : OpenLaw} {n : Nat} {q : Program} {loose : List Str} {XP : (Str → Option Value) → Heap → Prop} {YP : World → Heap → Prop} {d : DefRec}
    (hn : l.most = some n) (hdf : d.params.defaults = [])
    (call : ∀ (w : World) (s₀ s₁ : Shared) (mg mb : Str → Option Value) (fa : Addr) (o : Obj) (pm cd doc : Value) (a : Addr) (vs : List Value) (ns : List Int),
      Ground q loose [] XP w s₀ mg mb s₁.heap → YP w s₁.heap →
      s₁.heap.get? fa = some o → o.data = .func (docDef d.name d.params d.body d.scope pm cd doc) → s₁.heap.CodeRec cd d.name → mg d.name = some (.ref fa) →
      s₁.heap.get? a = some { cls := .type "list", data := .seq vs.toArray } → IntsAre vs ns → ns.length ≤ n → s₁.gens = #[] →
      codeAny (model l.prog w) callerA (.call (.ref fa) ⟨[.ref a], []⟩) (fun r s' => r = .ok (.ret (.bool true)) ∧ OldK s₁.heap s'.heap ∧ s'.os = s₁.os ∧ AllBare s'.gens) s₁) :
    WalkO q loose XP YP l.row.toRowW d [] (fun f vs => PySem.call f vs) := by
  intro w s₀ s₁ mg mb G Y fa o pm cd doc dV kV ho hd hcd hD hmg hg args vals as hpre hlay hrd hwl hlo
  obtain rfl : dV = .none := Dflts.none hD hdf
  obtain rfl : kV = .none := Dflts.noKw hD
  obtain ⟨a, vs, ns, rfl, rfl, hobj, hints, hlen⟩ := script_of hn hpre hwl
  refine enter_call (codeAny_mono (call w s₀ s₁ mg mb fa o pm cd doc a vs ns G Y ho (fd_plain hd) hcd hmg hobj hints hlen hg) fun r s' hq => ?_)
  obtain ⟨rfl, h2, h3, h4⟩ := hq
  exact ⟨.inl ⟨.bool true, .bool true, [], rfl, fun _ => rfl, .bool true, post_true l _, fun _ => ⟨List.Pairwise.nil, fun _ hm => (nomatch hm)⟩⟩, h2, h3, h4⟩
section
variable {prog : Program} {w : World} {A : Around} {E : Value → Shared → Prop} {s : Shared} {K : Frag}
def noObjs (h : Heap) : Heap := { h with objs := #[] }
def ledger (h : Heap) (L d : Addr) : List (Addr × Obj) := (List.range h.objs.size).filterMap fun a => if a = L ∨ a = d then none else (h.get? a).map fun o => (a, o)
end
end Att
namespace L2
open PySem PySem.Spec PyProof.Rows
theorem vals_ints : ∀ {vs : List Value} {ns : List Int}, IntsAre vs ns → Vals (ns.map V.int) vs
  | _, _, .nil => .nil
  | _, _, .cons n t h => .cons ⟨t, rfl⟩ (vals_ints h)
def Only (H : Hp) : Prop := ∀ b, H b = none ∨ ∃ o xs, H b = some (.frz o (.lst xs))
theorem law_call {P : Program} {w : World} {K : PySem.W.Frag} {mg mb : Str → Option Value} {CX : CXT} {k : Nat} {fa a : Addr} {fd : FuncData} {x : Str} {sp : Sp} {s₁ : Shared} {vs : List Value} {ns : List Int}
    (KX : K.In s₁.heap) (hns : s₁.heap.Ns mainGlobals mg) (hb : s₁.heap.Ns builtinsNs mb) (hbb : ∀ x : Str, x ≠ "__name__" → mb x = bootBuiltins x) (hlim : s₁.heap.NoLimit) (hg : s₁.gens = #[])
    (ha : s₁.heap.get? a = some { cls := .type "list", data := .seq vs.toArray }) (hi : IntsAre vs ns) (hl : ns.length ≤ sizeLine) (hr : Room k callerA)
    (F : ∀ base : Heap, K.In base → base.Ns mainGlobals mg → FnOk P w K mg base CX k fa fd [x] sp) (hbind : ∀ (s : Shared) (u : Value), BindsTo s fd ⟨[u], []⟩ [(x, u)])
    (hsp : ∀ H : Hp, Only H → SqL K H a (ns.map V.int) → sp [.ref a] H (fun v _ => v = .bl true) fun _ _ _ => False)
    (hCX : ∀ H e s', CX [] H s₁ (fun _ _ _ => False) e s' → False) :
    codeAny (model P w) callerA (.call (.ref fa) ⟨[.ref a], []⟩) (fun r s' => r = .ok (.ret (.bool true)) ∧ OldK s₁.heap s'.heap ∧ s'.os = s₁.os ∧ AllBare s'.gens) s₁ := by
  have rv := vals_ints hi
  have lenV := hi.length
  have core : ∀ H : Hp, Only H → SqL K H a (ns.map V.int) → HOk P w H s₁.heap → (∀ b, H b ≠ none → b = a) → (H a ≠ none → K.lookup a = none) →
      codeAny (model P w) callerA (.call (.ref fa) ⟨[.ref a], []⟩) (fun r s' => r = .ok (.ret (.bool true)) ∧ OldK s₁.heap s'.heap ∧ s'.os = s₁.os ∧ AllBare s'.gens) s₁ := by
    intro H hO hS hok hA hK
    have base_of : ∀ {b : Addr} {o : Obj}, s₁.heap.get? b = some o → H b = none → (hidT s₁.heap H).get? b = some o := fun e n => hidT_get e n
    have noA : ∀ {b : Addr} {o : Obj} {es : Array DictEntry} {ep : Nat}, s₁.heap.get? b = some o → o.data = .dict es ep → H b = none := fun {b o es ep} e d => by
      cases q : H b with
      | none => rfl
      | some u =>
        have e' : b = a := hA b (by rw [q]; simp)
        subst e'
        rw [ha] at e; cases e
        have d' : Data.seq vs.toArray _ = Data.dict es ep := d
        cases d'
    have nsK : ∀ {b : Addr} {m : Str → Option Value}, s₁.heap.Ns b m → (hidT s₁.heap H).Ns b m := fun {b m} ⟨o, es, ep, e, d, r⟩ => ⟨o, es, ep, base_of e (noA e d), d, r⟩
    have hKb : K.In (hidT s₁.heap H) := fun b o e => base_of (KX b o e) (by
      cases q : H b with
      | none => rfl
      | some u =>
        have e' : b = a := hA b (by rw [q]; simp)
        subst e'
        rw [hK (by rw [q]; simp)] at e; cases e)
    have hM : Mod K mg (hidT s₁.heap H) := ⟨hKb, nsK hns, ⟨mb, nsK hb, hbb⟩, let ⟨mc, h1, h2⟩ := hlim; ⟨mc, nsK h1, h2⟩⟩
    have e0 : Env0 P w K mg (hidT s₁.heap H) callerA [] s₁ H := ⟨rfl, hM, fun b o e => of_hidT e, Nat.le_of_eq (hidT_size _ _), trivial, fun b hb => absurd (show b ∈ ([] : List Addr) from hb) (by simp), hok, .of_eq hg⟩
    refine codeAny_mono ((F _ hKb (nsK hns)).run callerA [] s₁ H ⟨[.ref a], []⟩ [.ref a] [.ref a] _ _ hr e0 (hbind s₁ (.ref a)) (.cons rfl .nil) (hsp H hO hS)) fun r s' h => ?_
    cases r with
    | error e => exact (hCX H e s' h).elim
    | ok fl =>
      cases fl with
      | next => exact False.elim h
      | brk => exact False.elim h
      | cont => exact False.elim h
      | ret u =>
        obtain ⟨v, H', os, bare, un, hok', r', q⟩ := h
        have q' : v = .bl true := q
        subst q'
        obtain rfl : u = Value.bool true := r'
        refine ⟨rfl, OldK.of_keep fun b o e => ?_, os, bare⟩
        cases q : H b with
        | none => exact un.keep b o e q (by intro z; exact absurd (show b ∈ ([] : List Addr) from z) (by simp)) (by simp)
        | some u =>
          rcases hO b with z | ⟨ob, xs, z⟩
          · rw [q] at z; cases z
          · have z2 := un.frzs b ob _ z
            obtain ⟨e1, _⟩ := hok b _ z
            obtain ⟨e2, _⟩ := hok' b _ z2
            rw [e] at e1; cases e1
            exact e2
  cases hk : K.lookup a with
  | some o =>
    have e := KX a o hk
    rw [ha] at e
    cases e
    refine core (fun _ => none) (fun _ => .inl rfl) (.inr ⟨_, vs.toArray, _, hk, rfl, rfl, rfl, by rw [List.size_toArray, lenV]; exact hl, by simpa using rv⟩) (fun b u z => by have z' : (none : Option HO) = some u := z; cases z') (fun b z => absurd rfl z) fun z => absurd rfl z
  | none =>
    refine core (fun b => if b = a then some (.frz { cls := .type "list", data := .seq vs.toArray } (.lst (ns.map V.int))) else none) (fun b => ?_) (.inl (.inr ⟨{ cls := .type "list", data := .seq vs.toArray }, if_pos rfl⟩)) (fun b u z => ?_) (fun b z => ?_) fun _ => hk
    · by_cases hb : b = a
      · exact .inr ⟨_, _, if_pos hb⟩
      · exact .inl (if_neg hb)
    · by_cases hb : b = a
      · have z' := (if_pos hb).symm.trans z
        cases z'
        subst hb
        exact ⟨ha, by rw [List.length_map]; exact hl, vs, _, rv, ha⟩
      · have z' := (if_neg hb).symm.trans z
        cases z'
    · by_cases hb : b = a
      · exact hb
      · exact absurd (if_neg hb) z
end L2
namespace L2
open PySem PySem.Spec PyProof.Rows
abbrev KOf {K : PySem.W.Frag} {h : Heap} (_ : K.In h) : PySem.W.Frag := K
theorem walk_of {l : PySem.W.OpenLaw} {n k : Nat} {q : Program} {loose : List Str} {XP : (Str → Option Value) → Heap → Prop} {YP : World → Heap → Prop} {d : DefRec} {K : Params → PySem.W.Frag} {CX : World → CXT} {sp : World → Sp} {x : Str}
    (hn : l.most = some n) (hn2 : n ≤ sizeLine) (hdf : d.params.defaults = []) (hr : Room k callerA)
    (hY : ∀ (w : World) (h : Heap), YP w h → (K w.params).In h)
    (F : ∀ (w : World) (mg : Str → Option Value) (fa : Addr) (h : Heap), (K w.params).In h → h.Ns mainGlobals mg → mg d.name = some (.ref fa) →
      ∃ fd : FuncData, (∀ (s : Shared) (u : Value), BindsTo s fd ⟨[u], []⟩ [(x, u)]) ∧
        ∀ base : Heap, (K w.params).In base → base.Ns mainGlobals mg → FnOk l.prog w (K w.params) mg base (CX w) k fa fd [x] (sp w))
    (hsp : ∀ (w : World) (H : Hp) (a : Addr) (ns : List Int), ns.length ≤ n → Only H → SqL (K w.params) H a (ns.map V.int) → sp w [.ref a] H (fun v _ => v = .bl true) fun _ _ _ => False)
    (hCX : ∀ (w : World) (H : Hp) (s : Shared) (e : Value) (s' : Shared), CX w [] H s (fun _ _ _ => False) e s' → False) :
    PySem.W.WalkO q loose XP YP l.row.toRowW d [] (fun f vs => PySem.call f vs) := by
  refine Att.attach_call hn hdf fun w s₀ s₁ mg mb fa o pm cd doc a vs ns G Y ho hd hcd hmg hobj hints hlen hg => ?_
  have KX := hY w _ Y
  obtain ⟨fd, hb, hF⟩ := F w mg fa _ KX G.T.g hmg
  exact law_call KX G.T.g G.T.b G.T.builtins G.T.nolimit hg hobj hints (Nat.le_trans hlen hn2) hr hF hb (fun H hO hS => hsp w H a ns hlen hO hS) fun H e s' => hCX w H s₁ e s'
end L2
/- THE LAST THEOREM (shape; LID, My.* are yours):
   My.Adr: a structure of the addresses that your layer names (classes, functions); My.Txt K t: a structure (Prop) of the equations over K;
   My.txt_mk : {K} {implicit addresses ..} (e1 : nsIn K mainGlobals "law" = some (some (.ref f))) (e2 : K.lookup f = some ⟨oc, od, .func (fnOf "law" "law" params body scope dV kV doc pm an cdv ct), sl⟩) (e3 : codeIn K cdv "law" = true) .. : ∃ t, My.Txt K t
set_option maxRecDepth 100000 in
set_option maxHeartbeats 0 in
theorem PySem.Challenge.cw_LID_holds : PySem.Challenge.rw_LID.Holds := by
  w_on; o_law; k_head; (case hw => w_witness2)
  k_fill
  refine L2.walk_of (l := PySem.Challenge.rw_LID) (n := 63) (k := 40) (x := "script") (CX := fun w => ..) (sp := fun _ => My.sp_law) rfl (by decide) rfl ⟨rfl, by decide, by decide⟩ (fun w h Y => PySem.W.kIn_of Y) ?F ?S ?C
  case F =>
    intro w mg fa h KX G hmg
    have T : ∃ t, My.Txt (L2.KOf KX) t := by
      dsimp only [L2.KOf]                          -- K must stand as «<heap const> w.params» for k_is
      refine' My.txt_mk ?e1 ?e2 ?e3 ..
      (case e1 => PySem.W.k_is)                    -- in the order: a name -> its address -> its object -> its parts
      (case e2 => PySem.W.k_is)
      ..
    obtain ⟨t, T⟩ := T
    have e0 := hmg.symm.trans (PySem.W.mg_of KX G T.law)
    cases e0                                       -- fa is the law's own address
    exact ⟨_, fun s u => .of_eq rfl, fun base kb nb => My.law_fn T kb nb⟩     -- if «.of_eq rfl» comes too early: refine' ⟨_, ?b, fun base kb nb => My.law_fn T kb nb⟩; exact fun s u => .of_eq rfl
  case S => exact fun w H a ns hl hO hS => ..
  case C => exact ..
(the tactic k_is has no namespace: write k_is) -/
namespace L2
open PySem PySem.Spec PyProof.Rows
def inClass (s : Stmt) (j : Nat) : Stmt := match s with
  | .ClassDef _ _ _ body _ _ _ _ _ _ _ => body.getD j (.Pass ⟨0, 0, 0, 0⟩)
  | _ => .Pass ⟨0, 0, 0, 0⟩
def defArgs (s : Stmt) : Arguments := match s with
  | .FunctionDef _ a _ _ _ _ _ _ _ _ => a
  | _ => { posonlyargs := [], args := [], vararg := none, kwonlyargs := [], kw_defaults := [], kwarg := none, defaults := [] }
def defBody (s : Stmt) : List Stmt := match s with
  | .FunctionDef _ _ b _ _ _ _ _ _ _ => b
  | _ => []
def defScope (s : Stmt) : Scope := match s with
  | .FunctionDef _ _ _ _ _ _ sc _ _ _ => sc
  | _ => { kind := .function, names := [], isGenerator := false, isCoroutine := false }
abbrev CX0 : CXT := fun _ _ _ _ _ _ => False
abbrev E0 : XK := fun _ _ _ => False
structure Fun (K : PySem.W.Frag) (x qual : Str) (st : Stmt) (f : Addr) (fd : FuncData) : Prop where
  ex : ∃ (oc : Value) (od : Option Addr) (kV doc pm : Value) (an : Option Addr) (cdv ct : Value) (osl : Array (Option Value)),
    fd = PySem.W.fnOf x qual (defArgs st) (defBody st) (defScope st) .none kV doc pm an cdv ct ∧ K.lookup f = some ⟨oc, od, .func fd, osl⟩ ∧ PySem.W.codeIn K cdv qual = true
  kp : PySem.W.keepIn K (.ref f) = true
section
variable {P : Program} {w : World} {K : PySem.W.Frag} {mg : Str → Option Value} {base : Heap}
theorem Fun.ok {x qual : Str} {st : Stmt} {f : Addr} {fd : FuncData} {N ps : List Str} {k : Nat} {sp : Sp} (F : Fun K x qual st f fd) (S : FnScope N ps (defScope st)) (len : ∀ vs H Q E, sp vs H Q E → vs.length = ps.length)
    (hbody : ∀ (cdv : Value) (A : Around) (outer : List Env) (s : Shared) (H : Hp) (vs : List V) (Q : VK) (E : XK), Room k (A.deeper (envOfC qual (defScope st) s.heap.objs.size f cdv)) → sp vs H Q E →
      ∃ t, PSs (cxOf CX0 P w K mg base N qual (defScope st) f cdv A outer s H E).nox (defBody st) t ∧ t { nx := fun _ H' => Q .non H', rt := Q } (start N vs) H) : FnOk P w K mg base CX0 (k + 1) f fd ps sp := by
  obtain ⟨oc, od, kV, doc, pm, an, cdv, ct, osl, rfl, lk, hcd⟩ := F.ex
  refine fn_of lk hcd S len fun A outer s H vs Q E hr hsp => ?_
  obtain ⟨t, h, q⟩ := hbody cdv A outer s H vs Q E hr hsp
  exact ⟨t, h.nox, q⟩
theorem Fun.binds {x qual : Str} {st : Stmt} {f : Addr} {fd : FuncData} {ps : List Str} (F : Fun K x qual st f fd)
    (h : ∀ (kV doc pm : Value) (an : Option Addr) (cdv ct : Value) (us : List Value), us.length = ps.length → bindArgs (PySem.W.fnOf x qual (defArgs st) (defBody st) (defScope st) .none kV doc pm an cdv ct) ⟨us, []⟩ = pure (ps.zip us)) : Binds K fd ps [] := by
  obtain ⟨oc, od, kV, doc, pm, an, cdv, ct, osl, rfl, lk, hcd⟩ := F.ex
  exact .all (h kV doc pm an cdv ct)
theorem fun_mk {x qual : Str} {st : Stmt} {f : Addr} {oc : Value} {od an : Option Addr} {osl : Array (Option Value)} {kV doc pm cdv ct : Value} (l : K.lookup f = some ⟨oc, od, .func (PySem.W.fnOf x qual (defArgs st) (defBody st) (defScope st) .none kV doc pm an cdv ct), osl⟩)
    (c : PySem.W.codeIn K cdv qual = true) (k : PySem.W.keepIn K (.ref f) = true) : Fun K x qual st f (PySem.W.fnOf x qual (defArgs st) (defBody st) (defScope st) .none kV doc pm an cdv ct) := ⟨⟨oc, od, kV, doc, pm, an, cdv, ct, osl, rfl, l, c⟩, k⟩
end
theorem hu_of {A : Around} {k : Nat} (hr : Room k A) : A.units + 1 < cLine := Nat.lt_of_le_of_lt (Nat.add_le_add_left (by decide : 1 ≤ 64) _) hr.units
section
variable {X : Cx}
theorem pv (i : Nat) {x : Str} {pos : Pos} (hN : X.N[i]? = some x := by rfl) (hv : Vis X.env.scope x := by first | exact Or.inl rfl | exact Or.inr (Or.inl rfl) | exact Or.inr (Or.inr rfl)) (hd : (x == ("__debug__" : Str)) = false := by decide)
    (hcd : (x == ("__classdict__" : Str)) = false := by decide) : PE X (.Name x pos) (tVar i) := pe_var hN hv hd hcd
end
def Same (H H' : Hp) : Prop := ∀ b o, H b = some o → H' b = some o
theorem Same.refl (H : Hp) : Same H H := fun _ _ h => h
theorem Same.trans {H H1 H2 : Hp} (a : Same H H1) (b : Same H1 H2) : Same H H2 := fun c o h => b c o (a c o h)
theorem Same.free {H H' : Hp} (e : Same H H') {l : Addr} (h : H' l = Option.none) : H l = Option.none := by
  cases q : H l with
  | none => rfl
  | some o =>
    rw [e l o q] at h
    cases h
theorem Same.seq {K : PySem.W.Frag} {H H' : Hp} {a : Addr} {xs : List V} (e : Same H H') (h : SqL K H a xs) : SqL K H' a xs := by
  rcases h with (h | ⟨o, h⟩) | h
  · exact .inl (.inl (e _ _ h))
  · exact .inl (.inr ⟨o, e _ _ h⟩)
  · exact .inr h
end L2
set_option Elab.async false
set_option linter.all false
set_option maxRecDepth 100000
namespace L2
open PySem PySem.Spec PyProof.Rows
section
variable {κ : Type} [DecidableEq κ]
def valV (kvs : List (κ × V)) (k : κ) : Option V := (kvs.find? fun kv => decide (kv.1 = k)).map (·.2)
def putK (kvs : List (κ × V)) (k : κ) (v : V) : List (κ × V) :=
  if (kvs.any fun kv => decide (kv.1 = k)) = true then kvs.map (fun kv => if kv.1 = k then (kv.1, v) else kv) else kvs ++ [(k, v)]
def dropK (kvs : List (κ × V)) (k : κ) : List (κ × V) := kvs.filter fun kv => decide (kv.1 ≠ k)
theorem valV_nil {k : κ} : valV ([] : List (κ × V)) k = none := rfl
theorem valV_pos {p : κ × V} {r : List (κ × V)} {k : κ} (e : p.1 = k) : valV (p :: r) k = some p.2 := by simp [valV, List.find?_cons, e]
theorem valV_neg {p : κ × V} {r : List (κ × V)} {k : κ} (e : ¬ p.1 = k) : valV (p :: r) k = valV r k := by simp [valV, List.find?_cons, e]
theorem valV_any (k : κ) : ∀ kvs : List (κ × V), (kvs.any fun kv => decide (kv.1 = k)) = (valV kvs k).isSome
  | [] => rfl
  | p :: r => by
    rw [List.any_cons]
    by_cases e : p.1 = k
    · simp only [valV_pos e, decide_eq_true e, Bool.true_or, Option.isSome_some]
    · rw [valV_neg e, decide_eq_false e, Bool.false_or]; exact valV_any k r
theorem valV_map (k j : κ) (y : V) : ∀ kvs : List (κ × V), valV (kvs.map fun kv => if kv.1 = k then (kv.1, y) else kv) j = (valV kvs j).map fun x => if j = k then y else x
  | [] => rfl
  | p :: r => by
    have ih := valV_map k j y r
    rw [List.map_cons]
    by_cases h : p.1 = k
    · rw [if_pos h]
      by_cases e : p.1 = j
      · rw [valV_pos (p := (p.1, y)) e, valV_pos e, Option.map_some, if_pos (e.symm.trans h)]
      · rw [valV_neg (p := (p.1, y)) e, valV_neg e, ih]
    · rw [if_neg h]
      by_cases e : p.1 = j
      · rw [valV_pos (p := p) e, valV_pos e, Option.map_some, if_neg (fun z => h (e.trans z))]
      · rw [valV_neg (p := p) e, valV_neg e, ih]
theorem valV_snoc (k j : κ) (y : V) : ∀ kvs : List (κ × V), valV kvs k = none → valV (kvs ++ [(k, y)]) j = if j = k then some y else valV kvs j
  | [], _ => by
    by_cases e : k = j
    · rw [if_pos e.symm]; exact valV_pos (p := (k, y)) e
    · rw [if_neg (fun z => e z.symm)]; exact valV_neg (p := (k, y)) e
  | p :: r, hn => by
    rw [List.cons_append]
    have hk : ¬ p.1 = k := fun z => by rw [valV_pos z] at hn; cases hn
    rw [valV_neg hk] at hn
    have ih := valV_snoc k j y r hn
    by_cases e : p.1 = j
    · rw [valV_pos e, valV_pos e, if_neg (fun z => hk (e.trans z))]
    · rw [valV_neg e, valV_neg e, ih]
theorem valV_put (kvs : List (κ × V)) (k j : κ) (y : V) : valV (putK kvs k y) j = if j = k then some y else valV kvs j := by
  unfold putK
  by_cases a : (kvs.any fun kv => decide (kv.1 = k)) = true
  · rw [if_pos a, valV_map]
    rw [valV_any] at a
    by_cases e : j = k
    · obtain ⟨x, hx⟩ := Option.isSome_iff_exists.mp a
      rw [if_pos e, e, hx, Option.map_some, if_pos rfl]
    · rw [if_neg e]
      cases valV kvs j with
      | none => rfl
      | some x => rw [Option.map_some, if_neg e]
  · rw [if_neg a]
    refine valV_snoc k j y kvs ?_
    rw [valV_any] at a
    cases q : valV kvs k with
    | none => rfl
    | some x => rw [q] at a; exact (a rfl).elim
theorem length_putK (kvs : List (κ × V)) (k : κ) (v : V) : (putK kvs k v).length ≤ kvs.length + 1 := by
  unfold putK
  split
  · rw [List.length_map]; omega
  · rw [List.length_append, List.length_cons, List.length_nil]; omega
theorem putK_new {kvs : List (κ × V)} {k : κ} (v : V) (h : valV kvs k = none) : putK kvs k v = kvs ++ [(k, v)] := by
  unfold putK
  rw [valV_any, h]
  exact if_neg (by decide)
theorem RelO.isSome_eq {o : Option V} {u : Option Value} (r : RelO o u) : o.isSome = u.isSome := by
  cases o with
  | none => cases u with
    | none => rfl
    | some _ => exact (show False from r).elim
  | some _ => cases u with
    | none => exact (show False from r).elim
    | some _ => rfl
theorem RelO.getD {o : Option V} {u : Option Value} {d : V} {d' : Value} (r : RelO o u) (rd : RelV d d') : RelV (o.getD d) (u.getD d') := by
  cases o with
  | none => cases u with
    | none => exact rd
    | some _ => exact (show False from r).elim
  | some _ => cases u with
    | none => exact (show False from r).elim
    | some _ => exact r
theorem KV.val {kvs : List (κ × V)} {vs : List (κ × Value)} (r : KV kvs vs) (k : κ) : RelO (valV kvs k) (valueAt vs k) := by
  unfold KV at r
  induction r with
  | nil => exact True.intro
  | @cons p q ps qs h t ih =>
    obtain ⟨h1, h2⟩ := h
    by_cases e : p.1 = k
    · have e' : q.1 = k := h1.symm.trans e
      have b : valueAt (q :: qs) k = some q.2 := by simp [valueAt, List.find?_cons, e']
      rw [valV_pos e, b]; exact h2
    · have e' : ¬ q.1 = k := fun z => e (h1.trans z)
      have b : valueAt (q :: qs) k = valueAt qs k := by simp [valueAt, List.find?_cons, e']
      rw [valV_neg e, b]; exact ih
theorem KV.any {kvs : List (κ × V)} {vs : List (κ × Value)} (r : KV kvs vs) (k : κ) : (kvs.any fun kv => decide (kv.1 = k)) = vs.any fun kv => decide (kv.1 = k) := by
  unfold KV at r
  induction r with
  | nil => rfl
  | cons h t ih => rw [List.any_cons, List.any_cons, ih, h.1]
theorem KV.repl {kvs : List (κ × V)} {vs : List (κ × Value)} (r : KV kvs vs) (k : κ) {y : V} {u : Value} (ry : RelV y u) :
    KV (kvs.map fun kv => if kv.1 = k then (kv.1, y) else kv) (vs.map fun kv => if kv.1 = k then (kv.1, u) else kv) := by
  unfold KV at r ⊢
  induction r with
  | nil => exact .nil
  | @cons p q ps qs h t ih =>
    rw [List.map_cons, List.map_cons]
    refine .cons ?_ ih
    obtain ⟨h1, h2⟩ := h
    by_cases e : p.1 = k
    · rw [if_pos e, if_pos (h1.symm.trans e)]; exact ⟨h1, ry⟩
    · rw [if_neg e, if_neg (fun z => e (h1.trans z))]; exact ⟨h1, h2⟩
theorem KV.put {kvs : List (κ × V)} {vs : List (κ × Value)} (r : KV kvs vs) (k : κ) {y : V} {u : Value} (ry : RelV y u) : KV (putK kvs k y) (stored vs k u) := by
  unfold putK stored
  rw [r.any k]
  by_cases e : (vs.any fun kv => decide (kv.1 = k)) = true
  · rw [if_pos e, if_pos e]; exact r.repl k ry
  · rw [if_neg e, if_neg e]; exact Paired.snoc r ⟨rfl, ry⟩
theorem KV.drop {kvs : List (κ × V)} {vs : List (κ × Value)} (r : KV kvs vs) (k : κ) : KV (dropK kvs k) (without vs k) := by
  unfold KV at r ⊢
  unfold dropK without
  induction r with
  | nil => exact .nil
  | @cons p q ps qs h t ih =>
    obtain ⟨h1, h2⟩ := h
    rw [List.filter_cons, List.filter_cons]
    by_cases e : p.1 = k
    · have a : ¬ decide (p.1 ≠ k) = true := by simp [e]
      have b : ¬ decide (q.1 ≠ k) = true := by simp [h1.symm.trans e]
      rw [if_neg a, if_neg b]; exact ih
    · have e' : ¬ q.1 = k := fun z => e (h1.trans z)
      have a : decide (p.1 ≠ k) = true := by simp [e]
      have b : decide (q.1 ≠ k) = true := by simp [e']
      rw [if_pos a, if_pos b]; exact .cons ⟨h1, h2⟩ ih
theorem KV.keys {kvs : List (κ × V)} {vs : List (κ × Value)} (r : KV kvs vs) : kvs.map (·.1) = vs.map (·.1) := by
  unfold KV at r
  induction r with
  | nil => rfl
  | cons h t ih => rw [List.map_cons, List.map_cons, ih, h.1]
theorem KV.length {kvs : List (κ × V)} {vs : List (κ × Value)} (r : KV kvs vs) : kvs.length = vs.length := Paired.length r
theorem dropK_le (kvs : List (κ × V)) (k : κ) : (dropK kvs k).length ≤ kvs.length := List.length_filter_le _ _
end
theorem kV_is {P : Program} {w : World} {k : Key} {u : Value} (r : RelV (kV k) u) : (mixKind P w).is k u = true := by
  cases k with
  | inl i => obtain ⟨t, e⟩ := (show ∃ t, u = Value.int i t from r); subst e; exact mixKind_int P w i t
  | inr x => obtain ⟨t, e⟩ := (show ∃ t, u = Value.str x t from r); subst e; exact mixKind_str P w x t
theorem items_are {P : Program} {w : World} : ∀ {ks : List Key} {us : List Value}, Vals (ks.map kV) us → ItemsAre (mixKind P w) ks us
  | [], _, r => by rw [List.map_nil] at r; cases r; exact .nil
  | k :: ks, _, r => by
    rw [List.map_cons] at r
    cases r with
    | cons h t => exact .cons (kV_is h) (items_are t)
abbrev KT (H : Hp) : List (List Key × V) → List (List Key × Addr × Value) → Prop := Paired fun p q => p.1 = q.1 ∧ H q.2.1 = some (.tup (p.1.map kV)) ∧ RelV p.2 q.2.2
theorem KT.val {H : Hp} {kvs : List (List Key × V)} {xs : List (List Key × Addr × Value)} (r : KT H kvs xs) (k : List Key) : RelO (valV kvs k) ((atKey xs k).map (·.2)) := by
  induction r with
  | nil => exact True.intro
  | @cons p q ps qs h t ih =>
    obtain ⟨h1, _, h2⟩ := h
    by_cases e : p.1 = k
    · have e' : q.1 = k := h1.symm.trans e
      have b : atKey (q :: qs) k = some q.2 := by simp [atKey, List.find?_cons, e']
      rw [valV_pos e, b]; exact h2
    · have e' : ¬ q.1 = k := fun z => e (h1.trans z)
      have b : atKey (q :: qs) k = atKey qs k := by simp [atKey, List.find?_cons, e']
      rw [valV_neg e, b]; exact ih
theorem KT.repl {H : Hp} {kvs : List (List Key × V)} {xs : List (List Key × Addr × Value)} (r : KT H kvs xs) (k : List Key) {y : V} {u : Value} (ry : RelV y u) :
    KT H (kvs.map fun kv => if kv.1 = k then (kv.1, y) else kv) (xs.map (putAt k u)) := by
  induction r with
  | nil => exact .nil
  | @cons p q ps qs h t ih =>
    rw [List.map_cons, List.map_cons]
    refine .cons ?_ ih
    obtain ⟨h1, h2, h3⟩ := h
    unfold putAt
    by_cases e : p.1 = k
    · rw [if_pos e, if_pos (h1.symm.trans e)]; exact ⟨h1, h2, ry⟩
    · rw [if_neg e, if_neg (fun z => e (h1.trans z))]; exact ⟨h1, h2, h3⟩
theorem KT.put {H : Hp} {kvs : List (List Key × V)} {xs : List (List Key × Addr × Value)} (r : KT H kvs xs) (k : List Key) {b : Addr} {y : V} {u : Value} (hb : H b = some (.tup (k.map kV))) (ry : RelV y u) :
    KT H (putK kvs k y) (storedH xs k b u) := by
  have e : (kvs.any fun kv => decide (kv.1 = k)) = (atKey xs k).isSome := by
    rw [valV_any, (r.val k).isSome_eq, Option.isSome_map]
  unfold putK storedH
  rw [e]
  by_cases q : (atKey xs k).isSome = true
  · rw [if_pos q, if_pos q]; exact r.repl k ry
  · rw [if_neg q, if_neg q]; exact Paired.snoc r ⟨rfl, hb, ry⟩
theorem KT.keeps {H H' : Hp} {kvs : List (List Key × V)} {xs : List (List Key × Addr × Value)} (r : KT H kvs xs) (ht : ∀ b ys, H b = some (.tup ys) → H' b = some (.tup ys)) : KT H' kvs xs :=
  Paired.mapP r fun _ _ z => ⟨z.1, ht _ _ z.2.1, z.2.2⟩
section
variable {P : Program} {w : World} {H : Hp} {h : Heap} {a : Addr}
theorem rd_of {u : HO} (ok : HOk P w H h) (e : Rd H a u) : ObjOk P w H h a u := e.ok ok
theorem dk_rd {kvs : List (Key × V)} (ok : HOk P w H h) (e : Rd H a (.dK kvs)) : kvs.length ≤ sizeLine ∧ (a == sysModules) = false ∧ ∃ vs, KV kvs vs ∧ h.DictOf (mixKind P w) a vs :=
  show ObjOk P w H h a (.dK kvs) from rd_of ok e
theorem dk_of {kvs : List (Key × V)} (ok : HOk P w H h) (e : H a = some (.dK kvs)) : kvs.length ≤ sizeLine ∧ (a == sysModules) = false ∧ ∃ vs, KV kvs vs ∧ h.DictOf (mixKind P w) a vs := dk_rd ok (.inl e)
theorem key_of {ks : List Key} (ok : HOk P w H h) (e : H a = some (.tup (ks.map kV))) : (tupleKind (mixKind P w)).is h ks a := by
  obtain ⟨_, its, r, o, h1, h2, n, h3⟩ := (show ObjOk P w H h a (.tup (ks.map kV)) from ok a _ e)
  exact ⟨o, its.toArray, n, h1, h2, h3, by simpa using items_are r⟩
theorem dt_rd {kvs : List (List Key × V)} (ok : HOk P w H h) (e : Rd H a (.dT kvs)) : kvs.length ≤ sizeLine ∧ (a == sysModules) = false ∧
    ∃ xs, KT H kvs xs ∧ h.DictOfH (tupleKind (mixKind P w)) a xs := by
  obtain ⟨z, y, xs, r, o, es, ep, h1, h2, h3, h4, h5⟩ := (show ObjOk P w H h a (.dT kvs) from rd_of ok e)
  refine ⟨z, y, xs, r, o, es, ep, h1, h2, h3, h4, fun x hx => ?_, h5⟩
  have all : ∀ {l : List (List Key × V)} {m : List (List Key × Addr × Value)}, KT H l m → ∀ x ∈ m, (tupleKind (mixKind P w)).is h x.1 x.2.1 := by
    intro l m q
    induction q with
    | nil => intro x hx; exact nomatch hx
    | @cons p q ps qs hq t ih =>
      intro x hx
      rcases List.mem_cons.mp hx with e | hx
      · subst e
        exact key_of ok (by rw [← hq.1]; exact hq.2.1)
      · exact ih x hx
  exact all r x hx
theorem dt_of {kvs : List (List Key × V)} (ok : HOk P w H h) (e : H a = some (.dT kvs)) : kvs.length ≤ sizeLine ∧ (a == sysModules) = false ∧
    ∃ xs, KT H kvs xs ∧ h.DictOfH (tupleKind (mixKind P w)) a xs := dt_rd ok (.inl e)
end
def DGet (H : Hp) (a : Addr) (y : V) (r : Option V) : Prop :=
  (∃ kvs k, Rd H a (.dK kvs) ∧ y = kV k ∧ r = valV kvs k) ∨ ∃ kvs k b, Rd H a (.dT kvs) ∧ y = .ref b ∧ H b = some (.tup (k.map kV)) ∧ r = valV kvs k
def DPut (H : Hp) (a : Addr) (y v : V) (H' : Hp) : Prop :=
  (∃ kvs k, H a = some (.dK kvs) ∧ y = kV k ∧ kvs.length < sizeLine ∧ H' = upd H a (.dK (putK kvs k v))) ∨
  ∃ kvs k b, H a = some (.dT kvs) ∧ y = .ref b ∧ H b = some (.tup (k.map kV)) ∧ kvs.length < sizeLine ∧ H' = upd H a (.dT (putK kvs k v))
theorem DGet.k {H : Hp} {a : Addr} {kvs : List (Key × V)} {k : Key} (e : H a = some (.dK kvs)) : DGet H a (kV k) (valV kvs k) := .inl ⟨kvs, k, .inl e, rfl, rfl⟩
theorem DGet.t {H : Hp} {a b : Addr} {kvs : List (List Key × V)} {k : List Key} (e : H a = some (.dT kvs)) (eb : H b = some (.tup (k.map kV))) : DGet H a (.ref b) (valV kvs k) := .inr ⟨kvs, k, b, .inl e, rfl, eb, rfl⟩
theorem DPut.k {H : Hp} {a : Addr} {kvs : List (Key × V)} {k : Key} {v : V} (e : H a = some (.dK kvs)) (hl : kvs.length < sizeLine) : DPut H a (kV k) v (upd H a (.dK (putK kvs k v))) := .inl ⟨kvs, k, e, rfl, hl, rfl⟩
theorem DPut.t {H : Hp} {a b : Addr} {kvs : List (List Key × V)} {k : List Key} {v : V} (e : H a = some (.dT kvs)) (eb : H b = some (.tup (k.map kV))) (hl : kvs.length < sizeLine) :
    DPut H a (.ref b) v (upd H a (.dT (putK kvs k v))) := .inr ⟨kvs, k, b, e, rfl, eb, hl, rfl⟩
section
variable {X : Cx} {pins : List (Addr × Obj)} {σ : St} {H : Hp} {s : Shared} {a : Addr} {y v : V} {u r : Value} {o : Option V} {A : Around} {E : Value → Shared → Prop}
theorem Inv.big (I : Inv X pins σ H s) : sysModules < s.heap.objs.size := by
  have h : mainGlobals < s.heap.objs.size := (I.mod.glob.keeps I.bk).lt
  exact Nat.lt_trans (by decide) h
theorem d_getItem {Q : Value → Shared → Prop} (hu : A.units + 1 < cLine) (I : Inv X pins σ H s) (g : DGet H a y (some v)) (ry : RelV y u) (h : ∀ w' s', Inv X pins σ H s' → RelV v w' → Q w' s') :
    wpAny (model X.prog X.w) A (getItem (.ref a) u) Q E s := by
  rcases g with ⟨kvs, k, e, ey, l⟩ | ⟨kvs, k, b, e, ey, eb, l⟩
  · subst ey
    obtain ⟨z, hd, vs, rel, dd⟩ := dk_rd I.hok e
    obtain ⟨w', hw, rw'⟩ := RelO.some_of (v := v) (o := valueAt vs k) (by rw [l]; exact rel.val k)
    exact wpAny_getItem_of (kV_is ry) dd.mapOf hw (h w' _ (I.tok _) rw')
  · subst ey
    cases (show u = Value.ref b from ry)
    obtain ⟨z, hd, xs, rel, dd⟩ := dt_rd I.hok e
    obtain ⟨w', hw, rw'⟩ := RelO.some_of (v := v) (o := (atKey xs k).map (·.2)) (by rw [l]; exact rel.val k)
    obtain ⟨p, hp, hp2⟩ := Option.map_eq_some_iff.mp hw
    refine wpAny_getItem_heap (tupleKind_room_in1 hu) (key_of I.hok eb) dd hp ?_
    rw [hp2]
    exact h w' _ (I.tok _) rw'
theorem d_in {Q : Value → Shared → Prop} (hu : A.units + 1 < cLine) (I : Inv X pins σ H s) (g : DGet H a y o) (ry : RelV y u) (h : ∀ s', Inv X pins σ H s' → Q (.bool o.isSome) s') :
    wpAny (model X.prog X.w) A (compareOp .In u (.ref a)) Q E s := by
  rcases g with ⟨kvs, k, e, ey, l⟩ | ⟨kvs, k, b, e, ey, eb, l⟩
  · subst ey
    obtain ⟨z, hd, vs, rel, dd⟩ := dk_rd I.hok e
    refine wpAny_in_of (kV_is ry) hd dd.mapOf ?_
    rw [← (rel.val k).isSome_eq, ← l]
    exact h _ (I.tok _)
  · subst ey
    cases (show u = Value.ref b from ry)
    obtain ⟨z, hd, xs, rel, dd⟩ := dt_rd I.hok e
    refine wpAny_in_heap (tupleKind_room_in1 hu) (key_of I.hok eb) hd dd ?_
    have q := (rel.val k).isSome_eq
    rw [Option.isSome_map] at q
    rw [← q, ← l]
    exact h _ (I.tok _)
theorem d_notIn {Q : Value → Shared → Prop} (hu : A.units + 1 < cLine) (I : Inv X pins σ H s) (g : DGet H a y o) (ry : RelV y u) (h : ∀ s', Inv X pins σ H s' → Q (.bool (!o.isSome)) s') :
    wpAny (model X.prog X.w) A (compareOp .NotIn u (.ref a)) Q E s := by
  rcases g with ⟨kvs, k, e, ey, l⟩ | ⟨kvs, k, b, e, ey, eb, l⟩
  · subst ey
    obtain ⟨z, hd, vs, rel, dd⟩ := dk_rd I.hok e
    refine wpAny_notIn_of (kV_is ry) hd dd.mapOf ?_
    rw [← (rel.val k).isSome_eq, ← l]
    exact h _ (I.tok _)
  · subst ey
    cases (show u = Value.ref b from ry)
    obtain ⟨z, hd, xs, rel, dd⟩ := dt_rd I.hok e
    refine wpAny_notIn_heap (tupleKind_room_in1 hu) (key_of I.hok eb) hd dd ?_
    have q := (rel.val k).isSome_eq
    rw [Option.isSome_map] at q
    rw [← q, ← l]
    exact h _ (I.tok _)
theorem d_write {h' : Heap} {t' : Nat} {ob : HO} (I : Inv X pins σ H s) (mu : Mut (H a)) (hs : Heap.SameBut a s.heap h') (he : ∃ q, h'.get? a = some q) (new : ObjOk X.prog X.w (upd H a ob) h' a ob) :
    Inv X pins σ (upd H a ob) { s with heap := h', toks := t' } :=
  I.write (x := a) (e := a) mu (.inl rfl) (fun b q hb z => (hs.2 b hb).trans z) he new
theorem dk_new {P : Program} {w : World} {H' : Hp} {h' : Heap} {kvs : List (Key × V)} {vs : List (Key × Value)} (z : kvs.length ≤ sizeLine) (hd : (a == sysModules) = false) (rel : KV kvs vs) (dd : h'.DictOf (mixKind P w) a vs) :
    ObjOk P w H' h' a (.dK kvs) := ⟨z, hd, vs, rel, dd⟩
theorem d_setItem {H' : Hp} {Q : Unit → Shared → Prop} (hu : A.units + 1 < cLine) (I : Inv X pins σ H s) (g : DPut H a y v H') (ry : RelV y u) (rv : RelV v r) (h : ∀ s', Inv X pins σ H' s' → Q () s') :
    wpAny (model X.prog X.w) A (setItem (.ref a) u r) Q E s := by
  rcases g with ⟨kvs, k, e, ey, l, eH⟩ | ⟨kvs, k, b, e, ey, eb, l, eH⟩
  · subst ey eH
    obtain ⟨z, hd, vs, rel, dd⟩ := dk_of I.hok e
    have hz : vs.length ≤ sizeLine := by rw [← rel.length]; exact z
    have hl : (putK kvs k v).length ≤ sizeLine := by have := length_putK kvs k v; omega
    refine wpAny_setItem_pairs (hsz := hz) (kV_is ry) dd fun h' dd' hs => h _ ?_
    have he : ∃ q, h'.get? a = some q := let ⟨q, _, _, hq, _⟩ := dd'; ⟨q, hq⟩
    exact d_write I (by rw [e]; exact True.intro) hs he (dk_new hl hd (rel.put k rv) dd')
  · subst ey eH
    cases (show u = Value.ref b from ry)
    obtain ⟨z, hd, xs, rel, dd⟩ := dt_of I.hok e
    have hz : xs.length ≤ sizeLine := by rw [← Paired.length rel]; exact z
    have hl : (putK kvs k v).length ≤ sizeLine := by have := length_putK kvs k v; omega
    refine wpAny_setItem_heap (hsz := hz) (tupleKind_room_in1 hu) (key_of I.hok eb) dd fun h' dd' hs => h _ ?_
    obtain ⟨q, es, ep, hq, h2, h3, h4, _, h5⟩ := dd'
    refine d_write I (by rw [e]; exact True.intro) hs ⟨q, hq⟩ ⟨hl, hd, _, (rel.put k eb rv).keeps fun c ys ec => ?_, q, es, ep, hq, h2, h3, h4, h5⟩
    rw [upd_ne (ne_of ec e (fun z => nomatch z))]
    exact ec
end
section
variable {X : Cx} {pins : List (Addr × Obj)} {σ : St} {H : Hp} {s : Shared} {a : Addr} {kvs : List (Key × V)} {k : Key} {u : Value} {A : Around} {E : Value → Shared → Prop}
theorem d_pop {v : V} {more : List Value} {Q : Value → Shared → Prop} (I : Inv X pins σ H s) (e : H a = some (.dK kvs)) (ry : RelV (kV k) u) (l : valV kvs k = some v) (hm : more = [] ∨ ∃ x, more = [x])
    (h : ∀ w' s', Inv X pins σ (upd H a (.dK (dropK kvs k))) s' → RelV v w' → Q w' s') : wpAny (model X.prog X.w) A (call (.builtin "dict.pop") (.ref a :: u :: more)) Q E s := by
  obtain ⟨z, hd, vs, rel, dd⟩ := dk_of I.hok e
  obtain ⟨w', hw, rw'⟩ := RelO.some_of (v := v) (o := valueAt vs k) (by rw [← l]; exact rel.val k)
  have hp : (keyPart u).isSome = true := by
    cases k with
    | inl i => obtain ⟨t, q⟩ := (show ∃ t, u = Value.int i t from ry); subst q; rfl
    | inr x => obtain ⟨t, q⟩ := (show ∃ t, u = Value.str x t from ry); subst q; rfl
  have ha : argsOk "dict.pop" ⟨.ref a :: u :: more, []⟩ := by
    rcases hm with q | ⟨x, q⟩
    · subst q; exact PySem.F.args_dict_pop_2 _ _
    · subst q; exact PySem.F.args_dict_pop_3 _ _ _
  refine call_meetsIn PySem.F.slot_dict_pop dd.typeIs PySem.F.entry_dict_pop ha (meets_dict_pop_there (mixKind X.prog X.w) a (kV_is ry) more hm hp)
    ⟨vs, w', dd, by rw [← rel.length]; exact z, hw, fun h' dd' hs => h w' _ ?_ rw'⟩
  have he : ∃ q, h'.get? a = some q := let ⟨q, _, _, hq, _⟩ := dd'; ⟨q, hq⟩
  exact d_write I (by rw [e]; exact True.intro) hs he (dk_new (Nat.le_trans (dropK_le kvs k) z) hd (rel.drop k) dd')
theorem d_len {Q : Value → Shared → Prop} (I : Inv X pins σ H s) (e : Rd H a (.dK kvs)) (h : ∀ t s', Inv X pins σ H s' → Q (.int kvs.length t) s') : wpAny (model X.prog X.w) A (call (.builtin "len") [.ref a]) Q E s := by
  obtain ⟨z, hd, vs, rel, dd⟩ := dk_rd I.hok e
  refine call_len_dict hd dd (by rw [← rel.length]; rw [sizeLine_eq] at z; omega) ?_
  rw [← rel.length]
  exact h _ _ (I.tok _)
end
def NoSl (i : Expr) : Prop := ∀ ov iv, subscripted i false ov iv = operate [ov, iv] (getItem ov iv)
theorem subD_of {prog : Program} {w : World} {A : Around} {E : Value → Shared → Prop} {s : Shared} {env : Env} {value slice : Expr} {pos : Pos} {T id : String} {Q : Value → Shared → Prop}
    (hl : typeLookup (.type T) "__getitem__" = pure (some (.builtin id))) (hs : NoSl slice)
    (h : wpAny (model prog w) A (eval value env) (fun o s₁ => wpAny (model prog w) A (eval slice env) (fun i s₂ => s₂.TypeIs o T ∧ wpAny (model prog w) A (getItem o i) Q E s₂) E s₁) E s) :
    wpAny (model prog w) A (eval (.Subscript value slice pos) env) Q E s := by
  refine Subscript_ (wpAny_mono h (fun o s₁ h₁ => wpAny_mono h₁ (fun i s₂ h₂ => ?_) fun _ _ x => x) fun _ _ x => x)
  obtain ⟨hT, h₂⟩ := h₂
  unfold subscriptTail
  refine wpAny_bind ?_
  rw [getitemInPython_of_ne hT.not_modules]
  refine wpAny_bind (wpAny_specialOf hT hl ?_)
  have fin : wpAny (model prog w) A (subscripted slice false o i) (fun r s₃ => wpAny (model prog w) A (letTemporaryGo value o r >>= fun _ => pure r) Q E s₃) E s₂ := by
    rw [hs o i]
    exact wpAny_operating (wpAny_mono h₂ (fun r s₃ h₃ => wpAny_bind (wpAny_letTemporaryGo (wpAny_pure h₃))) fun _ _ x => x)
  first
    | exact wpAny_pure (wpAny_bind fin)
    | exact wpAny_bind (wpAny_pure (wpAny_bind fin))
    | exact wpAny_bind fin
theorem dict_typeIs {X : Cx} {pins : List (Addr × Obj)} {σ : St} {H : Hp} {s : Shared} {a : Addr} {y : V} {o : Option V} (I : Inv X pins σ H s) (g : DGet H a y o) : s.TypeIs (.ref a) "dict" := by
  rcases g with ⟨kvs, k, e, _, _⟩ | ⟨kvs, k, b, e, _, _, _⟩
  · obtain ⟨_, _, vs, _, dd⟩ := dk_rd I.hok e
    exact dd.typeIs
  · obtain ⟨_, _, xs, _, dd⟩ := dt_rd I.hok e
    exact dd.typeIs
def tDGet (td ty : TE) : TE := fun σ H Q => td σ H fun x H1 => ty σ H1 fun y H2 => ∃ a v, x = .ref a ∧ DGet H2 a y (some v) ∧ Q v H2
def tDIn (ty td : TE) : TE := fun σ H Q => ty σ H fun y H1 => td σ H1 fun x H2 => ∃ a o, x = .ref a ∧ DGet H2 a y o ∧ Q (.bl o.isSome) H2
def tDNotIn (ty td : TE) : TE := fun σ H Q => ty σ H fun y H1 => td σ H1 fun x H2 => ∃ a o, x = .ref a ∧ DGet H2 a y o ∧ Q (.bl (!o.isSome)) H2
def sDPut (td ty tv : TE) : TS := fun D σ H => tv σ H fun v H1 => td σ H1 fun x H2 => ty σ H2 fun y H3 => ∃ a H4, x = .ref a ∧ DPut H3 a y v H4 ∧ D.nx σ H4
def sDAug (td ty tv : TE) (rd : V → V → Hp → VK → Prop) : TS := fun D σ H => td σ H fun x H1 => ty σ H1 fun y H2 => ∃ a v, x = .ref a ∧ DGet H2 a y (some v) ∧
  tv σ H2 fun y2 H3 => rd v y2 H3 fun z H4 => ∃ H5, DPut H4 a y z H5 ∧ D.nx σ H5
def sDDel (td ty : TE) : TS := fun D σ H => td σ H fun x H1 => ty σ H1 fun y H2 => ∃ a kvs k, x = .ref a ∧ H2 a = some (.dK kvs) ∧ y = kV k ∧ (valV kvs k).isSome = true ∧ D.nx σ (upd H2 a (.dK (dropK kvs k)))
section
variable {X : Cx} {o i e value : Expr} {pos pos' tpos : Pos} {td ty tv : TE}
theorem pe_dget (hu : X.A.units + 1 < cLine) (ho : PE X o td) (hi : PE X i ty) (hs : NoSl i) : PE X (.Subscript o i pos) (tDGet td ty) := by
  intro pins s σ H Q I h
  refine subD_of PySem.F.slot_dict_getitem.lookup hs (thn (ho pins s σ H _ I h) fun u s1 ⟨x, H1, I1, rx, q1⟩ => thn (hi pins s1 σ H1 _ I1 q1) fun iv s2 ⟨y, H2, I2, ry, a, v, ex, g, q2⟩ => ?_)
  subst ex
  obtain rfl : u = Value.ref a := rx
  exact ⟨dict_typeIs I2 g, d_getItem hu I2 g ry fun w' s3 I3 rw' => ⟨v, H2, I3, rw', q2⟩⟩
theorem pc_din (hu : X.A.units + 1 < cLine) (hi : PE X i ty) (ho : PE X o td) : PC X .In i o (tDIn ty td) := by
  intro pins s σ H Q I h
  refine thn (hi pins s σ H _ I h) fun iv s1 ⟨y, H1, I1, ry, q1⟩ => thn (ho pins s1 σ H1 _ I1 q1) fun u s2 ⟨x, H2, I2, rx, a, ov, ex, g, q2⟩ => ?_
  subst ex
  obtain rfl : u = Value.ref a := rx
  exact d_in hu I2 g ry fun s3 I3 => ⟨.bl ov.isSome, H2, I3, rfl, q2⟩
theorem pc_dnotin (hu : X.A.units + 1 < cLine) (hi : PE X i ty) (ho : PE X o td) : PC X .NotIn i o (tDNotIn ty td) := by
  intro pins s σ H Q I h
  refine thn (hi pins s σ H _ I h) fun iv s1 ⟨y, H1, I1, ry, q1⟩ => thn (ho pins s1 σ H1 _ I1 q1) fun u s2 ⟨x, H2, I2, rx, a, ov, ex, g, q2⟩ => ?_
  subst ex
  obtain rfl : u = Value.ref a := rx
  exact d_notIn hu I2 g ry fun s3 I3 => ⟨.bl (!ov.isSome), H2, I3, rfl, q2⟩
theorem ps_dput (hu : X.A.units + 1 < cLine) (ho : PE X o td) (hi : PE X i ty) (hv : PE X value tv) (hs : swapsWith value (some (.Subscript o i pos')) pos.line X.env = pure false) :
    PS X (.Assign [.Subscript o i pos'] value pos) (sDPut td ty tv) := by
  intro pins s σ H D I h
  refine wpAny_Assign_Subscript (thn (hv pins s σ H _ I h) fun r s1 ⟨v, H1, I1, rv, q1⟩ => thn (ho pins s1 σ H1 _ I1 q1) fun u s2 ⟨x, H2, I2, rx, q2⟩ => thn (hi pins s2 σ H2 _ I2 q2) fun iv s3 ⟨y, H3, I3, ry, a, H4, ex, g, q3⟩ => ?_) hs
  subst ex
  obtain rfl : u = Value.ref a := rx
  exact d_setItem hu I3 g ry rv fun s4 I4 => ⟨σ, H4, I4, q3⟩
end
theorem dk_empty {P : Program} {w : World} {H : Hp} (h : Heap) (hb : sysModules < h.objs.size) : ObjOk P w H (h.push { cls := .type "dict", data := .dict #[] }) h.objs.size (.dK []) :=
  ⟨Nat.zero_le _, beq_eq_false_iff_ne.mpr (Ne.symm (Nat.ne_of_lt hb)), [], .nil, Heap.DictOf.new h⟩
theorem dt_empty {P : Program} {w : World} {H : Hp} (h : Heap) (hb : sysModules < h.objs.size) : ObjOk P w H (h.push { cls := .type "dict", data := .dict #[] }) h.objs.size (.dT []) :=
  ⟨Nat.zero_le _, beq_eq_false_iff_ne.mpr (Ne.symm (Nat.ne_of_lt hb)), [], .nil, _, #[], 0, Heap.get?_push_size _ rfl, ⟨rfl, rfl, rfl⟩, rfl, rfl, List.nodup_nil⟩
def tDNewK : TE := fun _ H Q => ∀ p, H p = none → Q (.ref p) (upd H p (.dK []))
def tDNewT : TE := fun _ H Q => ∀ p, H p = none → Q (.ref p) (upd H p (.dT []))
section
variable {X : Cx} {pos : Pos}
theorem pe_dnewK : PE X (.Dict [] [] pos) tDNewK := fun pins s σ H Q I h =>
  wpAny_Dict_empty ⟨.ref s.heap.objs.size, _, I.laid (a := s.heap.objs.size) (o := .dK []) (t' := s.toks) (fun _ _ q => Heap.get?_push_of_some _ q) (Nat.le_refl _) (dk_empty s.heap I.big), rfl, h _ (I.hok.fresh (Nat.le_refl _))⟩
end
def tPairs : List (TE × TE) → St → Hp → (List (V × V) → Hp → Prop) → Prop
  | [], _, H, Q => Q [] H
  | (tk, tv) :: r, σ, H, Q => tk σ H fun x H1 => tv σ H1 fun y H2 => tPairs r σ H2 fun ps H3 => Q ((x, y) :: ps) H3
abbrev VV : List (V × V) → List (Value × Value) → Prop := Paired fun p q => RelV p.1 q.1 ∧ RelV p.2 q.2
def PPs (X : Cx) (pos : Pos) (keys : List (Option Expr)) (values : List Expr) (trs : List (TE × TE)) : Prop :=
  ∀ (pins : List (Addr × Obj)) (s : Shared) (σ : St) (H : Hp) (Q : List (V × V) → Hp → Prop), Inv X pins σ H s → tPairs trs σ H Q →
    wpAny (model X.prog X.w) X.A (evalPairs (pairTrees keys values X.env pos)) (fun vs s' => ∃ ps H', Inv X pins σ H' s' ∧ VV ps vs ∧ Q ps H') X.xe s
def mergeK (kvs more : List (Key × V)) : List (Key × V) := more.foldl (fun acc kv => putK acc kv.1 kv.2) kvs
def tDisp (trs : List (TE × TE)) : TE := fun σ H Q => ∀ p, H p = none → tPairs trs σ (upd H p (.dK [])) fun ps H2 => H2 p = some (.dK []) ∧ ∃ kvs : List (Key × V), ps = kvs.map (fun kv => (kV kv.1, kv.2)) ∧ kvs.length ≤ 15 ∧ Q (.ref p) (upd H2 p (.dK (mergeK [] kvs)))
structure M1 (X : Cx) (o : Expr) (m : Str) (apos : Pos) (e : Expr) (cpos : Pos) : Prop where
  base : attributeBase o m X.env (eval o X.env) = eval o X.env
  few : ((backTo cpos (starEach [e] X.env)).all (fun x => !x.1) && (backToKw cpos (keywordEach [] X.env)).all (fun x => x.1.isSome)
    && decide (([e] : List Expr).length + ([] : List Keyword).length + (if ([] : List Keyword).isEmpty then 0 else 1) < 30)) = true
  line : (apos.endLine == cpos.line) = true
  trees : backTo cpos (starEach [e] X.env) = [(false, eval e X.env)]
structure M2 (X : Cx) (o : Expr) (m : Str) (apos : Pos) (e f : Expr) (cpos : Pos) : Prop where
  base : attributeBase o m X.env (eval o X.env) = eval o X.env
  few : ((backTo cpos (starEach [e, f] X.env)).all (fun x => !x.1) && (backToKw cpos (keywordEach [] X.env)).all (fun x => x.1.isSome)
    && decide (([e, f] : List Expr).length + ([] : List Keyword).length + (if ([] : List Keyword).isEmpty then 0 else 1) < 30)) = true
  line : (apos.endLine == cpos.line) = true
  trees : backTo cpos (starEach [e, f] X.env) = [(false, eval e X.env), (false, eval f X.env)]
def IsD (H : Hp) (a : Addr) : Prop := (∃ kvs, Rd H a (.dK kvs)) ∨ ∃ kvs, Rd H a (.dT kvs)
theorem isD_at {X : Cx} {pins : List (Addr × Obj)} {σ : St} {H : Hp} {s : Shared} {a : Addr} (I : Inv X pins σ H s) (d : IsD H a) :
    s.TypeIs (.ref a) "dict" ∧ (∀ b, Value.ref a = .ref b → ∃ ob, s.heap.get? b = some ob ∧ ob.dict = none) ∧ (a == sysModules) = false := by
  rcases d with ⟨kvs, e⟩ | ⟨kvs, e⟩
  · obtain ⟨_, hd, vs, _, dd⟩ := dk_rd I.hok e
    refine ⟨dd.typeIs, fun b q => ?_, hd⟩
    cases q
    obtain ⟨ob, _, _, h1, h2, _⟩ := dd
    exact ⟨ob, h1, h2.2.1⟩
  · obtain ⟨_, hd, xs, _, dd⟩ := dt_rd I.hok e
    refine ⟨dd.typeIs, fun b q => ?_, hd⟩
    cases q
    obtain ⟨ob, _, _, h1, h2, _⟩ := dd
    exact ⟨ob, h1, h2.2.1⟩
section
variable {X : Cx} {pins : List (Addr × Obj)} {σ : St} {H : Hp} {s : Shared} {a : Addr} {y d : V} {u r : Value} {o : Option V} {A : Around} {E : Value → Shared → Prop}
theorem d_get2 {Q : Value → Shared → Prop} (hu : A.units + 1 < cLine) (I : Inv X pins σ H s) (g : DGet H a y o) (ry : RelV y u) (rd : RelV d r) (h : ∀ w' s', Inv X pins σ H s' → RelV (o.getD d) w' → Q w' s') :
    wpAny (model X.prog X.w) A (call (.builtin "dict.get") [.ref a, u, r]) Q E s := by
  rcases g with ⟨kvs, k, e, ey, l⟩ | ⟨kvs, k, b, e, ey, eb, l⟩
  · subst ey
    obtain ⟨z, hd, vs, rel, dd⟩ := dk_rd I.hok e
    refine call_meetsIn PySem.F.slot_dict_get dd.typeIs PySem.F.entry_dict_get (PySem.F.args_dict_get_3 _ _ _) (meets_dict_get_default (mixKind X.prog X.w) a (kV_is ry) hd r) ⟨_, dd.mapOf, h _ _ (I.tok _) ?_⟩
    rw [l]
    exact (rel.val k).getD rd
  · subst ey
    cases (show u = Value.ref b from ry)
    obtain ⟨z, hd, xs, rel, dd⟩ := dt_rd I.hok e
    refine call_meetsIn PySem.F.slot_dict_get dd.typeIs PySem.F.entry_dict_get (PySem.F.args_dict_get_3 _ _ _) (meetsH_dict_get_default (tupleKind (mixKind X.prog X.w)) a b hd r) ⟨tupleKind_room_in1 hu, k, xs, key_of I.hok eb, dd, h _ _ (I.tok _) ?_⟩
    rw [l]
    exact (rel.val k).getD rd
end
def tDGet1 (td ty : TE) : TE := fun σ H Q => td σ H fun x H1 => ∃ a, x = .ref a ∧ IsD H1 a ∧ ty σ H1 fun y H2 => ∃ o, DGet H2 a y o ∧ Q (o.getD .non) H2
def tDGet2 (td ty tx : TE) : TE := fun σ H Q => td σ H fun x H1 => ∃ a, x = .ref a ∧ IsD H1 a ∧ ty σ H1 fun y H2 => tx σ H2 fun z H3 => ∃ o, DGet H3 a y o ∧ Q (o.getD z) H3
def tDPop1 (td ty : TE) : TE := fun σ H Q => td σ H fun x H1 => ∃ a, x = .ref a ∧ IsD H1 a ∧ ty σ H1 fun y H2 => ∃ kvs k v, H2 a = some (.dK kvs) ∧ y = kV k ∧ valV kvs k = some v ∧ Q v (upd H2 a (.dK (dropK kvs k)))
def tDPop2 (td ty tx : TE) : TE := fun σ H Q => td σ H fun x H1 => ∃ a, x = .ref a ∧ IsD H1 a ∧ ty σ H1 fun y H2 => tx σ H2 fun z H3 => ∃ kvs k, H3 a = some (.dK kvs) ∧ y = kV k ∧
  (∀ v, valV kvs k = some v → Q v (upd H3 a (.dK (dropK kvs k)))) ∧ (valV kvs k = none → Q z H3)
section
variable {X : Cx} {o e f : Expr} {apos cpos : Pos} {td ty tx : TE}
theorem pe_dget2 (hu : X.A.units + 1 < cLine) (ho : PE X o td) (he : PE X e ty) (hf : PE X f tx) (m : M2 X o "get" apos e f cpos) : PE X (.Call (.Attribute o "get" apos) [e, f] [] cpos) (tDGet2 td ty tx) := by
  intro pins s σ H Q I h
  refine wpAny_Call_method m.base m.few m.line PySem.F.plainAttrs_dict PySem.F.slot_dict_get PySem.F.type_dict_get (thn (ho pins s σ H _ I h) fun u s1 ⟨x, H1, I1, rx, a, ex, d, q1⟩ => ?_)
  subst ex
  obtain rfl : u = Value.ref a := rx
  obtain ⟨t1, t2, _⟩ := isD_at I1 d
  refine ⟨t1, t2, ?_⟩
  rw [m.trees]
  refine Calls.callWith_builtin rfl (Calls.evalArgs_plain (Calls.spliced_cons (thn (he pins s1 σ H1 _ I1 q1) fun iv s2 ⟨y, H2, I2, ry, q2⟩ =>
    Calls.spliced_cons (thn (hf pins s2 σ H2 _ I2 q2) fun fv s3 ⟨z, H3, I3, rz, ov, g, q3⟩ => Calls.spliced_nil ?_))))
  exact d_get2 hu I3 g ry rz fun w' s4 I4 rw' => ⟨_, H3, I4, rw', q3⟩
theorem pe_dpop1 (ho : PE X o td) (he : PE X e ty) (m : M1 X o "pop" apos e cpos) : PE X (.Call (.Attribute o "pop" apos) [e] [] cpos) (tDPop1 td ty) := by
  intro pins s σ H Q I h
  refine wpAny_Call_method m.base m.few m.line PySem.F.plainAttrs_dict PySem.F.slot_dict_pop PySem.F.type_dict_pop (thn (ho pins s σ H _ I h) fun u s1 ⟨x, H1, I1, rx, a, ex, d, q1⟩ => ?_)
  subst ex
  obtain rfl : u = Value.ref a := rx
  obtain ⟨t1, t2, _⟩ := isD_at I1 d
  refine ⟨t1, t2, ?_⟩
  rw [m.trees]
  refine Calls.callWith_builtin rfl (Calls.evalArgs_plain (Calls.spliced_cons (thn (he pins s1 σ H1 _ I1 q1) fun iv s2 ⟨y, H2, I2, ry, kvs, k, v, ea, ey, l, q2⟩ => Calls.spliced_nil ?_)))
  subst ey
  exact d_pop I2 ea ry l (.inl rfl) fun w' s3 I3 rw' => ⟨v, _, I3, rw', q2⟩
end
section
variable {X : Cx} {pins : List (Addr × Obj)} {σ : St} {H : Hp} {s : Shared} {a : Addr} {kvs : List (Key × V)} {A : Around} {E : Value → Shared → Prop}
end
section
variable {X : Cx} {pins : List (Addr × Obj)} {σ : St} {H : Hp} {s : Shared} {a : Addr} {y : V} {u : Value} {A : Around} {E : Value → Shared → Prop}
end
end L2
namespace L2
open PySem
section
variable {X : Cx}
theorem call_lenD : CallR X (.builtin "len") (fun xs H Q => ∃ a kvs, xs = [V.ref a] ∧ H a = some (.dK kvs) ∧ Q (.int kvs.length) H) := by
  intro pins s σ H xs us Q I r h
  obtain ⟨a, kvs, rfl, ha, q⟩ := h
  obtain ⟨u, rfl, ru⟩ := vals1 r
  cases ru
  exact d_len I (.inl ha) fun t s' I' => ⟨.int kvs.length, H, I', ⟨t, rfl⟩, q⟩
end
section
variable {κ : Type} [DecidableEq κ]
theorem nd_snoc : ∀ {l : List κ} {k : κ}, l.Nodup → ¬ k ∈ l → (l ++ [k]).Nodup
  | [], k, _, _ => by simp
  | a :: r, k, h, hk => by
    obtain ⟨h1, h2⟩ := List.nodup_cons.mp h
    show (a :: (r ++ [k])).Nodup
    refine List.nodup_cons.mpr ⟨fun m => ?_, nd_snoc h2 fun m => hk (List.mem_cons.mpr (Or.inr m))⟩
    rcases List.mem_append.mp m with q | q
    · exact h1 q
    · exact hk (List.mem_cons.mpr (Or.inl (List.mem_singleton.mp q).symm))
end
end L2
set_option Elab.async false
set_option linter.all false
set_option maxRecDepth 100000
namespace L2
open PySem PySem.Spec PyProof.Rows
def Its (z : Str) : It := ⟨fun i _ => i < z.cps.size, fun i H v H' => H' = H ∧ ∃ c, z.cps[i]? = some c ∧ v = .str ⟨#[c]⟩, fun i _ => i = z.cps.size⟩
theorem turn_walks {P : Program} {w : World} {K : PySem.W.Frag} {y : Str} {py : Pos} {n : Nat} {Pv : Nat → Value → Prop} {St : Nat → Heap → Prop} {it : Addr} {J : It}
    (W : ∀ A : Around, A.handled = none → Walks P w A it [it] [it] n Pv St) (hS : ∀ (A : Around) (i : Nat) (s : Shared) (Q : Value → Shared → Prop) (E : Value → Shared → Prop), St i s.heap → Q (.ref it) s → wpAny (model P w) A (pyIter (.ref it)) Q E s)
    (ho : ∀ i h, St i h → ∃ o, h.get? it = some o ∧ ∀ v, o.data ≠ .cell v) (hf : ∀ i h h', St i h → (∀ b ∈ [it], ∀ o, h.get? b = some o → h'.get? b = some o) → St i h')
    (hgo : ∀ i H, J.go i H → i < n) (hstop : ∀ i H, J.stop i H → i = n) (hy : ∀ i H v, J.go i H → Pv i v → ∃ z, RelV z v ∧ J.yld i H z H) : Turn P w K (.Name y py) J [it] it St where
  mem := by simp
  obj := fun i h st b hb => by
    obtain rfl : b = it := by simpa using hb
    exact ho i h st
  keep := hf
  item := by
    intro X hP hw hK hc i pins s σ H E I fp st hg
    subst hP hw hK
    obtain ⟨f0, f1, f2, f3, f4, f5⟩ := fp it (by simp)
    refine (W X.A (I.ok.hd hc)).item i s _ _ (hgo i H hg) st fun v h' tk hP st' k => ⟨v, rfl, ?_⟩
    obtain ⟨z, rz, yz⟩ := hy i H v hg hP
    have I1 : Inv X pins σ H { s with heap := h', toks := tk } := I.turned (fun b o hb e => k b o (by simpa using hb) e) f0 f1 f3 f4 f5
    exact wpAny_pure ⟨z, H, I1, rz, yz, st', fun b hb => (fp b hb).1⟩
  done := by
    intro X hP hw hK hc i pins s σ H E I fp st hg
    subst hP hw hK
    obtain ⟨f0, f1, f2, f3, f4, f5⟩ := fp it (by simp)
    have e := hstop i H hg
    subst e
    exact (W X.A (I.ok.hd hc)).done s _ _ st fun h' tk k => ⟨rfl, I.turned (fun b o hb e => k b o (by simpa using hb) e) f0 f1 f3 f4 f5⟩
  self := hS
section
variable {X : Cx} {y : Str} {py : Pos}
def iStr (te : TE) : TI := fun σ H R => te σ H fun v H1 => ∃ z, v = .str z ∧ R (Its z) H1
theorem its_yld {z : Str} (i : Nat) (H : Hp) (v : Value) (_ : (Its z).go i H) (h : SignAt z i v) : ∃ u, RelV u v ∧ (Its z).yld i H u H := by
  obtain ⟨c, t, e, rfl⟩ := h
  exact ⟨.str ⟨#[c]⟩, ⟨t, rfl⟩, rfl, c, e, rfl⟩
theorem pi_str {e : Expr} {te : TE} (h : PE X e te) : PI X (.Name y py) e (iStr te) := by
  intro pins s σ H R I hw
  refine thn (h pins s σ H _ I hw) fun v s1 ⟨z, H1, I1, r1, q1⟩ => ?_
  obtain ⟨z, rfl, q⟩ := q1
  obtain ⟨t, rfl⟩ := r1
  have fin : ∀ {ty : String} (o : Obj), o.data = .fields #[.str z t, .int 0 0] → o.cls = .type ty → o.isFreed = false →
      Turn X.prog X.w X.K (.Name y py) (Its z) [s1.heap.objs.size] s1.heap.objs.size (fun i h => h.IsStrIter s1.heap.objs.size ty z t i) →
      PIE X pins σ (.Name y py) R (.ref s1.heap.objs.size) { s1 with heap := s1.heap.push o } := fun {ty} o ho hc hfr T => by
    refine ⟨s1.heap.objs.size, [s1.heap.objs.size], _, Its z, H1, rfl, I1.kept (t' := s1.toks) fun b o e => Heap.get?_push_of_some _ e, T, ⟨o, Heap.get?_push_size _ hfr, hc, ho⟩, fun b hb => ?_, q⟩
    obtain rfl : b = s1.heap.objs.size := by simpa using hb
    exact I1.fpOk (Nat.le_refl _) (I1.hok.fresh (Nat.le_refl _))
  have nc : ∀ {ty : String} (i : Nat) (h : Heap), h.IsStrIter s1.heap.objs.size ty z t i → ∃ o, h.get? s1.heap.objs.size = some o ∧ ∀ v, o.data ≠ .cell v := fun i h ⟨o, e, c, d⟩ => ⟨o, e, fun v z => by rw [d] at z; cases z⟩
  have kp : ∀ {ty : String} (i : Nat) (h h' : Heap), h.IsStrIter s1.heap.objs.size ty z t i → (∀ b ∈ [s1.heap.objs.size], ∀ o, h.get? b = some o → h'.get? b = some o) → h'.IsStrIter s1.heap.objs.size ty z t i :=
    fun i h h' ⟨o, e, c, d⟩ k => ⟨o, k _ (by simp) o e, c, d⟩
  cases ha : z.cps.all (· < 128)
  · exact wpAny_pyIter_wide ha (fin _ rfl rfl rfl (turn_walks (fun A hA => Walks.strWide hA _ z t) (fun A i s Q E st h => wpAny_pyIter_striter_wide st h) nc kp (fun _ _ h => h) (fun _ _ h => h) its_yld))
  · exact wpAny_pyIter_ascii ha (fin _ rfl rfl rfl (turn_walks (fun A hA => Walks.strAscii hA _ z t) (fun A i s Q E st h => wpAny_pyIter_striter_ascii st h) nc kp (fun _ _ h => h) (fun _ _ h => h) its_yld))
end
end L2
set_option Elab.async false
set_option linter.all false
set_option maxRecDepth 100000
namespace L2
open PySem PySem.Spec PyProof.Rows
theorem comp_loop {prog : Program} {w : World} {A : Around} {R : Result → Shared → Prop} {s : Shared} {elt tg iter : Expr} {ifs : List Expr} {scope : Scope} {pos : Pos} {it acc : Value} {env : Env} (J : Nat → Shared → Prop)
    (turn : ∀ n s, J n s → wpAny (model prog w) A (pyNext it) (fun r s₁ => match r with
      | none => R (.ok .next) s₁
      | some v => wpAny (model prog w) A (letOwnedTupleGo tg it v) (fun _ s₁' => wpAny (model prog w) A (assign tg env v) (fun _ s₂ =>
          wpAny (model prog w) A (forIn ifs true fun c r => if r = true then do let ok ← isTrue c env (eval c env); pure (ForInStep.yield ok) else pure (ForInStep.yield r)) (fun ok s₃ =>
            if ok = true then wpAny (model prog w) A (eval elt env) (fun x s₄ => wpAny (model prog w) A (call (.builtin "list.append") [acc, x]) (fun _ s₅ => ∃ m, m < n ∧ J m s₅) (fun _ _ => False) s₄) (fun _ _ => False) s₃
            else ∃ m, m < n ∧ J m s₃) (fun _ _ => False) s₂) (fun _ _ => False) s₁') (fun _ _ => False) s₁) (fun _ _ => False) s)
    (n : Nat) (h : J n s) : codeAny (model prog w) A (.compLoop (.ListComp elt [⟨tg, iter, ifs, 0⟩] scope pos) 0 it acc env) R s := by
  refine codeAny_loop rfl J (fun n s hJ => ?_) n h
  show wpAny (model prog w) A (Sem.onRaise (compTurn (.ListComp elt [⟨tg, iter, ifs, 0⟩] scope pos) 0 it acc env) (fun e => do noteFrame e env; theTreesLotGoes e)) _ _ s
  refine wpAny_noted ?_
  rw [compTurn_list]
  have no : ∀ {E : Value → Shared → Prop} (a : Value) (b : Shared), False → E a b := fun _ _ z => z.elim
  refine wpAny_bind (wpAny_standAt (wpAny_bind (wpAny_mono (turn n s hJ) (fun r s₁ h₁ => ?_) no)))
  cases r with
  | none => exact wpAny_pure h₁
  | some v =>
    refine wpAny_bind (wpAny_mono h₁ (fun _ s₁' h₁ => ?_) no)
    refine wpAny_bind (wpAny_mono h₁ (fun _ s₂ h₂ => ?_) no)
    refine wpAny_bind (wpAny_mono h₂ (fun ok s₃ h₃ => ?_) no)
    cases ok with
    | false => exact wpAny_pure ⟨rfl, h₃⟩
    | true =>
      refine wpAny_bind (wpAny_bind (wpAny_mono h₃ (fun x s₄ h₄ => ?_) no))
      exact wpAny_bind (wpAny_mono h₄ (fun _ s₅ h₅ => wpAny_pure (wpAny_pure ⟨rfl, h₅⟩)) no)
abbrev Cx.blk (X : Cx) (scope : Scope) (cl : List (Str × Addr)) (C : Addr) (N : List Str) (s₀ : Shared) (H₀ : Hp) (ex : List Addr) : Cx :=
  { X with env := compEnvC scope cl C X.env, N := N, s₀ := s₀, H₀ := H₀, outer := X.stack, stack := X.stack, ex := ex, fn := fun _ => false, pn := [], xe := fun _ _ => False }
structure CSc (sc so : Scope) (x : Str) (N XN : List Str) (fr : List Nat) : Prop where
  kind : sc.kind = .function
  nocell : ∀ y ∈ sc.names, y.2 ≠ .cell
  names : ∀ y ∈ sc.names, y.2 = .local → sc.names.lookup y.1 = some .local
  hx : sc.names.lookup x = some .local
  nd : N.Nodup
  eqN : N = x :: fr.map (fun j => XN.getD j "")
  inN : ∀ j ∈ fr, j < XN.length
  fre : ∀ y ∈ sc.names, y.2 = .free → so.names.lookup y.1 = some .cell ∨ so.names.lookup y.1 = some .free
  isf : ∀ j ∈ fr, sc.names.lookup (XN.getD j "") = some .free
  cel : ∀ j ∈ fr, so.names.lookup (XN.getD j "") ≠ some .local
def closOf (env : Env) : List (Str × NameKind) → List (Str × Addr) → List (Str × Addr)
  | [], acc => acc
  | (n, k) :: r, acc => if k == .free then (match env.cells.lookup n with | some c => closOf env r ((n, c) :: acc) | none => closOf env r acc) else closOf env r acc
theorem clos_run (env : Env) : ∀ (l : List (Str × NameKind)) (acc : List (Str × Addr)), (∀ y ∈ l, y.2 = .free → ∃ c, env.cells.lookup y.1 = some c) →
    (forIn (m := Sem) l acc fun (y : Str × NameKind) (cs : List (Str × Addr)) => if y.2 == .free then do let a ← cellOf env y.1; pure (ForInStep.yield ((y.1, a) :: cs)) else pure (ForInStep.yield cs)) = pure (closOf env l acc)
  | [], acc, _ => rfl
  | (n, k) :: r, acc, h => by
    have ih := fun acc => clos_run env r acc fun y hy => h y (List.mem_cons_of_mem _ hy)
    rw [List.forIn_cons]
    by_cases hk : k = .free
    · subst hk
      obtain ⟨c, e⟩ := h (n, .free) List.mem_cons_self rfl
      simp only [cellOf, e, closOf, beq_self_eq_true, if_true]
      exact ih _
    · have hb : (k == NameKind.free) = false := by simpa using hk
      simp only [hb, closOf, Bool.false_eq_true, if_false]
      exact ih _
theorem clos_eq (env : Env) (sc : Scope) (h : ∀ y ∈ sc.names, y.2 = .free → ∃ c, env.cells.lookup y.1 = some c) : closureFor sc env = pure (closOf env sc.names []) := by
  unfold closureFor
  have e := clos_run env sc.names [] h
  exact (congrArg (fun t : Sem _ => t >>= fun cs => pure cs) e).trans rfl
theorem closOf_sub (env : Env) : ∀ (l : List (Str × NameKind)) (acc : List (Str × Addr)), (∀ y c, acc.lookup y = some c → env.cells.lookup y = some c) → ∀ y c, (closOf env l acc).lookup y = some c → env.cells.lookup y = some c
  | [], acc, h => h
  | (n, k) :: r, acc, h => by
    unfold closOf
    split
    · split
      · rename_i c e
        refine closOf_sub env r _ fun y c' q => ?_
        rw [List.lookup_cons] at q
        cases hy : y == n with
        | true =>
          rw [hy] at q
          cases q
          have : y = n := by simpa using hy
          subst this
          exact e
        | false =>
          rw [hy] at q
          exact h y c' q
      · exact closOf_sub env r acc h
    · exact closOf_sub env r acc h
theorem closOf_acc (env : Env) : ∀ (l : List (Str × NameKind)) (acc : List (Str × Addr)) (y : Str), (∃ c, acc.lookup y = some c) → ∃ c, (closOf env l acc).lookup y = some c
  | [], _, _, h => h
  | (n, k) :: r, acc, y, h => by
    unfold closOf
    split
    · split
      · refine closOf_acc env r _ y ?_
        rw [List.lookup_cons]
        cases y == n with
        | true => exact ⟨_, rfl⟩
        | false => exact h
      · exact closOf_acc env r acc y h
    · exact closOf_acc env r acc y h
theorem closOf_has (env : Env) : ∀ (l : List (Str × NameKind)) (acc : List (Str × Addr)) (y : Str), (y, NameKind.free) ∈ l → (∃ c, env.cells.lookup y = some c) → ∃ c, (closOf env l acc).lookup y = some c
  | [], _, _, h, _ => nomatch h
  | (n, k) :: r, acc, y, h, hc => by
    unfold closOf
    rcases List.mem_cons.mp h with e | hm
    · cases e
      obtain ⟨c, e⟩ := hc
      rw [if_pos (by rfl), e]
      exact closOf_acc env r _ _ ⟨c, by simp [List.lookup_cons]⟩
    · split
      · split
        · exact closOf_has env r _ y hm hc
        · exact closOf_has env r acc y hm hc
      · exact closOf_has env r acc y hm hc
def RelF (f : Str × NameKind → Str × NameKind) : Prop := ∀ p, f p = p ∨ (p.2 = .free ∧ f p = (p.1, .cell))
theorem lookup_hd {y n : Str} {k : NameKind} {r : List (Str × NameKind)} : List.lookup y ((n, k) :: r) = if y = n then some k else r.lookup y := by
  rw [List.lookup_cons]
  by_cases h : y = n
  · rw [if_pos h, show (y == n) = true by simpa using h]
  · rw [if_neg h, show (y == n) = false by simpa using h]
theorem relF_free {f : Str × NameKind → Str × NameKind} (hf : RelF f) : ∀ {names : List (Str × NameKind)} {y : Str} {k : NameKind}, (names.map f).lookup y = some k → (k = .cell ∨ k = .free) → (∀ z ∈ names, z.2 ≠ .cell) → (y, NameKind.free) ∈ names
  | [], _, _, h, _, _ => by simp at h
  | (n, j) :: r, y, k, h, hk, hc => by
    rw [List.map_cons] at h
    have go : r.lookup y = r.lookup y → (r.map f).lookup y = some k → (y, NameKind.free) ∈ (n, j) :: r := fun _ h' => List.mem_cons_of_mem _ (relF_free hf h' hk fun z hz => hc z (List.mem_cons_of_mem _ hz))
    rcases hf (n, j) with e | ⟨e1, e⟩
    · rw [e, lookup_hd] at h
      by_cases hy : y = n
      · rw [if_pos hy] at h
        cases h
        rcases hk with rfl | rfl
        · exact absurd rfl (hc (n, .cell) List.mem_cons_self)
        · rw [hy]; exact List.mem_cons_self
      · rw [if_neg hy] at h
        exact go rfl h
    · rw [e, lookup_hd] at h
      by_cases hy : y = n
      · rw [hy, show j = NameKind.free from e1]; exact List.mem_cons_self
      · rw [if_neg hy] at h
        exact go rfl h
theorem relF_isfree {f : Str × NameKind → Str × NameKind} (hf : RelF f) : ∀ {names : List (Str × NameKind)} {y : Str}, names.lookup y = some .free → (names.map f).lookup y = some .cell ∨ (names.map f).lookup y = some .free
  | [], _, h => by simp at h
  | (n, j) :: r, y, h => by
    rw [lookup_hd] at h
    rw [List.map_cons]
    rcases hf (n, j) with e | ⟨e1, e⟩
    · rw [e, lookup_hd]
      by_cases hy : y = n
      · rw [if_pos hy] at h ⊢
        cases h
        exact .inr rfl
      · rw [if_neg hy] at h ⊢
        exact relF_isfree hf h
    · rw [e, lookup_hd]
      by_cases hy : y = n
      · rw [if_pos hy]
        exact .inl rfl
      · rw [if_neg hy] at h ⊢
        exact relF_isfree hf h
theorem relF_env (env : Env) : RelF fun (n, k) => if (k == NameKind.free && env.scope.kind == .function && env.kindOf n == some .cell) then (n, NameKind.cell) else (n, k) := fun ⟨n, k⟩ => by
  by_cases h : (k == NameKind.free && env.scope.kind == .function && env.kindOf n == some .cell) = true
  · refine .inr ⟨?_, if_pos h⟩
    have h1 := (Bool.and_eq_true_iff.mp (Bool.and_eq_true_iff.mp h).1).1
    simpa using h1
  · exact .inl (if_neg h)
theorem relabel_free {env : Env} {sc : Scope} {y : Str} {k : NameKind} (h : (relabel sc env).names.lookup y = some k) (hk : k = .cell ∨ k = .free) (hc : ∀ z ∈ sc.names, z.2 ≠ .cell) : (y, NameKind.free) ∈ sc.names :=
  relF_free (relF_env env) h hk hc
theorem relabel_isfree {env : Env} {sc : Scope} {y : Str} (h : sc.names.lookup y = some .free) : (relabel sc env).names.lookup y = some .cell ∨ (relabel sc env).names.lookup y = some .free :=
  relF_isfree (relF_env env) h
end L2
set_option Elab.async false
set_option linter.all false
set_option maxRecDepth 100000
namespace L2
open PySem PySem.Spec PyProof.Rows
def PTs (X : Cx) (ifs : List Expr) (t : TT) : Prop :=
  ∀ (pins : List (Addr × Obj)) (s : Shared) (σ : St) (H : Hp) (Q : Bool → Hp → Prop), Inv X pins σ H s → t σ H Q →
    wpAny (model X.prog X.w) X.A (forIn ifs true fun c r => if r = true then do let ok ← isTrue c X.env (eval c X.env); pure (ForInStep.yield ok) else pure (ForInStep.yield r)) (TP X pins σ Q) X.xe s
def tYes : TT := fun _ H Q => Q true H
theorem pts_nil {X : Cx} : PTs X [] tYes := fun _ _ _ H _ I h => wpAny_tests_nil ⟨H, I, h⟩
def stB (fr : List Nat) (σ : St) : St := none :: fr.map fun j => (σ[j]?).join
def stB1 (x : V) (fr : List Nat) (σ : St) : St := some x :: fr.map fun j => (σ[j]?).join
def CompR (J : It) (H1 : Hp) (fr : List Nat) (σ : St) (tt : TT) (te : TE) (Q : VK) : Prop :=
  ∀ D, H1 D = none → ∃ W : Nat → Nat → List V → Hp → Prop, (∃ m, W 0 m [] (upd H1 D (.lst []))) ∧
    ∀ i m ys H2, W i m ys H2 → ((J.stop i H2 ∧ Q (.ref D) H2) ∨ (J.go i H2 ∧ ∀ x H3, J.yld i H2 x H3 → tt (stB1 x fr σ) H3 fun b H4 =>
      if b = true then te (stB1 x fr σ) H4 fun y H5 => H5 D = some (.lst ys) ∧ ys.length < sizeLine ∧ ∃ m', m' < m ∧ W (i + 1) m' (ys ++ [y]) (upd H5 D (.lst (ys ++ [y])))
      else ∃ m', m' < m ∧ W (i + 1) m' ys H4))
def tComp (wi : TI) (fr : List Nat) (tt : TT) (te : TE) : TE := fun σ H Q => wi σ H fun J H1 => CompR J H1 fr σ tt te Q
section
variable {X : Cx} {x : Str} {px : Pos} {elt iter : Expr} {ifs : List Expr} {scope : Scope} {pos : Pos} {N : List Str} {fr : List Nat} {tt : TT} {te : TE} {wi : TI}
theorem csc_has {pins : List (Addr × Obj)} {σ : St} {H : Hp} {s : Shared} (S : CSc scope X.env.scope x N X.N fr) (I : Inv X pins σ H s) : ∀ y ∈ scope.names, y.2 = .free → ∃ c, X.env.cells.lookup y.1 = some c :=
  fun y hy hf => I.ok.has y.1 (S.fre y hy hf)
theorem comp_block {pins : List (Addr × Obj)} {σ : St} {H : Hp} {s₂ : Shared} {J : It} {fp : List Addr} {it : Addr} {tn : Nat → Heap → Prop} {Q : VK} {RR : Value → Addr → Result → Shared → Prop} {E : Value → Shared → Prop}
    (hc : X.calm = true) (S : CSc scope X.env.scope x N X.N fr) (ht : ∀ cl C s₀ H₀ ex, PTs (X.blk scope cl C N s₀ H₀ ex) ifs tt) (he : ∀ cl C s₀ H₀ ex, PE (X.blk scope cl C N s₀ H₀ ex) elt te)
    (I : Inv X pins σ H s₂) (T : Turn X.prog X.w X.K (.Name x px) J fp it tn) (st : tn 0 s₂.heap) (f2 : ∀ b ∈ fp, FpOk X pins H b) (R : CompR J H fr σ tt te Q)
    (hRR : ∀ (D C : Addr) (s' : Shared) (m : Str → Option Value) (H' : Hp), Inv X pins σ H' s' → s'.heap.Ns C m → FpOk X pins H' C → Q (.ref D) H' → RR (.ref D) C (.ok .next) s') :
    wpAny (model X.prog X.w) X.A (newList []) (fun acc s₃ => wpAny (model X.prog X.w) X.A (newFunctionEnv scope X.env.globals (closOf X.env scope.names []) [] X.env.qual none .none (some X.env)) (fun cenv s₄ =>
      codeAny (model X.prog X.w) X.A (.compStart (.ListComp elt [⟨.Name x px, iter, ifs, 0⟩] scope pos) 0 (.ref it) acc { cenv with scope := relabel scope X.env }) (RR acc cenv.locals) s₄) E s₃) E s₂ := by
  refine wpAny_newObj_type (wpAny_newFunctionEnv S.nocell (by intro y hy; simp at hy) (fun h₁ hns₁ hsb₁ => ?_) S.kind)
  dsimp only at hns₁ hsb₁ ⊢
  have hD : H s₂.heap.objs.size = none := I.fresh
  have I0 : Inv X pins σ (upd H s₂.heap.objs.size (.lst [])) { s₂ with heap := s₂.heap.push { cls := .type "list", dict := none, data := .seq ([] : List Value).toArray } } := I.lnew (t' := s₂.toks) (its := []) .nil (Nat.zero_le _)
  have hGp : ∀ b o, s₂.heap.get? b = some o → (s₂.heap.push { cls := .type "list", dict := none, data := .seq ([] : List Value).toArray }).get? b = some o := fun b o e => Heap.get?_push_of_some _ e
  have hGs : (s₂.heap.push { cls := .type "list", dict := none, data := .seq ([] : List Value).toArray }).objs.size = s₂.heap.objs.size + 1 := Heap.size_push ..
  generalize hG : s₂.heap.push { cls := .type "list", dict := none, data := .seq ([] : List Value).toArray } = G at hns₁ hsb₁ I0 hGp hGs ⊢
  generalize hDD : s₂.heap.objs.size = D at hD I0 hGs ⊢
  obtain ⟨W, ⟨m0, w0⟩, turn⟩ := R D hD
  have old : ∀ b o, G.get? b = some o → h₁.get? b = some o := fun b o e => hsb₁.extBut b o (Nat.ne_of_lt (Heap.lt_size e)) (Heap.get?_push_of_some _ e)
  have sub := closOf_sub X.env scope.names [] (fun y c z => by simp at z)
  have IY : Inv (X.blk scope (closOf X.env scope.names []) G.objs.size N { s₂ with heap := G } (upd H D (.lst [])) fp) [] (stB fr σ) (upd H D (.lst [])) { s₂ with heap := h₁, toks := s₂.toks + ([] : List (Str × Value)).length } := by
    refine ⟨⟨I.ok.mod, S.kind, I.ok.glob, I.ok.blt, Nat.le_refl _, fun y z c e1 e2 => I.ok.inj y z c (sub y c e1) (sub z c e2), fun y hy => ?_, fun y c z => (nomatch z), I.ok.hd, I.ok.frames, .inl rfl, fun b hb => ⟨?_, fun y c e => (f2 b hb).2.2.2.2.1 y c (sub y c e)⟩,
      I0.bs, Nat.le_trans I.ok.bsz I0.sz, fun b o e hb => ?_, fun b hb z => ?_, I0.stack, I0.stkFree⟩, rfl, I.bare, Un.kept old, ⟨_, hns₁, fun i y v e1 e2 e3 => ?_⟩, fun y c e => ?_, I0.hok.fresh (Nat.le_refl _), fun y c e => I0.freeC y c (sub y c e), fun p hp => absurd (show p ∈ ([] : List (Addr × Obj)) from hp) (by simp), I0.hok.kept old, ?_⟩
    · have hm : (y, NameKind.free) ∈ scope.names := by
        rcases hy with hy | hy
        · exact relabel_free hy (.inl rfl) S.nocell
        · exact relabel_free hy (.inr rfl) S.nocell
      exact closOf_has X.env scope.names [] y hm (csc_has S I _ hm rfl)
    · obtain ⟨o, e, _⟩ := T.obj 0 _ st b hb
      have h1 : @LT.lt Nat _ b s₂.heap.objs.size := Heap.lt_size e
      show b ≠ G.objs.size
      intro z
      have z' : @Eq Nat b G.objs.size := z
      rw [hGs] at z'
      omega
    · rcases (f2 b hb).2.2.2.1 with z | z
      · exact I.ok.noex b o e z
      · have h1 : @LT.lt Nat _ b X.base.objs.size := Heap.lt_size e
        have h2 : @LE.le Nat _ X.base.objs.size X.s₀.heap.objs.size := I.ok.bsz
        have z' : @LE.le Nat _ X.s₀.heap.objs.size b := z
        omega
    · rcases List.mem_cons.mp (I.stkSub b z) with e | e
      · exact (f2 b hb).2.1 e
      · exact (f2 b hb).2.2.1 e
    · cases i with
      | zero => simp [stB] at e2
      | succ k =>
        have e1' : (fr.map fun j => X.N.getD j "")[k]? = some y := by
          have z : N[k + 1]? = some y := e1
          rw [S.eqN] at z
          simpa using z
        have e2' : (fr.map fun j => (σ[j]?).join)[k]? = some (some v) := by simpa [stB] using e2
        rw [List.getElem?_map] at e1' e2'
        cases hj : fr[k]? with
        | none => rw [hj] at e1'; cases e1'
        | some j =>
          rw [hj] at e1' e2'
          have ey : X.N.getD j "" = y := Option.some.inj e1'
          have ev : (σ[j]?).join = some v := Option.some.inj e2'
          have hjm : j ∈ fr := List.mem_of_getElem? hj
          have hjl := S.inN j hjm
          have eN : X.N[j]? = some y := by rw [← ey]; simp [List.getD, hjl]
          have eσ : σ[j]? = some (some v) := by
            cases q : σ[j]? with
            | none => rw [q] at ev; cases ev
            | some w => rw [q] at ev; rw [show w = some v from ev]
          have hfree : scope.names.lookup y = some .free := by rw [← ey]; exact S.isf j hjm
          have hm : (y, NameKind.free) ∈ scope.names := PySem.mem_of_lookup hfree
          obtain ⟨m, hn, hl⟩ := I.loc
          obtain ⟨u, r, l⟩ := hl j y v eN eσ (by rcases S.fre _ hm rfl with z | z; exact .inr (.inl z); exact .inr (.inr z))
          refine ⟨u, r, ?_⟩
          rcases l with ⟨k1, _⟩ | ⟨_, c, ec, o, ho, hd⟩
          · exact absurd k1 (by rw [← ey]; exact S.cel j hjm)
          · obtain ⟨c', e'⟩ := closOf_has X.env scope.names [] y hm ⟨c, ec⟩
            have e2 := sub y c' e'
            rw [ec] at e2
            cases e2
            exact .inr ⟨relabel_isfree hfree, c, e', o, old _ _ (hGp _ _ ho), hd⟩
    · obtain ⟨v, o, ho, hd⟩ := I.cell y c (sub y c e)
      exact ⟨v, o, old _ _ (hGp _ _ ho), hd⟩
    · show (stB fr σ).length = N.length
      rw [S.eqN]
      simp [stB]
  have fr0 : ∀ b ∈ fp, (upd H D (.lst [])) b = none := fun b hb => by
    obtain ⟨o, e, _⟩ := T.obj 0 _ st b hb
    rw [upd_ne (by intro z; rw [z, ← hDD] at e; exact absurd (Heap.lt_size e) (Nat.lt_irrefl _))]
    exact (f2 b hb).1
  have st₁ : tn 0 h₁ := T.keep _ _ _ st fun b _ o e => old _ _ (hGp _ _ e)
  have stat : ∀ {H' : Hp}, (∀ b ∈ fp, H' b = none) → ∀ b ∈ fp, FpOk (X.blk scope (closOf X.env scope.names []) G.objs.size N { s₂ with heap := G } (upd H D (.lst [])) fp) [] H' b := fun hn b hb =>
    ⟨hn b hb, (IY.ok.exf b hb).1, IY.ok.exfs b hb, .inl hb, (IY.ok.exf b hb).2, fun p hp => absurd (show p ∈ ([] : List (Addr × Obj)) from hp) (by simp)⟩
  have loop : codeAny (model X.prog X.w) X.A (.compLoop (.ListComp elt [⟨.Name x px, iter, ifs, 0⟩] scope pos) 0 (.ref it) (.ref D) (compEnvC scope (closOf X.env scope.names []) G.objs.size X.env)) (RR (.ref D) G.objs.size)
      { s₂ with heap := h₁, toks := s₂.toks + ([] : List (Str × Value)).length } := by
    refine comp_loop (fun n s' => ∃ i ys H', Inv (X.blk scope (closOf X.env scope.names []) G.objs.size N { s₂ with heap := G } (upd H D (.lst [])) fp) [] (stB fr σ) H' s' ∧ tn i s'.heap ∧ (∀ b ∈ fp, H' b = none) ∧ W i n ys H') ?_ m0 ⟨0, [], _, IY, st₁, fr0, w0⟩
    rintro n s3 ⟨i, ys, H3, I3, st3, fr3, w3⟩
    rcases turn i n ys H3 w3 with ⟨stop, q⟩ | ⟨go, step⟩
    · refine thn (T.done (X.blk scope (closOf X.env scope.names []) G.objs.size N { s₂ with heap := G } (upd H D (.lst [])) fp) rfl rfl rfl hc i [] s3 _ H3 _ I3 (stat fr3) st3 stop) fun r s4 ⟨hr, I4⟩ => ?_
      subst hr
      obtain ⟨m', hn', _⟩ := I4.loc
      have u : Un (frs X.stack) fp H H3 s₂.heap s4.heap := Un.trans (Un.laid hGp (Nat.le_of_eq hDD) hD) I4.base
      refine hRR D G.objs.size s4 m' H3 (I.call' I4.os u I4.hok I4.bare fun b hb => ⟨(f2 b hb).2.2.2.1, (f2 b hb).2.1, (f2 b hb).2.2.2.2.1, (f2 b hb).2.2.2.2.2⟩) hn' (I.fpOk (by omega) I4.free) q
    · refine thn (T.item (X.blk scope (closOf X.env scope.names []) G.objs.size N { s₂ with heap := G } (upd H D (.lst [])) fp) rfl rfl rfl hc i [] s3 _ H3 _ I3 (stat fr3) st3 go) fun r s4 ⟨u, hr, h4⟩ => ?_
      subst hr
      refine thn h4 fun _ s5 ⟨x', H5, I5, r5, y5, st5, fr5⟩ => ?_
      have I5' := I5.pinned (stat fr5) (T.obj _ _ st5)
      refine wpAny_assign_Name (store_ok (i := 0) I5' S.nd (by show N[0]? = some x; rw [S.eqN]; rfl) (.inl (lookup_relabel_local S.hx)) r5 (fun s6 I6 => ?_) (.inr (lookup_relabel_local S.hx)))
      have I6' : Inv (X.blk scope (closOf X.env scope.names []) G.objs.size N { s₂ with heap := G } (upd H D (.lst [])) fp) ([] ++ pinsAt fp s5.heap) (stB1 x' fr σ) H5 s6 := I6
      have again : ∀ {H8 : Hp} {s8 : Shared} {ys' : List V}, Inv (X.blk scope (closOf X.env scope.names []) G.objs.size N { s₂ with heap := G } (upd H D (.lst [])) fp) ([] ++ pinsAt fp s5.heap) (stB1 x' fr σ) H8 s8 → (∃ m', m' < n ∧ W (i + 1) m' ys' H8) →
          ∃ m, m < n ∧ ∃ i ys H', Inv (X.blk scope (closOf X.env scope.names []) G.objs.size N { s₂ with heap := G } (upd H D (.lst [])) fp) [] (stB fr σ) H' s8 ∧ tn i s8.heap ∧ (∀ b ∈ fp, H' b = none) ∧ W i m ys H' := fun {H8 s8 ys'} I8 ⟨m', hm, w8⟩ => by
        refine ⟨m', hm, i + 1, ys', H8, I8.unpinned.weak (by simp [stB, stB1]) (fun j v e => ?_), T.keep _ _ _ st5 fun b hb o e => (I8.pin (b, o) (List.mem_append_right _ (List.mem_append_right _ (mem_pinsAt hb e)))).1, fun b hb => ?_, w8⟩
        · cases j with
          | zero => simp [stB] at e
          | succ k => simpa [stB, stB1] using e
        · obtain ⟨o, e, d⟩ := T.obj _ _ st5 b hb
          exact (I8.pin (b, o) (List.mem_append_right _ (List.mem_append_right _ (mem_pinsAt hb e)))).2.1
      refine thn (ht _ _ _ _ _ _ s6 (stB1 x' fr σ) H5 _ I6' (step x' H5 y5)) fun b s7 ⟨H7, I7, q7⟩ => ?_
      cases b with
      | false => exact again I7 q7
      | true =>
        refine thn (he _ _ _ _ _ _ s7 _ H7 _ I7 q7) fun yv s8 ⟨y, H8, I8, r8, hD8, hz, q8⟩ => ?_
        refine thn (mt_append _ s8 _ H8 (.ref D) [y] (.ref D) [yv] (fun _ H9 => H9 = upd H8 D (.lst (ys ++ [y]))) I8 rfl (.cons r8 .nil) ⟨D, ys, y, rfl, rfl, hD8, hz, rfl⟩) fun _ s9 ⟨_, H9, I9, _, e9⟩ => ?_
        subst e9
        exact again I9 q8
  exact codeAny_compStart_list loop (T.self _ 0 _ _ _ st₁ loop)
theorem pe_comp (hc : X.calm = true) (S : CSc scope X.env.scope x N X.N fr) (hi : PI X (.Name x px) iter wi) (ht : ∀ cl C s₀ H₀ ex, PTs (X.blk scope cl C N s₀ H₀ ex) ifs tt) (he : ∀ cl C s₀ H₀ ex, PE (X.blk scope cl C N s₀ H₀ ex) elt te)
    (hs : ∀ v, foldedSetIterable iter X.env v = pure v := by intro _; rfl) : PE X (.ListComp elt [⟨.Name x px, iter, ifs, 0⟩] scope pos) (tComp wi fr tt te) := by
  intro pins s σ H Q I h
  rw [eval_ListComp]
  refine wpAny_comprehension_free (use := none) rfl hs (clos_eq X.env scope (csc_has S I)) S.kind S.names (thn (hi pins s σ H _ I h) fun v s1 h1 => thn h1 fun itv s2 h2 => ?_)
  obtain ⟨it, fp, tn, J, H2, e, I2, T, st2, f2, R⟩ := h2
  subst e
  refine comp_block (RR := fun acc C => compPost (model X.prog X.w) X.A X.xe none (EP X pins σ Q) acc C) hc S ht he I2 T st2 f2 R fun D C s' m H' I' hn hf q => ?_
  exact ⟨m, hn, fun h' hs' => ⟨.ref D, H', I'.turned (t' := s'.toks) (fun b o hb e => hs'.extBut b o hb e) hf.1 hf.2.1 hf.2.2.2.1 hf.2.2.2.2.1 hf.2.2.2.2.2, rfl, q⟩⟩
theorem ps_setC {i : Nat} {y : Str} {py spos : Pos} (hN : X.N.Nodup) (hi' : X.N[i]? = some y) (hy : Loc X.env.scope y) (hc : X.calm = true) (S : CSc scope X.env.scope x N X.N fr) (hi : PI X (.Name x px) iter wi)
    (ht : ∀ cl C s₀ H₀ ex, PTs (X.blk scope cl C N s₀ H₀ ex) ifs tt) (he : ∀ cl C s₀ H₀ ex, PE (X.blk scope cl C N s₀ H₀ ex) elt te)
    (hsw : swapsWith (.ListComp elt [⟨.Name x px, iter, ifs, 0⟩] scope pos) (some (.Name y py)) spos.line X.env = pure true := by rfl)
    (hs : ∀ v, foldedSetIterable iter X.env v = pure v := by intro _; rfl) (hf : X.fn y = true ∨ X.env.scope.names.lookup y = some .local := by first | exact .inl rfl | exact .inr rfl | assumption) :
    PS X (.Assign [.Name y py] (.ListComp elt [⟨.Name x px, iter, ifs, 0⟩] scope pos) spos) (tAsg (tComp wi fr tt te) (gName i)) := by
  intro pins s σ H D I h
  rw [exec_Assign_Name_used _ _ _ _ hsw]
  refine wpAny_bind (wpAny_standAt (wpAny_bind ?_))
  show wpAny (model X.prog X.w) X.A (comprehension (.ListComp elt [⟨.Name x px, iter, ifs, 0⟩] scope pos) scope X.env _ (newList []) false (eval iter X.env) (some (assign (.Name y py) X.env)) >>= fun _ => pure ()) _ _ s
  refine wpAny_bind (wpAny_mono (wpAny_comprehension_free (use := some (assign (.Name y py) X.env)) (Q := fun _ s' => SP X pins D .next s') rfl hs (clos_eq X.env scope (csc_has S I)) S.kind S.names
    (thn (hi pins s σ H _ I h) fun v s1 h1 => thn h1 fun itv s2 h2 => ?_)) (fun _ s' hq => wpAny_pure (wpAny_pure hq)) fun _ _ e => e)
  obtain ⟨it, fp, tn, J, H2, e, I2, T, st2, f2, R⟩ := h2
  subst e
  refine comp_block (RR := fun acc C => compPost (model X.prog X.w) X.A X.xe (some (assign (.Name y py) X.env)) (fun _ s' => SP X pins D .next s') acc C) hc S ht he I2 T st2 f2 R fun Dl C s' m H' I' hn hf' q => ?_
  show wpAny (model X.prog X.w) X.A (assign (.Name y py) X.env (.ref Dl)) _ _ _
  refine wpAny_assign_Name (store_ok2 I' hN hi' hy (show RelV (.ref Dl) (.ref Dl) from rfl) (fun s'' I'' ⟨a, sb, ha⟩ => ?_) hf)
  have hCa : C ≠ a := by
    rcases ha with z | z
    · rw [z]; exact hf'.2.1
    · exact fun w => hf'.2.2.2.2.1 y a z w.symm
  exact ⟨m, hn.sameBut sb hCa, fun h' hs' => ⟨_, H', I''.turned (t' := s''.toks) (fun b o hb e => hs'.extBut b o hb e) hf'.1 hf'.2.1 hf'.2.2.2.1 hf'.2.2.2.2.1 hf'.2.2.2.2.2, q⟩⟩
end
end L2
set_option Elab.async false
set_option linter.all false
set_option maxRecDepth 100000
namespace L2
open PySem PySem.Spec PyProof.Rows
abbrev tx (l : List Nat) : Str := ⟨l.toArray⟩
theorem tx_len (l : List Nat) : (tx l).length = l.length := by simp [Str.length]
theorem tx_list (l : List Nat) : (tx l).cps.toList = l := by simp [tx]
theorem tx_app (a b : List Nat) : tx a ++ tx b = tx (a ++ b) := by
  show (⟨a.toArray ++ b.toArray⟩ : Str) = ⟨(a ++ b).toArray⟩
  simp
theorem tx_inj {a b : List Nat} : tx a = tx b ↔ a = b := by simp [tx]
def cutS (z : Str) (lo hi : Option Int) : Str := Txt.slice z lo hi
def rSlS : V → Option Int → Option Int → Hp → VK → Prop := fun x lo hi H Q => ∃ z, x = .str z ∧ z.length ≤ sizeLine ∧
  ((∃ j, lo = none ∧ hi = some j ∧ 0 ≤ j ∧ Q (.str (tx (z.cps.toList.take j.toNat))) H) ∨ (∃ i, lo = some i ∧ hi = none ∧ 0 ≤ i ∧ Q (.str (tx (z.cps.toList.drop i.toNat))) H))
section
variable {X : Cx}
theorem op_in1 : OpR X (compareOp .In) (fun x y H Q => ∃ c z, x = .str ⟨#[c]⟩ ∧ y = .str z ∧ Q (.bl (decide (c ∈ z.cps.toList))) H) := by
  intro pins s σ H x y v u Q I rx ry h
  obtain ⟨c, z, rfl, rfl, q⟩ := h
  refine op_in_str pins s σ H _ _ v u Q I rx ry ⟨_, _, rfl, rfl, ?_⟩
  rw [StrLaws.found_one]
  exact q
def rStarts : V → List V → Hp → VK → Prop := fun x xs H Q => ∃ z y, x = .str z ∧ xs = [.str y] ∧ Q (.bl (Txt.startswith z y)) H
def rFind : V → List V → Hp → VK → Prop := fun x xs H Q => ∃ z y, x = .str z ∧ xs = [.str y] ∧ Q (.int (Txt.find z y)) H
theorem strsAre_of : ∀ {ys : List Str} {us : List Value}, Vals (ys.map V.str) us → StrsAre us ys
  | [], us, r => by
    cases r
    exact .nil
  | y :: ys, us, r => by
    rw [List.map_cons] at r
    cases r with
    | cons r1 r2 =>
      obtain ⟨t, rfl⟩ := r1
      exact .cons y t (strsAre_of r2)
def rJoin (K : PySem.W.Frag) : V → List V → Hp → VK → Prop := fun x xs H Q => ∃ (p : Addr) (ys : List (List Nat)), x = .str ⟨#[]⟩ ∧ xs = [.ref p] ∧ SqL K H p (ys.map fun l => V.str (tx l)) ∧ (ys.map List.length).sum ≤ 16777216 ∧ Q (.str (tx ys.flatten)) H
theorem join_codes (ys : List (List Nat)) : Txt.join ⟨#[]⟩ (ys.map tx) = tx ys.flatten := by
  unfold Txt.join
  rw [StrLaws.glued_eq_join]
  induction ys with
  | nil => rfl
  | cons a r ih =>
    cases r with
    | nil => simp [Str.join, tx]
    | cons b r =>
      show tx a ++ ⟨#[]⟩ ++ Str.join ⟨#[]⟩ ((b :: r).map tx) = _
      rw [ih, show tx a ++ (⟨#[]⟩ : Str) = tx a from (tx_app a []).trans (by rw [List.append_nil]), tx_app]
      rfl
theorem mt_join : MtR X "str.join" (rJoin X.K) := by
  intro pins s σ H x xs v us Q I rx rs h
  obtain ⟨p, ys, rfl, rfl, hq, hz, q⟩ := h
  obtain ⟨t, rfl⟩ := rx
  obtain ⟨u, rfl, hu⟩ := rs.one
  cases hu
  obtain ⟨its, r, pl, _⟩ := I.list hq
  have r' : Vals ((ys.map tx).map V.str) its := by rw [List.map_map]; exact r
  refine join_list pl.isList (strsAre_of r') ?_ fun t' k => ⟨.str (tx ys.flatten), H, I.tok _, ⟨t', ?_⟩, q⟩
  · have e : (ys.map tx).map (·.length) = ys.map List.length := by
      rw [List.map_map]
      exact List.map_congr_left fun a _ => tx_len a
    rw [e]
    show _ + _ * 0 ≤ _
    omega
  · rw [join_codes]
theorem boolsAre_of : ∀ {bs : List Bool} {us : List Value}, Vals (bs.map V.bl) us → LSm.BoolsAre us bs
  | [], us, r => by
    cases r
    exact .nil
  | b :: bs, us, r => by
    rw [List.map_cons] at r
    cases r with
    | cons r1 r2 =>
      cases r1
      exact .cons b (boolsAre_of r2)
theorem call_all (hc : X.calm = true) : CallR X (.builtin "all") (fun xs H Q => ∃ (p : Addr) (bs : List Bool), xs = [.ref p] ∧ SqL X.K H p (bs.map V.bl) ∧ Q (.bl (bs.all id)) H) := by
  intro pins s σ H xs us Q I r h
  obtain ⟨p, bs, rfl, hq, q⟩ := h
  obtain ⟨u, rfl, ru⟩ := r.one
  cases ru
  obtain ⟨its, r, pl, _⟩ := I.list hq
  have hb := boolsAre_of r
  obtain ⟨o, n, e, hcl, _, hd⟩ := id pl
  have hlt : p < s.heap.objs.size := Heap.lt_size e
  refine call_all_walk (wpAny_pyIter_list pl.isList ?_)
  refine ⟨s.heap.objs.size, [s.heap.objs.size, p], [s.heap.objs.size], its.toArray.size, _, _, fun i => (bs[i]?).getD true, rfl, Walks.list (A := X.A.in1) (I.ok.hd hc) _ p (Nat.ne_of_lt hlt) its.toArray,
    ⟨⟨_, Heap.get?_push_size _ rfl, rfl, rfl⟩, pl.isList.push _⟩, fun i v s' Q' E' hP hQ => ?_, fun h' tk hk => ?_⟩
  · obtain ⟨b, e, rfl⟩ := hb.get i v (by simpa using hP)
    simp only [e, Option.getD_some] at hQ
    exact wpAny_truthy_bool hQ
  · have e : ((List.range its.toArray.size).all fun i => (bs[i]?).getD true) = bs.all id := by
      rw [List.size_toArray, hb.length]
      exact LSm.range_all bs
    rw [e]
    exact ⟨.bl _, H, I.kept (fun b o e => hk b o (fun z => by rw [List.mem_singleton.mp z] at e; exact Nat.lt_irrefl _ (Heap.lt_size e)) (Heap.get?_push_of_some _ e)), rfl, q⟩
theorem call_isinst : CallR X (.builtin "isinstance") (fun xs H Q => ∃ x t c b, xs = [x, .ty c] ∧ TyOf X.K H x t ∧ PySem.W.kitOne X.K t (.type c) = some b ∧ Q (.bl b) H) := by
  intro pins s σ H xs us Q I r h
  obtain ⟨x, t, c, b, rfl, ty, e, q⟩ := h
  obtain ⟨u, v, rfl, ru, rv⟩ := r.two
  cases rv
  exact isinst_ok I ru ty e fun tk => ⟨.bl b, H, I.tok _, rfl, q⟩
end
theorem kit_bb (K : PySem.W.Frag) : PySem.W.kitOne K (.type "bool") (.type "bool") = some true := by rfl
theorem kit_ib (K : PySem.W.Frag) : PySem.W.kitOne K (.type "int") (.type "bool") = some false := by rfl
theorem kit_ii (K : PySem.W.Frag) : PySem.W.kitOne K (.type "int") (.type "int") = some true := by rfl
theorem kit_ll (K : PySem.W.Frag) : PySem.W.kitOne K (.type "list") (.type "list") = some true := by rfl
theorem kit_tt (K : PySem.W.Frag) : PySem.W.kitOne K (.type "tuple") (.type "tuple") = some true := by rfl
end L2
set_option Elab.async false
set_option linter.all false
set_option maxRecDepth 100000
namespace L2
open PySem PySem.Spec PyProof.Rows
theorem Same.upd_new {H H' : Hp} {a : Addr} {o : HO} (s : Same H H') (h : H a = none) : Same H (upd H' a o) := fun b u e => by
  rw [upd_ne (ne_of_none e h)]
  exact s b u e
theorem Same.new {H : Hp} {a : Addr} {o : HO} (h : H a = none) : Same H (upd H a o) := (Same.refl H).upd_new h
structure Tells (J : It) (H1 : Hp) (xs : List V) : Prop where
  go : ∀ i H, i < xs.length → Same H1 H → J.go i H
  stop : ∀ H, Same H1 H → J.stop xs.length H
  yld : ∀ i H x H', Same H1 H → i < xs.length → J.yld i H x H' → H' = H ∧ xs[i]? = some x
theorem comp_by {α : Type} {J : It} {H1 : Hp} {fr : List Nat} {σ : St} {tt : TT} {te : TE} {Q : VK} {cs : List α} {g : α → V} (T : Tells J H1 (cs.map g)) (p : α → Bool) (f : α → V) (hz : cs.length ≤ sizeLine)
    (ht : ∀ c H2 Q2, c ∈ cs → Same H1 H2 → (∀ H3, Same H2 H3 → Q2 (p c) H3) → tt (stB1 (g c) fr σ) H2 Q2)
    (he : ∀ c H2 Q2, c ∈ cs → p c = true → Same H1 H2 → (∀ H3, Same H2 H3 → Q2 (f c) H3) → te (stB1 (g c) fr σ) H2 Q2)
    (hQ : ∀ D H2, H1 D = none → Same H1 H2 → H2 D = some (.lst ((cs.filter p).map f)) → Q (.ref D) H2) : CompR J H1 fr σ tt te Q := by
  intro D hD
  have hlen : (cs.map g).length = cs.length := List.length_map ..
  refine ⟨fun i m ys H2 => m = cs.length - i ∧ i ≤ cs.length ∧ ys = ((cs.take i).filter p).map f ∧ Same H1 H2 ∧ H2 D = some (.lst ys), ⟨_, rfl, Nat.zero_le _, rfl, Same.new hD, upd_same⟩, ?_⟩
  rintro i m ys H2 ⟨rfl, hi, rfl, s2, d2⟩
  by_cases hlt : i < cs.length
  · refine .inr ⟨T.go i H2 (by rw [hlen]; exact hlt) s2, fun x H3 y => ?_⟩
    obtain ⟨rfl, hx⟩ := T.yld i H2 x H3 s2 (by rw [hlen]; exact hlt) y
    rw [List.getElem?_map] at hx
    cases hc : cs[i]? with
    | none => rw [hc] at hx; cases hx
    | some c =>
      rw [hc] at hx
      obtain rfl : g c = x := Option.some.inj hx
      have hm : c ∈ cs := List.mem_of_getElem? hc
      have tk : (cs.take (i + 1)).filter p = (cs.take i).filter p ++ (if p c then [c] else []) := take_succ_filter p cs i c hc
      refine ht c H3 _ hm s2 fun H4 s4 => ?_
      cases hp : p c with
      | false =>
        rw [hp] at tk
        refine ⟨_, ?_, rfl, hlt, by rw [tk]; simp, s2.trans s4, s4 _ _ d2⟩
        omega
      | true =>
        rw [hp] at tk
        refine he c H4 _ hm hp (s2.trans s4) fun H5 s5 => ⟨s5 _ _ (s4 _ _ d2), ?_, _, ?_, rfl, hlt, by rw [tk]; simp, ((s2.trans s4).trans s5).upd_new hD, upd_same⟩
        · have h1 := List.length_filter_le p (cs.take i)
          rw [List.length_take] at h1
          rw [List.length_map]
          omega
        · omega
  · obtain rfl : i = cs.length := by omega
    exact .inl ⟨by have := T.stop H2 s2; rw [hlen] at this; exact this, hQ D H2 hD s2 (by rw [List.take_length] at d2; exact d2)⟩
theorem tells_str {H1 : Hp} {z : Str} : Tells (Its z) H1 (z.cps.toList.map fun c => V.str ⟨#[c]⟩) where
  go := fun i H hi _ => by
    rw [List.length_map] at hi
    exact (show i < z.cps.size by simpa using hi)
  stop := fun H _ => by
    rw [List.length_map]
    exact (show z.cps.toList.length = z.cps.size by simp)
  yld := fun i H x H' _ _ y => by
    obtain ⟨e, c, hc, rfl⟩ := y
    refine ⟨e, ?_⟩
    rw [List.getElem?_map, Array.getElem?_toList, hc]
    rfl
theorem tells_range {H1 : Hp} {lo : Int} {n : Nat} : Tells (Itr lo n) H1 ((List.range n).map fun k : Nat => V.int (lo + (k : Int))) where
  go := fun i H hi _ => by
    rw [List.length_map, List.length_range] at hi
    exact hi
  stop := fun H _ => by
    rw [List.length_map, List.length_range]
    exact Nat.le_refl _
  yld := fun i H x H' _ hi y => by
    obtain ⟨e, rfl⟩ := y
    rw [List.length_map, List.length_range] at hi
    refine ⟨e, ?_⟩
    rw [List.getElem?_map, List.getElem?_range hi]
    rfl
theorem tells_list {K : PySem.W.Frag} {H1 : Hp} {a : Addr} {xs : List V} (h : SqL K H1 a xs) : Tells (Itl K a) H1 xs where
  go := fun i H hi s => ⟨xs, xs[i], s.seq h, by simp [hi]⟩
  stop := fun H s => ⟨xs, s.seq h, Nat.le_refl _⟩
  yld := fun i H x H' s _ y => ⟨y.1, y.2 xs (s.seq h)⟩
theorem comp_map {α : Type} {J : It} {H1 : Hp} {fr : List Nat} {σ : St} {te : TE} {Q : VK} {cs : List α} {g : α → V} (T : Tells J H1 (cs.map g)) (f : α → V) (hz : cs.length ≤ sizeLine)
    (he : ∀ c H2 Q2, c ∈ cs → Same H1 H2 → (∀ H3, Same H2 H3 → Q2 (f c) H3) → te (stB1 (g c) fr σ) H2 Q2)
    (hQ : ∀ D H2, H1 D = none → Same H1 H2 → H2 D = some (.lst (cs.map f)) → Q (.ref D) H2) : CompR J H1 fr σ tYes te Q :=
  comp_by T (fun _ => true) f hz (fun c H2 Q2 _ _ h => h H2 (Same.refl _)) (fun c H2 Q2 hm _ s h => he c H2 Q2 hm s h) fun D H2 hD s d => hQ D H2 hD s (by rw [List.filter_eq_self.mpr (fun _ _ => rfl)] at d; exact d)
end L2
set_option Elab.async false
set_option linter.all false
set_option maxRecDepth 100000
namespace L2
open PySem PySem.Spec PyProof.Rows
structure DefOk (K : PySem.W.Frag) (mg : Str → Option Value) (x : Str) (st : Stmt) (ps : List Str) (f : Addr) (fd : FuncData) : Prop where
  fn : Fun K x x st f fd
  b : Binds K fd ps []
  g : mg x = some (.ref f)
section
variable {X : Cx}
theorem pe_const {x : Str} {v : V} {pos : Pos} (h : ∃ u, X.mg x = some u ∧ RelV v u) (hg : Gl X x := by rfl) (hd : (x == ("__debug__" : Str)) = false := by decide) : PE X (.Name x pos) (tC v) := by
  obtain ⟨u, e, r⟩ := h
  exact pe_glob hg e r hd
theorem pe_ty {x : Str} {T : String} {pos : Pos} (hm : X.mg x = none) (hv : bootBuiltins x = some (.type T)) (hg : Gl X x := by rfl) (hn : x ≠ "__name__" := by decide) (hd : (x == ("__debug__" : Str)) = false := by decide) : PE X (.Name x pos) (tC (.ty T)) :=
  pe_bltn hg hm hv rfl hn hd
end
def cscOk (sc so : Scope) (x : Str) (N XN : List Str) (fr : List Nat) : Bool :=
  decide (sc.kind = .function) && sc.names.all (fun y => decide (y.2 ≠ .cell)) && sc.names.all (fun y => decide (y.2 = .local → sc.names.lookup y.1 = some .local)) && decide (sc.names.lookup x = some .local) && decide N.Nodup &&
  decide (N = x :: fr.map (fun j => XN.getD j "")) && fr.all (fun j => decide (j < XN.length)) && sc.names.all (fun y => decide (y.2 = .free → so.names.lookup y.1 = some .cell ∨ so.names.lookup y.1 = some .free)) &&
  fr.all (fun j => decide (sc.names.lookup (XN.getD j "") = some .free)) && fr.all (fun j => decide (so.names.lookup (XN.getD j "") ≠ some .local))
theorem CSc.of {sc so : Scope} {x : Str} {N XN : List Str} {fr : List Nat} (h : cscOk sc so x N XN fr = true) : CSc sc so x N XN fr := by
  unfold cscOk at h
  simp only [Bool.and_eq_true, List.all_eq_true, decide_eq_true_eq] at h
  obtain ⟨⟨⟨⟨⟨⟨⟨⟨⟨h1, h2⟩, h3⟩, h4⟩, h5⟩, h6⟩, h7⟩, h8⟩, h9⟩, h10⟩ := h
  exact ⟨h1, h2, h3, h4, h5, h6, h7, h8, h9, h10⟩
theorem map_get {α β : Type} {f : α → β} {l : List α} {i : Nat} {y : β} (h : (l.map f)[i]? = some y) : ∃ z, l[i]? = some z ∧ y = f z := by
  rw [List.getElem?_map] at h
  cases e : l[i]? with
  | none => rw [e] at h; cases h
  | some z => rw [e] at h; exact ⟨z, rfl, (Option.some.inj h).symm⟩
theorem take_get {α : Type} {l : List α} {i : Nat} {z : α} (h : l[i]? = some z) : l.take (i + 1) = l.take i ++ [z] := by
  rw [List.take_add_one, h]
  rfl
theorem cxOf_K {CX : CXT} {P : Program} {w : World} {K : PySem.W.Frag} {mg : Str → Option Value} {base : Heap} {N : List Str} {qual : Str} {scope : Scope} {f : Addr} {cd : Value} {A : Around} {outer : List Env} {s : Shared} {H : Hp} {E : XK} :
    (cxOf CX P w K mg base N qual scope f cd A outer s H E).K = K := rfl
def tBetw (ta tb : TE) (k : Int) : TE := fun σ H Q => ta σ H fun x H1 => tb σ H1 fun y H2 => ∃ i j, x = .int i ∧ y = .int j ∧ Q (.bl (decide (i ≤ j) && decide (j ≤ k))) H2
theorem pe_betw {X : Cx} {a b c : Expr} {ta tb : TE} {k : Int} {pos : Pos} (ha : PE X a ta) (hb : PE X b tb) (hc : PE X c (tC (.int k))) (hm : lastMarks [CmpOp.LtE, CmpOp.LtE] [b, c] = false := by with_unfolding_all rfl) :
    PE X (.Compare a [.LtE, .LtE] [b, c] pos) (tBetw ta tb k) := by
  intro pins s σ H Q I h
  refine Compare_chain (thn (ha pins s σ H _ I h) fun v s1 ⟨x, H1, I1, r1, q1⟩ => chain_link (thn (hb pins s1 σ H1 _ I1 q1) fun u s2 ⟨y, H2, I2, r2, q2⟩ => ?_)) hm
  obtain ⟨i, j, rfl, rfl, q⟩ := q2
  refine thn (op_le pins s2 σ H2 _ _ v u (fun z H3 => z = .bl (decide (i ≤ j)) ∧ H3 = H2) I2 r1 r2 ⟨i, j, rfl, rfl, rfl, rfl⟩) fun d s3 ⟨z, H3, I3, r3, e, e'⟩ => ?_
  subst e e'
  cases r3
  refine wpAny_truthy_bool ?_
  by_cases hij : i ≤ j
  · rw [decide_eq_true hij] at q ⊢
    refine ite_tt (chain_last (thn (hc pins s3 σ _ (fun z H4 => z = .int k ∧ H4 = H3) I3 ⟨rfl, rfl⟩) fun w' s4 ⟨z', H4, I4, r4, e, e'⟩ => ?_))
    subst e e'
    exact op_le pins s4 σ _ _ _ u w' Q I4 r2 r4 ⟨j, k, rfl, rfl, q⟩
  · rw [decide_eq_false hij] at q ⊢
    exact ite_ff ⟨.bl false, H3, I3, rfl, q⟩
def tBetwT (ta tb : TE) (k : Int) : TT := fun σ H Q => ta σ H fun x H1 => tb σ H1 fun y H2 => ∃ i j, x = .int i ∧ y = .int j ∧ Q (decide (i ≤ j) && decide (j ≤ k)) H2
def rTo : V → Option Int → Option Int → Hp → VK → Prop := fun x lo hi H Q => ∃ z j, x = .str z ∧ lo = none ∧ hi = some j ∧ z.length ≤ sizeLine ∧ 0 ≤ j ∧ Q (.str (tx (z.cps.toList.take j.toNat))) H
def rFr : V → Option Int → Option Int → Hp → VK → Prop := fun x lo hi H Q => ∃ z j, x = .str z ∧ lo = some j ∧ hi = none ∧ z.length ≤ sizeLine ∧ 0 ≤ j ∧ Q (.str (tx (z.cps.toList.drop j.toNat))) H
theorem starts1 (l : List Nat) (c : Nat) : Txt.startswith (tx l) (tx [c]) = decide (l.head? = some c) := by
  unfold Txt.startswith
  cases l with
  | nil => rfl
  | cons a r =>
    rw [Bool.eq_iff_iff]
    simp [Builtin.Str.subAt, Str.length, tx]
end L2
set_option Elab.async false
set_option linter.all false
set_option maxRecDepth 100000
namespace L2
open PySem
def digs : List Nat := [48, 49, 50, 51, 52, 53, 54, 55, 56, 57]
def numC (n : Int) : List Nat := (Str.ofString (toString n)).cps.toList
def figsC (l : List Nat) : Bool := decide (1 ≤ l.length ∧ l.length ≤ 60) && (!(decide (l.head? = some 48) && decide (l ≠ [48]))) && l.all fun c => decide (c ∈ digs)
def readC (l : List Nat) : Option Int :=
  if l = [45, 48] ∨ figsC (if l.head? = some 45 then l.drop 1 else l) = false then none
  else some (if l.head? = some 45 then -((NumText.digitsVal (l.drop 1) : Nat) : Int) else ((NumText.digitsVal l : Nat) : Int))
def digC (m : Nat) : List Nat := (Nat.toDigits 10 m).map Char.toNat
theorem rd_all {K : PySem.W.Frag} {H : Hp} {σ : St} {i : Nat} {cs : List Nat} {te : TE} {Q : VK} (l : List Nat) (hσ : σ[i]? = some (some (.str (tx l)))) (hz : l.length ≤ sizeLine)
    (hte : ∀ c H2 Q2, c ∈ l → Q2 (.bl (decide (c ∈ cs))) H2 → te (stB1 (.str ⟨#[c]⟩) [] σ) H2 Q2) (h : ∀ H2, Same H H2 → Q (.bl (l.all fun c => decide (c ∈ cs))) H2) :
    tComp (iStr (tVar i)) [] tYes te σ H fun x H1 => ∃ p, x = .ref p ∧ ∃ bs : List Bool, SqL K H1 p (bs.map V.bl) ∧ Q (.bl (bs.all id)) H1 := by
  refine ⟨_, hσ, _, rfl, comp_map tells_str (fun c => .bl (decide (c ∈ cs))) (by rw [tx_list]; exact hz) (fun c H2 Q2 hc _ h => hte c H2 Q2 (by rw [tx_list] at hc; exact hc) (h H2 (Same.refl _))) fun D H2 _ s2 d2 => ⟨D, rfl, l.map fun c => decide (c ∈ cs), ?_, ?_⟩⟩
  · rw [tx_list] at d2
    rw [List.map_map]
    exact SqL.of d2
  · have e : (l.map fun c => decide (c ∈ cs)).all id = l.all fun c => decide (c ∈ cs) := by
      rw [List.all_map]
      rfl
    rw [e]
    exact h H2 s2
theorem atI_zero {α : Type} {a : α} {r : List α} : atI (a :: r) 0 = some a := by
  have e := atI_nat (xs := a :: r) (j := 0) (v := a) rfl
  simpa using e
end L2
set_option Elab.async false
set_option linter.all false
set_option maxRecDepth 100000
namespace L2
open PySem PySem.Spec PyProof.Rows
abbrev veB : List Value := [.type "ValueError", .type "Exception", .type "BaseException", .type "object"]
structure XCls (K : PySem.W.Frag) (mg : Str → Option Value) (x : Str) (C : Addr) : Prop where
  g : mg x = some (.ref C)
  ex : PySem.W.excIn K C veB "ValueError.__new__" = true
theorem XCls.own {K : PySem.W.Frag} {mg : Str → Option Value} {x : Str} {C : Addr} {h : Heap} (T : XCls K mg x C) (X : K.In h) : OwnCls x C veB "ValueError.__new__" mg h := by
  refine ⟨T.g, ?_⟩
  have q := T.ex
  unfold PySem.W.excIn at q
  split at q
  · rename_i dd cd sl ho
    split at q
    · rename_i C' bm k0 k1 k2 k3 n k5 hm hs
      simp only [Bool.and_eq_true, beq_iff_eq, Bool.not_eq_true'] at q
      obtain ⟨⟨⟨⟨⟨e1, e2⟩, e3⟩, e4⟩, e5⟩, e6⟩ := q
      subst e1 e2
      obtain ⟨nm, bs, mro, ns, qn, hd, sn, sub, ab, col, del⟩ := cd
      dsimp only at hm e3 e5 e6
      subst hm e3
      obtain rfl : sl = #[k0, k1, k2, k3, some (.builtin "ValueError.__new__"), k5] := by
        obtain ⟨l⟩ := sl
        simp only at hs
        rw [hs]
      exact ⟨bm, ns, nm, qn, bs, hd, sn, sub, ab, col, dd, k0, k1, k2, k3, k5, _, X _ _ ho, .of_isNs (PySem.W.isNs_of_in X e5), PySem.W.nsMap_none_of_in X e5 e6, PySem.W.tail_of_in X e4⟩
    · cases q
  · cases q
structure Fly (P : Program) (w : World) (outer : List Env) (H : Hp) (s : Shared) (H' : Hp) (a C : Addr) (s' : Shared) : Prop where
  os : s'.os = s.os
  bare : AllBare s'.gens
  fly : ∃ a0 B, Heap.FlyingW B outer a (.ref C) a0 s'.heap ∧ HOk P w H' B ∧ (∀ b o, s.heap.get? b = some o → H b = none → b ∉ frs outer → B.get? b = some o) ∧ ∀ b o, s.heap.get? b = some o → b ∉ frs outer → ∃ o', B.get? b = some o'
  slot : ∀ b o, s.heap.get? b = some o → H b = none → b ∈ frs outer → ∃ sl, s'.heap.get? b = some { o with slots := sl }
  free : ∀ b o, s.heap.get? b = some o → H b = none → H' b = none
  tups : ∀ b xs, H b = some (.tup xs) → H' b = some (.tup xs)
  frzs : ∀ b o u, H b = some (.frz o u) → H' b = some (.frz o u)
  tbls : ∀ b ps, H b = some (.tbl ps) → ∃ more, H' b = some (.tbl (ps ++ more))
def CX1 (P : Program) (w : World) : CXT := fun outer H s E e s' => ∃ a C H', e = .ref a ∧ Fly P w outer H s H' a C s' ∧ E (.ref C) none H'
def Raises (X : Cx) (E : XK) : Prop := ∀ (pins : List (Addr × Obj)) (σ : St) (H : Hp) (s : Shared) (h' : Heap) (e C : Addr) (vs : List Value), Inv X pins σ H s → Heap.MadeExcOf s.heap h' e (.ref C) vs → E (.ref C) none H → X.xe (.ref e) { s with heap := h' }
theorem objok_stay {P : Program} {w : World} {H : Hp} {h h' : Heap} (ok : HOk P w H h) (k : ∀ b o u, H b = some u → h.get? b = some o → h'.get? b = some o) : HOk P w H h' := fun a o e =>
  (ok a o e).stay (fun b u hb q => by
    rcases hb with rfl | hb
    · exact k _ u o e q
    · exact k _ u _ hb q) (fun _ q => q) fun _ _ q => q
section
variable {P : Program} {w : World} {K : PySem.W.Frag} {mg : Str → Option Value} {base : Heap} {N : List Str} {qual : Str} {scope : Scope} {f : Addr} {cd : Value} {A : Around} {outer : List Env} {s : Shared} {H : Hp} {E : XK}
theorem raises1 : Raises (cxOf (CX1 P w) P w K mg base N qual scope f cd A outer s H E) E := by
  intro pins σ H1 s1 h' e C vs I mk q
  have hst := I.stack
  have hfr : ∀ b ∈ frs (envOfC qual scope s.heap.objs.size f cd :: outer), H1 b = none := I.stkFree
  have inF : ∀ env ∈ (envOfC qual scope s.heap.objs.size f cd :: outer), ∀ b, env.frame = some b → b ∈ frs (envOfC qual scope s.heap.objs.size f cd :: outer) := fun env he b hb => List.mem_filterMap.mpr ⟨env, he, hb⟩
  have subF : ∀ b ∈ frs outer, b ∈ frs (envOfC qual scope s.heap.objs.size f cd :: outer) := fun b hb => by
    obtain ⟨env, he, hf⟩ := List.mem_filterMap.mp hb
    exact List.mem_filterMap.mpr ⟨env, List.mem_cons_of_mem _ he, hf⟩
  have notF : ∀ b o, s.heap.get? b = some o → b ∉ frs outer → b ∉ frs (envOfC qual scope s.heap.objs.size f cd :: outer) := fun b o e1 n hb => by
    obtain ⟨env, he, hf⟩ := List.mem_filterMap.mp hb
    rcases List.mem_cons.mp he with rfl | he
    · have z : s.heap.objs.size = b := Option.some.inj hf
      exact absurd (Heap.lt_size e1) (by rw [← z]; exact Nat.lt_irrefl _)
    · exact n (List.mem_filterMap.mpr ⟨env, he, hf⟩)
  refine wpAny_leaves_madeW (base := PySem.W.hideAll s1.heap (frs (envOfC qual scope s.heap.objs.size f cd :: outer))) I.ok.frames rfl (fun b o z => PySem.W.of_hideAll _ z) (PySem.W.funFrames_hide hst inF) mk fun h2 t fl _ _ up => ?_
  refine ⟨e, C, H1, rfl, ⟨I.os, I.bare, ⟨_, _, fl, objok_stay I.hok fun b o u hu z => PySem.W.hideAll_get _ z fun hb => ?_, fun b o e1 n1 n2 => ?_, fun b o e1 n2 => ?_⟩, fun b o e1 n1 hb => ?_, fun b o e1 n1 => I.base.free b o e1 n1 (by intro z; exact absurd (show b ∈ ([] : List Addr) from z) (by simp)), I.base.tups, I.base.frzs, I.base.tbls⟩, q⟩
  · rw [hfr b hb] at hu
    cases hu
  · exact PySem.W.hideAll_get _ (I.base.keep b o e1 n1 n2 (by intro z; exact absurd (show b ∈ ([] : List Addr) from z) (by simp))) (notF b o e1 n2)
  · obtain ⟨o', e2⟩ := I.base.there b o e1 (by intro z; exact absurd (show b ∈ ([] : List Addr) from z) (by simp))
    exact ⟨o', PySem.W.hideAll_get _ e2 (notF b o e1 n2)⟩
  · obtain ⟨sl, e2⟩ := I.base.slot b o e1 n1 hb (by intro z; exact absurd (show b ∈ ([] : List Addr) from z) (by simp))
    obtain ⟨_, o2, e3, nf⟩ := hst.mem (subF b hb)
    rw [e2] at e3
    cases e3
    obtain ⟨sl2, e4⟩ := up b _ (mk.keeps b _ e2) nf
    exact ⟨sl2, e4⟩
theorem pass1 : Passes (CX1 P w) (cxOf (CX1 P w) P w K mg base N qual scope f cd A outer s H E) E := by
  intro pins σ H1 s1 e s2 I hx
  obtain ⟨a, C, H2, rfl, F, q⟩ := hx
  obtain ⟨a0, B, fl, hok, kp, th⟩ := F.fly
  have notF : ∀ b o, s.heap.get? b = some o → b ∉ frs outer → b ∉ frs (envOfC qual scope s.heap.objs.size f cd :: outer) := fun b o e1 n hb => by
    obtain ⟨env, he, hf⟩ := List.mem_filterMap.mp hb
    rcases List.mem_cons.mp he with rfl | he
    · have z : s.heap.objs.size = b := Option.some.inj hf
      exact absurd (Heap.lt_size e1) (by rw [← z]; exact Nat.lt_irrefl _)
    · exact n (List.mem_filterMap.mpr ⟨env, he, hf⟩)
  have subF : ∀ b ∈ frs outer, b ∈ frs (envOfC qual scope s.heap.objs.size f cd :: outer) := fun b hb => by
    obtain ⟨env, he, hf⟩ := List.mem_filterMap.mp hb
    exact List.mem_filterMap.mpr ⟨env, List.mem_cons_of_mem _ he, hf⟩
  have noex : ∀ b : Addr, b ∉ (cxOf (CX1 P w) P w K mg base N qual scope f cd A outer s H E).ex := fun b z => absurd (show b ∈ ([] : List Addr) from z) (by simp)
  refine wpAny_leaves_onW I.ok.frames rfl fl fun h2 fl2 up => ?_
  refine ⟨a, C, H2, rfl, ⟨F.os.trans I.os, F.bare, ⟨_, B, fl2, hok, fun b o e1 n1 n2 => ?_, fun b o e1 n2 => ?_⟩, fun b o e1 n1 hb => ?_, fun b o e1 n1 => ?_, fun b xs e1 => F.tups b xs (I.base.tups b xs e1), fun b o u e1 => F.frzs b o u (I.base.frzs b o u e1), fun b ps e1 => ?_⟩, q⟩
  · exact kp b o (I.base.keep b o e1 n1 n2 (noex b)) (I.base.free b o e1 n1 (noex b)) (notF b o e1 n2)
  · obtain ⟨o1, e2⟩ := I.base.there b o e1 (noex b)
    exact th b o1 e2 (notF b o e1 n2)
  · obtain ⟨sl, e2⟩ := I.base.slot b o e1 n1 hb (noex b)
    obtain ⟨sl2, e3⟩ := F.slot b _ e2 (I.base.free b o e1 n1 (noex b)) (subF b hb)
    obtain ⟨_, o2, e4, nf⟩ := fl.2.2.1.mem (subF b hb)
    rw [e3] at e4
    cases e4
    obtain ⟨sl3, e5⟩ := up b _ e3 nf
    exact ⟨sl3, e5⟩
  · obtain ⟨o1, e2⟩ := I.base.there b o e1 (noex b)
    exact F.free b o1 e2 (I.base.free b o e1 n1 (noex b))
  · obtain ⟨m1, e2⟩ := I.base.tbls b ps e1
    obtain ⟨m2, e3⟩ := F.tbls b _ e2
    exact ⟨m1 ++ m2, by rw [e3, Array.append_assoc]⟩
end
theorem pass0' {P : Program} {w : World} {X : Cx} : Passes (CX1 P w) X E0 := fun _ _ _ _ _ _ _ ⟨_, _, _, _, _, z⟩ => z.elim
def tRaise (E : XK) (C : Addr) (te : TE) : TS := fun _ σ H => te σ H fun _ H1 => E (.ref C) none H1
theorem ps_raise {X : Cx} {E : XK} {x : Str} {C : Addr} {e₀ : Expr} {te : TE} {np cpos pos : Pos} (T : XCls X.K X.mg x C) (hR : Raises X E) (hc : X.calm = true) (he : PE X e₀ te) (hg : Gl X x := by rfl) (hd : (x == ("__debug__" : Str)) = false := by decide)
    (hs : starEach [e₀] X.env = [(false, eval e₀ X.env)] := by rfl) : PS X (.Raise (some (.Call (.Name x np) [e₀] [] cpos)) none pos) (tRaise E C te) := by
  intro pins s σ H D I h
  obtain ⟨tl, N, nm, q, bs, hdct, sn, sub, ab, col, dd, k0, k1, k2, k3, k5, mN, hC, hN, hni, TL⟩ := (T.own I.ok.mod.kin).obj
  have FB := PySem.F.excBase_ValueError
  refine wpAny_Raise_call_subT (C := C) (nm := nm) (q := q) (N := N) (bs := bs) (bm := tl) (hdct := hdct) (sn := sn) (sub := sub) (ab := ab) (col := col) (dd := dd) (k0 := k0) (k1 := k1) (k2 := k2) (k3 := k3) (k5 := k5)
    FB (mN := mN) (TL.hasType FB.hasBase) (I.ok.hd hc) (by rw [hs]; rfl) hni (ld_glob I hg T.g ⟨rfl, ?_⟩ hd)
  have hA : PA X [e₀] (tCons te tNil) := pa_cons he pa_nil hs
  rw [hs]
  have hw := hA cpos pins s σ H (fun vs H1 => vs.length = 1 ∧ E (.ref C) none H1) I (by
    have h' : te σ H fun _ H1 => E (.ref C) none H1 := h
    show te σ H fun x H1 => ([x].length = 1 ∧ E (.ref C) none H1)
    simpa using h')
  rw [hs] at hw
  refine Calls.evalArgs_plain (thn hw fun us s2 ⟨vs, H2, I2, r2, l2, q2⟩ => ⟨rfl, ?_, I2.bk _ _ hC, hN.keeps I2.bk, TL.keeps I2.bk, fun h' e mk => hR pins σ H2 s2 h' e C us I2 mk q2⟩)
  rw [← r2.length, l2]
  decide
end L2
set_option Elab.async false
set_option linter.all false
set_option maxRecDepth 100000
namespace L2
open PySem PySem.Spec PyProof.Rows PySem.W PySem.Builtin PySem.Builtin.ObjectAttr PySem.Builtin.Getset_descriptor
structure XLook (K : Frag) (C : Addr) : Prop where
  ga : findIn K (.ref C) "__getattribute__" = some (some (.builtin "BaseException.__getattribute__"))
  gn : findIn K (.ref C) "__getattr__" = some none
  cl : findIn K (.ref C) "__class__" = some (some (.builtin "object.__class__"))
  hc : (clsIn K C).isSome = true
  hn : specialIn K (.builtin "object.__class__") "__get__" = some (some (.builtin "getset_descriptor.__get__"))
  tk : takesIn K (.builtin "object.__class__") = some true
  mo : mroIn K C (.type "object") = some true
  mb : mroIn K C (.type "BaseException") = some true
def OfCls (h : Heap) (x C : Addr) : Prop := ∃ ox, h.get? x = some ox ∧ ox.cls = .ref C
theorem OfCls.type {M : Model} {h : Heap} {x C : Addr} (I : OfCls h x C) : Looks M h (typeOf (.ref x)) (.ref C) := by
  obtain ⟨ox, e, c⟩ := I
  exact c ▸ (Looks.ld e).andThen .now
section
variable {prog : Program} {w : World} {A : Around} {E : Value → Shared → Prop} {s : Shared} {K : Frag} {x C : Addr}
end
abbrev hoExc (a C : Addr) : HO := .ext fun h => OfCls h a C
section
variable {X : Cx}
end
end L2
set_option Elab.async false
set_option linter.all false
set_option maxRecDepth 100000
namespace L2
open PySem PySem.Spec PyProof.Rows
def PEat (X : Cx) (pins : List (Addr × Obj)) (σ : St) (e : Expr) (t : TE) : Prop := ∀ (s : Shared) (H : Hp) (Q : VK), Inv X pins σ H s → t σ H Q → wpAny (model X.prog X.w) X.A (eval e X.env) (EP X pins σ Q) X.xe s
def PassesAt (CX : CXT) (X : Cx) (pins : List (Addr × Obj)) (σ : St) (E : XK) : Prop := ∀ (H : Hp) (s : Shared) (e : Value) (s' : Shared), Inv X pins σ H s → CX X.stack H s E e s' → X.xe e s'
section
variable {X : Cx} {CX : CXT} {k : Nat} {f C : Addr} {fd : FuncData} {ps : List Str} {sp : Sp} {dvs : List V} {ds : List Value} {E : XK} {x m : Str} {p pos apos : Pos} {e o : Expr} {es : List Expr} {ta : TE} {t : TA} {pins : List (Addr × Obj)} {σ : St}
end
def XPX (X : Cx) (CX : CXT) (pins : List (Addr × Obj)) (EX : St → XK) : Value → Shared → Prop := fun e s' => ∃ σ H s, Inv X pins σ H s ∧ CX X.stack H s (EX σ) e s'
abbrev TSX := Ends → (St → XK) → St → Hp → Prop
def PSX1 (CX : CXT) (X : Cx) (st : Stmt) (t : TSX) : Prop := ∀ (pins : List (Addr × Obj)) (s : Shared) (σ : St) (H : Hp) (D : Ends) (EX : St → XK), Inv X pins σ H s → t D EX σ H → wpAny (model X.prog X.w) X.A (exec st X.env) (SP X pins D) (XPX X CX pins EX) s
def PSX (CX : CXT) (X : Cx) (sts : List Stmt) (t : TSX) : Prop := ∀ (pins : List (Addr × Obj)) (s : Shared) (σ : St) (H : Hp) (D : Ends) (EX : St → XK), Inv X pins σ H s → t D EX σ H → wpAny (model X.prog X.w) X.A (execs sts X.env) (SP X pins D) (XPX X CX pins EX) s
section
variable {X : Cx} {CX : CXT} {st : Stmt} {rest : List Stmt} {t u : TSX} {e : Expr} {pos : Pos} {te : XK → TE}
def xSeq (t u : TSX) : TSX := fun D EX σ H => t { D with nx := u D EX } EX σ H
def XE (CX : CXT) (X : Cx) (e : Expr) (te : XK → TE) : Prop := ∀ (xe : Value → Shared → Prop) (pins : List (Addr × Obj)) (σ : St) (E : XK), PassesAt CX (X.wish xe) pins σ E → PEat (X.wish xe) pins σ e (te E)
end
end L2
set_option Elab.async false
set_option linter.all false
set_option maxRecDepth 100000
namespace L2
open PySem PySem.Spec PyProof.Rows
abbrev Cx.hdl (X : Cx) (a : Addr) : Cx := { X with A := X.A.mark (some (.ref a)), calm := false, xe := fun _ _ => False }
section
variable {X : Cx} {pins : List (Addr × Obj)} {σ : St} {H : Hp} {s : Shared} {a : Addr}
theorem Inv.hdl (I : Inv X pins σ H s) (a : Addr) : Inv (X.hdl a) pins σ H s :=
  ⟨⟨I.ok.mod, I.ok.kind, I.ok.glob, I.ok.blt, I.ok.above, I.ok.inj, I.ok.has, I.ok.cab, fun z => (nomatch z), I.ok.frames, I.ok.stk, I.ok.exf, I.ok.bs, I.ok.bsz, I.ok.noex, I.ok.exfs, I.ok.funs, I.ok.frf⟩, I.os, I.bare, I.base, I.loc, I.cell, I.free, I.freeC, I.pin, I.hok, I.len⟩
theorem Inv.goes {i : Nat} {n : Str} {h' : Heap} {v : Option Value} {m : Str → Option Value} {t' : Nat} (I : Inv X pins σ H s) (hN : X.N.Nodup) (hi : X.N[i]? = some n)
    (hl : ∀ (j : Nat) (x : Str) (v : V), X.N[j]? = some x → σ[j]? = some (some v) → Vis X.env.scope x → ∃ u, RelV v u ∧ Look X.env s.heap m x u)
    (hn' : h'.Ns X.env.locals (fun x => if x = n then v else m x)) (sb : Heap.SameBut X.env.locals s.heap h') : Inv X pins (σ.set i none) H { s with heap := h', toks := t' } := by
  have ne : ∀ b o, X.s₀.heap.get? b = some o → b ≠ X.env.locals := fun b o e => Nat.ne_of_lt (Nat.lt_of_lt_of_le (Heap.lt_size e) I.ok.above)
  have hcell : ∀ x c, X.env.cells.lookup x = some c → ∀ u, s.heap.IsCell c u → h'.IsCell c u := fun x c e u ⟨o, ho, hd⟩ => ⟨o, (sb.2 c (I.cne x c e)).trans ho, hd⟩
  refine ⟨I.ok, I.os, I.bare, ⟨fun b o e n hb hx => (sb.2 b (ne b o e)).trans (I.base.keep b o e n hb hx), fun b o e n hb hx => ?_, I.base.free, fun b o e hx => ?_, I.base.tups, I.base.frzs, I.base.tbls⟩, ⟨_, hn', fun j x v' e1 e2 e3 => ?_⟩, fun x c e => ?_, I.free, I.freeC, fun p hp => ?_, fun b u e => ?_, by simpa using I.len⟩
  · obtain ⟨sl, q⟩ := I.base.slot b o e n hb hx
    exact ⟨sl, (sb.2 b (ne b o e)).trans q⟩
  · obtain ⟨o', q⟩ := I.base.there b o e hx
    exact ⟨o', (sb.2 b (ne b o e)).trans q⟩
  · by_cases hj : j = i
    · subst hj
      have hl2 : j < σ.length := by
        have := (List.getElem?_eq_some_iff.mp e2).1
        simpa using this
      rw [List.getElem?_set_self hl2] at e2
      cases e2
    · rw [List.getElem?_set_ne (Ne.symm hj)] at e2
      obtain ⟨u, r, q⟩ := hl j x v' e1 e2 e3
      refine ⟨u, r, ?_⟩
      rcases q with ⟨k, q⟩ | ⟨k, c, q, z⟩
      · have hxn : x ≠ n := fun z => hj (nodup_ix hN e1 (z ▸ hi))
        exact .inl ⟨k, (if_neg hxn).trans q⟩
      · exact .inr ⟨k, c, q, hcell x c q _ z⟩
  · obtain ⟨u, z⟩ := I.cell x c e
    exact ⟨u, hcell x c e u z⟩
  · obtain ⟨e, nn, ne', nf, d⟩ := I.pin p hp
    exact ⟨(sb.2 p.1 ne').trans e, nn, ne', nf, d⟩
  · refine (I.hok b u e).stay (fun c w hc q => (sb.2 c ?_).trans q) (fun _ q => q) fun _ _ q => q
    rintro rfl
    rcases hc with z | z
    · rw [← z, I.free] at e
      cases e
    · rw [I.free] at z
      cases z
end
def tTry (Ok : Addr → Prop) (i : Nat) (tb : TSX) (th : TS) : TS := fun D σ H => tb D (fun σ' c _ H' => ∃ C, c = .ref C ∧ Ok C ∧
  ∀ a, H' a = none → th { nx := fun σ2 H2 => D.nx (σ2.set i none) H2, rt := D.rt } (σ'.set i (some (.ref a))) (upd H' a (hoExc a C))) σ H
end L2
set_option Elab.async false
set_option linter.all false
set_option maxRecDepth 100000
namespace L2
open PySem PySem.Spec PyProof.Rows
structure RoomH (k : Nat) (A : Around) : Prop where
  dp : A.depth + 3 * k + 5 < recursionLimit
  un : A.units + 16 * k + 200 < cLine
theorem Room.h {k : Nat} {A : Around} (r : Room k A) (e : Option Value) : RoomH k (A.mark e) := ⟨r.dp, r.un⟩
theorem RoomH.deeper {k : Nat} {A : Around} (r : RoomH (k + 1) A) (env : Env) : RoomH k (A.deeper env) :=
  ⟨by have := r.dp; show A.depth + 1 + 3 * k + 5 < _; omega, by have := r.un; show A.units + 3 + 16 * k + 200 < _; omega⟩
theorem RoomH.mono {j k : Nat} {A : Around} (r : RoomH k A) (h : j ≤ k) : RoomH j A := ⟨by have := r.dp; omega, by have := r.un; omega⟩
structure FnOkH (P : Program) (w : World) (K : PySem.W.Frag) (mg : Str → Option Value) (base : Heap) (k : Nat) (f : Addr) (fd : FuncData) (ps : List Str) (sp : Sp) : Prop where
  len : ∀ vs H Q E, sp vs H Q E → vs.length = ps.length
  run : ∀ (A : Around) (outer : List Env) (s : Shared) (H : Hp) (args : Args) (us : List Value) (vs : List V) (Q : VK), RoomH k A → Env0 P w K mg base A outer s H → BindsTo s fd args (ps.zip us) → Vals vs us → sp vs H Q E0 →
    codeAny (model P w) A (.call (.ref f) args) (CR CX0 outer P w H s Q E0) s
theorem FnOkH.mono {P : Program} {w : World} {K : PySem.W.Frag} {mg : Str → Option Value} {base : Heap} {j k : Nat} {f : Addr} {fd : FuncData} {ps : List Str} {sp : Sp} (F : FnOkH P w K mg base j f fd ps sp) (h : j ≤ k) : FnOkH P w K mg base k f fd ps sp :=
  ⟨F.len, fun A outer s H args us vs Q hr => F.run A outer s H args us vs Q (hr.mono h)⟩
def cxH (P : Program) (w : World) (K : PySem.W.Frag) (mg : Str → Option Value) (base : Heap) (N : List Str) (qual : Str) (scope : Scope) (f : Addr) (cd : Value) (A : Around) (outer : List Env) (s : Shared) (H : Hp) : Cx :=
  { cxOf CX0 P w K mg base N qual scope f cd A outer s H E0 with calm := false, xe := fun _ _ => False }
section
variable {P : Program} {w : World} {K : PySem.W.Frag} {mg : Str → Option Value} {base : Heap}
theorem Fun.okX {x qual : Str} {st : Stmt} {f : Addr} {fd : FuncData} {N ps : List Str} {k : Nat} {sp : Sp} (F : Fun K x qual st f fd) (S : FnScope N ps (defScope st)) (len : ∀ vs H Q E, sp vs H Q E → vs.length = ps.length)
    (hbody : ∀ (cdv : Value) (A : Around) (outer : List Env) (s : Shared) (H : Hp) (vs : List V) (Q : VK) (E : XK), Room k (A.deeper (envOfC qual (defScope st) s.heap.objs.size f cdv)) → sp vs H Q E →
      ∃ t, PSs (cxOf (CX1 P w) P w K mg base N qual (defScope st) f cdv A outer s H E) (defBody st) t ∧ t { nx := fun _ H' => Q .non H', rt := Q } (start N vs) H) : FnOk P w K mg base (CX1 P w) (k + 1) f fd ps sp := by
  obtain ⟨oc, od, kV, doc, pm, an, cdv, ct, osl, rfl, lk, hcd⟩ := F.ex
  exact fn_of lk hcd S len fun A outer s H vs Q E hr hsp => hbody cdv A outer s H vs Q E hr hsp
theorem Fun.okN {x qual : Str} {st : Stmt} {f : Addr} {fd : FuncData} {N ps : List Str} {k : Nat} {sp : Sp} (F : Fun K x qual st f fd) (S : FnScope N ps (defScope st)) (len : ∀ vs H Q E, sp vs H Q E → vs.length = ps.length)
    (hbody : ∀ (cdv : Value) (A : Around) (outer : List Env) (s : Shared) (H : Hp) (vs : List V) (Q : VK) (E : XK), Room k (A.deeper (envOfC qual (defScope st) s.heap.objs.size f cdv)) → sp vs H Q E →
      ∃ t, PSs (cxOf (CX1 P w) P w K mg base N qual (defScope st) f cdv A outer s H E).nox (defBody st) t ∧ t { nx := fun _ H' => Q .non H', rt := Q } (start N vs) H) : FnOk P w K mg base (CX1 P w) (k + 1) f fd ps sp :=
  F.okX S len fun cdv A outer s H vs Q E hr hsp => by
    obtain ⟨t, h, q⟩ := hbody cdv A outer s H vs Q E hr hsp
    exact ⟨t, h.nox, q⟩
end
section
variable {X : Cx}
theorem pe_fnx {P : Program} {w : World} {k : Nat} {f : Addr} {fd : FuncData} {ps : List Str} {sp : Sp} {E : XK} {x : Str} {st : Stmt} {p pos : Pos} {e : Expr} {es : List Expr} {t : TA} (D : DefOk X.K X.mg x st ps f fd) (F : FnOk X.prog X.w X.K X.mg X.base (CX1 P w) k f fd ps sp) (hr : Room k X.A)
    (hx : Passes (CX1 P w) X E) (ha : PA X (e :: es) t) (hg : Gl X x := by rfl) (hdb : (x == ("__debug__" : Str)) = false := by decide) (he : starEach (e :: es) X.env = (false, eval e X.env) :: starEach es X.env := by rfl) (hpl : (backTo pos (starEach es X.env)).any (·.1) = false := by rfl) :
    PE X (.Call (.Name x p) (e :: es) [] pos) (tCall sp [] E t) := pe_call F hr hg D.g D.fn.kp D.b .nil hx ha hdb he hpl
end
end L2
set_option Elab.async false
set_option linter.all false
set_option maxRecDepth 100000
namespace L2
open PySem PySem.Spec PyProof.Rows PySem.W
abbrev xRow (K : Frag) (S : Addr) (cs : List Addr) (C : Addr) :=
  ((excIn K C veB "ValueError.__new__", findIn K (.ref C) "__getattribute__", findIn K (.ref C) "__getattr__", findIn K (.ref C) "__class__"),
   ((clsIn K C).isSome, specialIn K (.builtin "object.__class__") "__get__", takesIn K (.builtin "object.__class__"), mroIn K C (.type "object")),
   (mroIn K C (.type "BaseException"), exmOne K (.ref C) (.ref S), kitOne K (.ref C) (.type "ValueError"), cs.map fun D => kitOne K (.ref C) (.ref D)))
abbrev xRow0 (cs : List Addr) (C : Addr) : (Bool × Option (Option Value) × Option (Option Value) × Option (Option Value)) × (Bool × Option (Option Value) × Option Bool × Option Bool) × (Option Bool × Option Bool × Option Bool × List (Option Bool)) :=
  ((true, some (some (.builtin "BaseException.__getattribute__")), some none, some (some (.builtin "object.__class__"))),
   (true, some (some (.builtin "getset_descriptor.__get__")), some true, some true),
   (some true, some true, some true, cs.map fun D => some (decide ((C : Nat) = D))))
structure XSet (K : Frag) (S : Addr) (cs : List Addr) : Prop where
  rows : cs.map (xRow K S cs) = cs.map (xRow0 cs)
  nd : decide (@List.Nodup Nat cs) = true
section
variable {K : Frag} {S : Addr} {cs : List Addr} {C D : Addr}
theorem XSet.row (T : XSet K S cs) (h : C ∈ cs) : xRow K S cs C = xRow0 cs C := (List.map_inj_left.mp T.rows) C h
theorem XSet.look (T : XSet K S cs) (h : C ∈ cs) : XLook K C := by
  have e := T.row h
  simp only [Prod.mk.injEq] at e
  exact ⟨e.1.2.1, e.1.2.2.1, e.1.2.2.2, e.2.1.1, e.2.1.2.1, e.2.1.2.2.1, e.2.1.2.2.2, e.2.2.1⟩
theorem XSet.exc (T : XSet K S cs) (h : C ∈ cs) : excIn K C veB "ValueError.__new__" = true := by
  have e := T.row h
  simp only [Prod.mk.injEq] at e
  exact e.1.1
theorem XSet.val (T : XSet K S cs) (h : C ∈ cs) : kitOne K (.ref C) (.type "ValueError") = some true := by
  have e := T.row h
  simp only [Prod.mk.injEq] at e
  exact e.2.2.2.2.1
theorem XSet.two (T : XSet K S cs) (h : C ∈ cs) (h' : D ∈ cs) : kitOne K (.ref C) (.ref D) = some (decide ((C : Nat) = D)) := by
  have e := T.row h
  simp only [Prod.mk.injEq] at e
  exact (List.map_inj_left.mp e.2.2.2.2.2) D h'
theorem XSet.ne (T : XSet K S cs) {i j : Nat} (h : cs[i]? = some C) (h' : cs[j]? = some D) (hij : i ≠ j) : ¬ (C : Nat) = D := fun e => by
  have nd := of_decide_eq_true T.nd
  obtain ⟨hi, e1⟩ := List.getElem?_eq_some_iff.mp h
  obtain ⟨hj, e2⟩ := List.getElem?_eq_some_iff.mp h'
  exact hij ((List.getElem_inj nd).mp (show @getElem (List Nat) Nat Nat _ _ cs i hi = cs[j] from e1.trans (e.trans e2.symm)))
theorem XSet.cls {mg : Str → Option Value} {x : Str} (T : XSet K S cs) (h : C ∈ cs) (g : mg x = some (.ref C)) : XCls K mg x C := ⟨g, T.exc h⟩
end
section
variable {X : Cx} {S : Addr} {cs : List Addr}
def rIsX (cs : List Addr) : List V → Hp → VK → Prop := fun xs H Q => ∃ (a : Addr) (d : V), xs = [.ref a, d] ∧ ∃ C : Addr, H a = some (hoExc a C) ∧ C ∈ cs ∧ ∃ D : Addr, d = .ref D ∧ D ∈ cs ∧ Q (.bl (decide ((C : Nat) = D))) H
def rIsV (cs : List Addr) : List V → Hp → VK → Prop := fun xs H Q => ∃ (a : Addr) (d : V), xs = [.ref a, d] ∧ d = .ty "ValueError" ∧ ∃ C : Addr, H a = some (hoExc a C) ∧ C ∈ cs ∧ Q (.bl true) H
end
section
variable {X : Cx} {CX : CXT} {e : Expr} {es : List Expr} {t : TE}
def XA (CX : CXT) (X : Cx) (es : List Expr) (ta : XK → TA) : Prop := ∀ (xe : Value → Shared → Prop) (pins : List (Addr × Obj)) (σ : St) (E : XK), PassesAt CX (X.wish xe) pins σ E →
  ∀ (pos : Pos) (s : Shared) (H : Hp) (Q : List V → Hp → Prop), Inv (X.wish xe) pins σ H s → ta E σ H Q → wpAny (model X.prog X.w) X.A (spliced (backTo pos (starEach es X.env))) (AP (X.wish xe) pins σ Q) xe s
end
structure MethOk (K : PySem.W.Frag) (C : Addr) (m qual : Str) (st : Stmt) (ps : List Str) (f : Addr) (fd : FuncData) : Prop where
  at_ : Meth K C m f
  fn : Fun K m qual st f fd
  b : Binds K fd ps []
section
variable {X : Cx} {P : Program} {w : World} {k : Nat} {f C : Addr} {fd : FuncData} {ps : List Str} {sp : Sp} {E : XK} {m qual : Str} {st : Stmt} {apos pos : Pos} {e o : Expr} {es : List Expr} {ta : TE} {t : TA}
theorem pe_mx {pl : Sem Bool} (he : PE X o ta) (c : Cls X.K C) (D : MethOk X.K C m qual st ps f fd) (F : FnOk X.prog X.w X.K X.mg X.base (CX1 P w) k f fd ps sp) (hr : Room k X.A) (hx : Passes (CX1 P w) X E) (ha : PA X (e :: es) t)
    (hst : starEach (e :: es) X.env = (false, eval e X.env) :: starEach es X.env := by rfl) (hpl : (backTo pos (starEach es X.env)).any (·.1) = false := by rfl)
    (ht : eval (.Call (.Attribute o m apos) (e :: es) [] pos) X.env = (do
      let ov ← eval o X.env
      standAt apos.atName
      let (f, first) ← holding [ov] (getMethod ov m pl)
      callWith pos f first (backTo pos (starEach (e :: es) X.env)) (backToKw pos (keywordEach [] X.env))) := by rfl) :
    PE X (.Call (.Attribute o m apos) (e :: es) [] pos) (tMeth C m sp [] E ta t) := pe_meth he c D.at_ F hr D.b .nil hx ha hst hpl ht
theorem pe_mx0 {pl : Sem Bool} (he : PE X o ta) (c : Cls X.K C) (D : MethOk X.K C m qual st ps f fd) (F : FnOk X.prog X.w X.K X.mg X.base (CX1 P w) k f fd ps sp) (hr : Room k X.A) (hx : Passes (CX1 P w) X E)
    (ht : eval (.Call (.Attribute o m apos) [] [] pos) X.env = (do
      let ov ← eval o X.env
      standAt apos.atName
      let (f, first) ← holding [ov] (getMethod ov m pl)
      callWith pos f first (backTo pos (starEach [] X.env)) (backToKw pos (keywordEach [] X.env))) := by rfl) :
    PE X (.Call (.Attribute o m apos) [] [] pos) (tMeth C m sp [] E ta tNil) := pe_meth0 he c D.at_ F hr D.b .nil hx ht
end
end L2
set_option Elab.async false
set_option linter.all false
set_option maxRecDepth 100000
namespace L2
open PySem PySem.Spec PyProof.Rows
end L2
set_option Elab.async false
set_option linter.all false
set_option maxRecDepth 100000
namespace L2
open PySem PySem.Spec PyProof.Rows
theorem atI_in {α : Type} {xs : List α} {i : Int} (h0 : 0 ≤ i) (h1 : i < xs.length) : ∃ v, atI xs i = some v ∧ xs[i.toNat]? = some v := by
  obtain ⟨j, rfl⟩ := Int.eq_ofNat_of_zero_le h0
  have hj : j < xs.length := by omega
  exact ⟨xs[j], atI_nat (by simp [hj]), by simp [hj]⟩
theorem rd_pick {K : PySem.W.Frag} {H : Hp} {p : Addr} {xs : List V} {i : Int} {Q : VK} (h0 : 0 ≤ i) (h1 : i < xs.length) (k : ∀ v ∈ xs, Q v (upd H p (.lst xs))) : rIxL K (.ref p) (.int i) (upd H p (.lst xs)) Q := by
  obtain ⟨v, e, e2⟩ := atI_in h0 h1
  exact ⟨p, xs, i, v, rfl, rfl, SqL.of upd_same, e, k v (List.mem_of_getElem? e2)⟩
theorem rd_sign {H : Hp} {l : List Nat} {i : Int} {Q : VK} (hz : l.length ≤ sizeLine) (h0 : 0 ≤ i) (h1 : i < l.length) (k : ∀ c, l[i.toNat]? = some c → Q (.str (tx [c])) H) : rIxS (.str (tx l)) (.int i) H Q := by
  obtain ⟨v, e, e2⟩ := atI_in h0 h1
  exact ⟨_, i, v, rfl, rfl, by rw [tx_len]; exact hz, by rw [tx_list]; exact e, k v e2⟩
theorem sz_of {n : Nat} (h : n ≤ 100000) : n ≤ sizeLine := Nat.le_trans h (by rw [sizeLine_eq]; decide)
abbrev dgs : V := .str (tx [48, 49, 50, 51, 52, 53, 54, 55, 56, 57])
def dueV (l : List Nat) : V := match readC l with | some n => .int n | none => .non
end L2
set_option Elab.async false
set_option linter.all false
set_option maxRecDepth 100000
namespace L2
open PySem PySem.Spec PyProof.Rows PySem.P
theorem mul_one (c : Nat) {n : Int} (h : 0 ≤ n) : Txt.mul (tx [c]) n = tx (List.replicate n.toNat c) := by
  obtain ⟨k, rfl⟩ := Int.eq_ofNat_of_zero_le h
  have fo : ∀ (k : Nat) (acc : List Nat), (List.replicate k (tx [c]).cps).foldl (· ++ ·) acc.toArray = (acc ++ List.replicate k c).toArray := by
    intro k
    induction k with
    | zero => intro acc; simp
    | succ k ih =>
      intro acc
      rw [List.replicate_succ, List.foldl_cons]
      have e : acc.toArray ++ (tx [c]).cps = (acc ++ [c]).toArray := by simp [tx]
      rw [e, ih, List.append_assoc]
      rfl
  unfold Txt.mul
  by_cases h1 : ((k : Nat) : Int) < 1
  · rw [if_pos h1]
    have : k = 0 := by omega
    subst this
    rfl
  · rw [if_neg h1]
    by_cases h2 : k = 1
    · subst h2
      rfl
    · have e : ((((k : Nat) : Int) == 1) || (tx [c]).length == 0) = false := by
        have a : (((k : Nat) : Int) == 1) = false := by
          rw [beq_eq_false_iff_ne]
          omega
        rw [a]
        rfl
      first
        | rw [e, if_neg (by simp)]
        | skip
      have f := fo k []
      simp only [List.nil_append] at f
      simp [f]
      try omega
section
variable {X : Cx}
def rMulS : R2 := fun x y H Q => ∃ (c : Nat) (n : Int), x = .str (tx [c]) ∧ y = .int n ∧ 0 ≤ n ∧ n ≤ 1000 ∧ Q (.str (tx (List.replicate n.toNat c))) H
def rCount : V → List V → Hp → VK → Prop := fun x vs H Q => ∃ l xs y, x = .ref l ∧ vs = [y] ∧ H l = some (.lst xs) ∧ flatV y = true ∧ xs.all flatV = true ∧ Q (.int ((xs.countP fun z => eqV z y : Nat) : Int)) H
def rIndex : V → List V → Hp → VK → Prop := fun x vs H Q => ∃ (l : Addr) (xs : List V) (y : V) (j : Nat) (z : V), x = .ref l ∧ vs = [y] ∧ H l = some (.lst xs) ∧ flatV y = true ∧ xs.all flatV = true ∧ xs[j]? = some z ∧ eqV z y = true ∧ (∀ (m : Nat) (z' : V), m < j → xs[m]? = some z' → eqV z' y = false) ∧ Q (.int (j : Int)) H
def rRemove : V → List V → Hp → VK → Prop := fun x vs H Q => ∃ (l : Addr) (ns : List (List Nat)) (a : List Nat), x = .ref l ∧ vs = [.str (tx a)] ∧ H l = some (.lst (ns.map fun z => .str (tx z))) ∧ a ∈ ns ∧ Q .non (upd H l (.lst ((ns.erase a).map fun z => .str (tx z))))
end
end L2
set_option Elab.async false
set_option linter.all false
set_option maxRecDepth 100000
namespace L2
open PySem PySem.Spec PyProof.Rows PySem.P
def NF (X : Cx) (a : Addr) : Prop := ∀ o u, X.H₀ a ≠ some (.frz o u)
section
variable {X : Cx} {pins : List (Addr × Obj)} {σ : St} {H : Hp} {s : Shared} {a : Addr} {o o' : HO}
theorem Inv.retag (I : Inv X pins σ H s) (e : H a = some o) (h1 : ∀ xs, o ≠ .tup xs) (h2 : ∀ y, o ≠ .own y) (h3 : ∀ ps, o ≠ .tbl ps) (h4 : NF X a) (new : ObjOk X.prog X.w (upd H a o') s.heap a o') : Inv X pins σ (upd H a o') s := by
  have nn : ∀ b, H b = none → b ≠ a := fun b z w => by rw [w, e] at z; cases z
  have un : ∀ b, H b = none → upd H a o' b = none := fun b z => by rw [upd_ne (nn b z)]; exact z
  refine ⟨I.ok, I.os, I.bare, ⟨I.base.keep, I.base.slot, fun b ob q n hx => un b (I.base.free b ob q n hx), I.base.there, fun b xs q => ?_, fun b ob u q => ?_, fun b ps q => ?_⟩, I.loc, I.cell, un _ I.free, fun x c q => un _ (I.freeC x c q), fun p hp => ?_, fun b u q => ?_, I.len⟩
  · have z := I.base.tups b xs q
    rw [upd_ne (fun w => by rw [w, e] at z; exact h1 xs (Option.some.inj z))]
    exact z
  · have hb : b ≠ a := fun w => h4 ob u (by rw [← w]; exact q)
    rw [upd_ne hb]
    exact I.base.frzs b ob u q
  · obtain ⟨more, z⟩ := I.base.tbls b ps q
    exact ⟨more, by rw [upd_ne (fun w => by rw [w, e] at z; exact h3 _ (Option.some.inj z))]; exact z⟩
  · obtain ⟨p1, p2, p3⟩ := I.pin p hp
    exact ⟨p1, un _ p2, p3⟩
  · by_cases hb : b = a
    · subst hb
      rw [upd_same] at q
      cases q
      exact new
    · rw [upd_ne hb] at q
      refine (I.hok b u q).stay (fun _ _ _ z => z) (fun c z => ?_) fun c xs z => ?_
      · rw [upd_ne (fun w => by rw [w, e] at z; exact h2 b (Option.some.inj z))]
        exact z
      · rw [upd_ne (fun w => by rw [w, e] at z; exact h1 xs (Option.some.inj z))]
        exact z
theorem objok_dK {P : Program} {w : World} {H H' : Hp} {h : Heap} {kvs : List (Key × V)} (x : ObjOk P w H h a (.dK kvs)) : ObjOk P w H' h a (.dK kvs) := x
theorem Inv.thaw {ob : Obj} {kvs : List (Key × V)} (I : Inv X pins σ H s) (e : H a = some (.frz ob (.dK kvs))) (nf : NF X a) : Inv X pins σ (upd H a (.dK kvs)) s :=
  I.retag e (fun _ z => nomatch z) (fun _ z => nomatch z) (fun _ z => nomatch z) nf (objok_dK (I.hok a _ e).2)
def Thaw (X : Cx) (P : Hp → Prop) (H : Hp) : Prop := ∃ a ob kvs, NF X a ∧ H a = some (.frz ob (.dK kvs)) ∧ P (upd H a (.dK kvs))
end
theorem key_rel {P : Program} {w : World} {k : Key} {v : Value} (h : (mixKind P w).is k v = true) : RelV (kV k) v := by
  rcases keyIs_shape (show keyIs k v = true from h) with ⟨i, t, rfl, rfl⟩ | ⟨x, t, rfl, rfl⟩
  · exact ⟨t, rfl⟩
  · exact ⟨t, rfl⟩
def Itd (d : Addr) (ob : Obj) (kvs : List (Key × V)) : It :=
  ⟨fun i H => i < kvs.length ∧ H d = some (.frz ob (.dK kvs)), fun i H x H' => H' = H ∧ (kvs.map fun kv => kV kv.1)[i]? = some x, fun i H => i = kvs.length ∧ H d = some (.frz ob (.dK kvs))⟩
section
variable {X : Cx} {y : Str} {py : Pos}
def iDict (X : Cx) (te : TE) : TI := fun σ H R => te σ H fun x H1 => ∃ a kvs, x = .ref a ∧ H1 a = some (.dK kvs) ∧ ∀ ob, NF X a → R (Itd a ob kvs) (upd H1 a (.frz ob (.dK kvs)))
def Dthaw (X : Cx) (D : Ends) : Ends := ⟨fun σ H => Thaw X (D.nx σ) H, fun v H => Thaw X (D.rt v) H, fun σ H => Thaw X (D.bk σ) H, fun σ H => Thaw X (D.ct σ) H⟩
def tForD (X : Cx) (te : TE) (g : TG) (tb : TS) : TS := fun D σ H => tFor (iDict X te) g tb (Dthaw X D) σ H
theorem SP.thaw {pins : List (Addr × Obj)} {D : Ends} {f : Flow} {s : Shared} (h : SP X pins (Dthaw X D) f s) : SP X pins D f s := by
  cases f with
  | next => obtain ⟨σ, H, I, a, ob, kvs, nf, e, q⟩ := h; exact ⟨σ, _, I.thaw e nf, q⟩
  | brk => obtain ⟨σ, H, I, a, ob, kvs, nf, e, q⟩ := h; exact ⟨σ, _, I.thaw e nf, q⟩
  | cont => obtain ⟨σ, H, I, a, ob, kvs, nf, e, q⟩ := h; exact ⟨σ, _, I.thaw e nf, q⟩
  | ret u => obtain ⟨v, σ, H, I, r, a, ob, kvs, nf, e, q⟩ := h; exact ⟨v, σ, _, I.thaw e nf, r, q⟩
def tCompD (X : Cx) (te : TE) (fr : List Nat) (tt : TT) (tel : TE) : TE := fun σ H Q => tComp (iDict X te) fr tt tel σ H fun v H2 => Thaw X (Q v) H2
section
variable {elt iter : Expr} {ifs : List Expr} {scope : Scope} {pos : Pos} {N : List Str} {fr : List Nat} {tt : TT} {te tel : TE}
end
theorem call_list_dict (hc : X.calm = true) : CallR X (.type "list") (fun xs H Q => ∃ d kvs, xs = [.ref d] ∧ Rd H d (.dK kvs) ∧ ∀ l, H l = none → Q (.ref l) (upd H l (.lst (kvs.map fun kv => kV kv.1)))) := by
  intro pins s σ H xs us Q I r h
  obtain ⟨d, kvs, rfl, hd, q⟩ := h
  obtain ⟨u, rfl, ru⟩ := r.one
  cases ru
  obtain ⟨hz, hsm, vs, rel, dd⟩ := dk_rd I.hok hd
  obtain ⟨ep, da⟩ := dd.dictAt
  have hl : kvs.length = vs.length := rel.length
  refine PySem.W.kdl_call (PySem.W.kdl_dict hsm) (I.ok.hd hc) da (by omega) fun h' tk acc' c' kp e hacc => ?_
  have hvals : Vals (kvs.map fun kv => kV kv.1) acc'.toList := by
    have hlen : acc'.toList.length = kvs.length := by rw [Array.length_toList, hacc.1, hl]
    have key : ∀ (ks : List Key) (us : List Value), ks.length = us.length → (∀ (j : Nat) (k : Key) (v : Value), ks[j]? = some k → us[j]? = some v → (mixKind X.prog X.w).is k v = true) → Vals (ks.map kV) us := by
      intro ks
      induction ks with
      | nil =>
        intro us e _
        cases us with
        | nil => exact .nil
        | cons _ _ => cases e
      | cons k ks ih =>
        intro us e h
        cases us with
        | nil => cases e
        | cons u us => exact .cons (key_rel (h 0 k u rfl rfl)) (ih us (by simpa using e) fun j k' v e1 e2 => h (j + 1) k' v e1 e2)
    have := key (kvs.map (·.1)) acc'.toList (by rw [List.length_map, hlen]) fun j k v e1 e2 => by
      obtain ⟨k', x, e3, e4⟩ := hacc.2 j v (by rw [← Array.getElem?_toList]; exact e2)
      rw [rel.keys, List.getElem?_map, e3] at e1
      cases e1
      exact e4
    rw [List.map_map] at this
    exact this
  exact ⟨.ref s.heap.objs.size, _, I.laid (t' := tk) kp (Nat.le_refl _) (show ObjOk X.prog X.w _ h' _ (.lst _) from ⟨by rw [List.length_map]; exact hz, acc'.toList, c', hvals, by simpa using e⟩), rfl, q _ (I.hok.fresh (Nat.le_refl _))⟩
end
end L2
set_option Elab.async false
set_option linter.all false
set_option maxRecDepth 100000
namespace L2
open PySem PySem.Spec PyProof.Rows PySem.P
mutual
inductive DatV (K : PySem.W.Frag) (H : Hp) : V → PyData → Prop
  | non : DatV K H .non .none
  | bl (b : Bool) : DatV K H (.bl b) (.bool b)
  | int (i : Int) : DatV K H (.int i) (.int i)
  | str (x : Str) : DatV K H (.str x) (.str x)
  | lst {a : Addr} {xs : List V} {ds : List PyData} : SqL K H a xs → DatVs K H xs ds → DatV K H (.ref a) (.list ds)
  | tup {a : Addr} {xs : List V} {ds : List PyData} : SqT K H a xs → DatVs K H xs ds → DatV K H (.ref a) (.tuple ds)
inductive DatVs (K : PySem.W.Frag) (H : Hp) : List V → List PyData → Prop
  | nil : DatVs K H [] []
  | cons {x : V} {xs : List V} {d : PyData} {ds : List PyData} : DatV K H x d → DatVs K H xs ds → DatVs K H (x :: xs) (d :: ds)
end
section
variable {X : Cx} {pins : List (Addr × Obj)} {σ : St} {H : Hp} {s : Shared}
mutual
theorem DatV.reads (I : Inv X pins σ H s) : ∀ {v : V} {d : PyData} {u : Value}, DatV X.K H v d → RelV v u → ∃ as, Reads s.heap u d as
  | _, _, _, .non, r => by cases r; exact ⟨_, .none⟩
  | _, _, _, .bl b, r => by cases r; exact ⟨_, .bool b⟩
  | _, _, _, .int i, r => by obtain ⟨t, rfl⟩ := r; exact ⟨_, .int i t⟩
  | _, _, _, .str x, r => by obtain ⟨t, rfl⟩ := r; exact ⟨_, .str x t⟩
  | _, _, _, .lst hq hs, r => by
    cases r
    obtain ⟨its, rv, pl, _⟩ := I.list hq
    obtain ⟨as, ra⟩ := DatVs.reads I hs rv
    obtain ⟨o, ho, hc, n, hd⟩ := pl.isList
    exact ⟨_, .list ho hc hd (by simpa using ra)⟩
  | _, _, _, .tup hq hs, r => by
    cases r
    obtain ⟨its, rv, pl, _⟩ := I.tuple hq
    obtain ⟨as, ra⟩ := DatVs.reads I hs rv
    obtain ⟨o, ho, hc, n, hd⟩ := pl
    exact ⟨_, .tuple ho hc hd (by simpa using ra)⟩
theorem DatVs.reads (I : Inv X pins σ H s) : ∀ {vs : List V} {ds : List PyData} {us : List Value}, DatVs X.K H vs ds → Vals vs us → ∃ as, ReadsAll s.heap us ds as
  | _, _, _, .nil, r => by cases r; exact ⟨_, .nil⟩
  | _, _, _, .cons h hs, r => by
    cases r with
    | cons r1 r2 =>
      obtain ⟨as, a1⟩ := DatV.reads I h r1
      obtain ⟨bs, b1⟩ := DatVs.reads I hs r2
      exact ⟨_, .cons a1 b1⟩
end
end
mutual
theorem eqv_refl : ∀ d : PyData, d.canLay0 = true → PyData.eqv d d = true
  | .none, _ => by simp [PyData.eqv]
  | .bool b, _ => by simp [PyData.eqv]
  | .int i, _ => by simp [PyData.eqv]
  | .str x, _ => by simp [PyData.eqv]
  | .list xs, h => by
    rw [PyData.eqv]
    exact eqvAll_refl xs (by simpa [PyData.canLay0] using h)
  | .tuple xs, h => by
    rw [PyData.eqv]
    exact eqvAll_refl xs (by simpa [PyData.canLay0] using h)
  | .dict _, h => by simp [PyData.canLay0] at h
theorem eqvAll_refl : ∀ ds : List PyData, PyData.canLayAll0 ds = true → PyData.eqvAll ds ds = true
  | [], _ => by simp [PyData.eqvAll]
  | d :: ds, h => by
    rw [PyData.canLayAll0, Bool.and_eq_true] at h
    rw [PyData.eqvAll, eqv_refl d h.1, eqvAll_refl ds h.2]
    rfl
end
def rEqD (K : PySem.W.Frag) : R2 := fun x y H Q => ∃ d, DatV K H x d ∧ DatV K H y d ∧ SeqAt.shaped d = true ∧ Q (.bl true) H
def rNeD (K : PySem.W.Frag) : R2 := fun x y H Q => ∃ d, DatV K H x d ∧ DatV K H y d ∧ SeqAt.shaped d = true ∧ Q (.bl false) H
section
variable {X : Cx}
theorem op_eqD (hu : X.A.units + 64 < cLine) : OpR X (compareOp .Eq) (rEqD X.K) := by
  intro pins s σ H x y v u Q I rx ry h
  obtain ⟨d, h1, h2, h3, q⟩ := h
  obtain ⟨as, a1⟩ := h1.reads I rx
  obtain ⟨bs, b1⟩ := h2.reads I ry
  refine eq_dataH a1 b1 h3 h3 hu ?_
  rw [eqv_refl d (SeqAt.canLay_of_shaped h3)]
  exact ⟨.bl true, H, I, rfl, q⟩
theorem op_neD (hu : X.A.units + 64 < cLine) : OpR X (compareOp .NotEq) (rNeD X.K) := by
  intro pins s σ H x y v u Q I rx ry h
  obtain ⟨d, h1, h2, h3, q⟩ := h
  obtain ⟨as, a1⟩ := h1.reads I rx
  obtain ⟨bs, b1⟩ := h2.reads I ry
  refine ne_dataH a1 b1 h3 h3 hu ?_
  rw [eqv_refl d (SeqAt.canLay_of_shaped h3)]
  exact ⟨.bl false, H, I, rfl, q⟩
end
theorem hu64 {k : Nat} {A : Around} (r : Room k A) : A.units + 64 < cLine := r.units
theorem datVs_ints {K : PySem.W.Frag} {H : Hp} : ∀ ns : List Int, DatVs K H (ns.map V.int) (ns.map PyData.int)
  | [] => .nil
  | _ :: r => .cons (.int _) (datVs_ints r)
def okT (l : List Nat) : Prop := ∀ c ∈ l, c < 1114112
theorem strOk_tx {l : List Nat} (h : okT l) : PyData.strOk (tx l) = true := by
  unfold PyData.strOk
  simp only [tx, Array.all_eq_true, decide_eq_true_eq]
  intro i hi
  exact h _ (by simp)
structure Step (H : Hp) (F : List Addr) (H' : Hp) (F' : List Addr) : Prop where
  off : ∀ b o, b ∉ F → H b = some o → H' b = some o
  own : ∀ b ∈ F', b ∈ F ∨ H b = none
  tup : ∀ b xs, H b = some (.tup xs) → H' b = some (.tup xs)
theorem Step.refl (H : Hp) (F : List Addr) : Step H F H F := ⟨fun _ _ _ e => e, fun _ h => .inl h, fun _ _ e => e⟩
theorem Step.same {H H' : Hp} {F : List Addr} (s : Same H H') : Step H F H' F := ⟨fun b o _ e => s b o e, fun _ h => .inl h, fun b xs e => s _ _ e⟩
theorem Step.trans {H H1 H2 : Hp} {F F1 F2 : List Addr} (a : Step H F H1 F1) (b : Step H1 F1 H2 F2) : Step H F H2 F2 := by
  refine ⟨fun c o hc e => b.off c o (fun h1 => ?_) (a.off c o hc e), fun c hc => ?_, fun c xs e => b.tup c xs (a.tup c xs e)⟩
  · rcases a.own c h1 with z | z
    · exact hc z
    · rw [e] at z
      cases z
  · rcases b.own c hc with h1 | h1
    · exact a.own c h1
    · by_cases hF : c ∈ F
      · exact .inl hF
      · refine .inr ?_
        cases q : H c with
        | none => rfl
        | some o =>
          rw [a.off c o hF q] at h1
          cases h1
theorem Step.apart {H H' : Hp} {F F' : List Addr} (a : Step H F H' F') {b : Addr} {o : HO} (hb : b ∉ F) (e : H b = some o) : b ∉ F' := fun h => by
  rcases a.own b h with z | z
  · exact hb z
  · rw [e] at z
    cases z
theorem Step.sq {K : PySem.W.Frag} {H H' : Hp} {F F' : List Addr} (a : Step H F H' F') {b : Addr} {xs : List V} (hb : b ∉ F) (h : SqL K H b xs) : SqL K H' b xs := by
  rcases h with (h | ⟨o, h⟩) | h
  · exact .inl (.inl (a.off _ _ hb h))
  · exact .inl (.inr ⟨o, a.off _ _ hb h⟩)
  · exact .inr h
end L2
set_option Elab.async false
set_option linter.all false
set_option maxRecDepth 100000
namespace L2
open PySem
abbrev Nm := List Nat
def abc : List Nat := [97, 98, 99, 100, 101, 102, 103, 104, 105, 106, 107, 108, 109, 110, 111, 112, 113, 114, 115, 116, 117, 118, 119, 120, 121, 122]
theorem mem_abc {c : Nat} : c ∈ abc ↔ 97 ≤ c ∧ c ≤ 122 := by
  unfold abc
  simp only [List.mem_cons, List.not_mem_nil, or_false]
  omega
def goodC (l : Nm) : Bool := decide (1 ≤ l.length ∧ l.length ≤ 12) && l.all fun c => decide (c ∈ abc)
theorem good_ok {l : Nm} (h : goodC l = true) : okT l ∧ l.length ≤ 12 := by
  unfold goodC at h
  simp only [Bool.and_eq_true, decide_eq_true_eq, List.all_eq_true] at h
  refine ⟨fun c hc => ?_, h.1.2⟩
  have := mem_abc.mp (h.2 c hc)
  omega
inductive Rf where
  | noName | noNumber | noThing | noKey | noTie | twice | stillTied | full
  deriving DecidableEq
def Rf.ix : Rf → Nat
  | .noName => 0 | .noNumber => 1 | .noThing => 2 | .noKey => 3 | .noTie => 4 | .twice => 5 | .stillTied => 6 | .full => 7
structure Tie where
  start : Nm
  name : Nm
  stop : Nm
  weight : Int
  deriving DecidableEq
structure WA where
  things : List (Nm × List (Nm × Int))
  ties : List (Int × Tie)
  next : Int
def WA.names (A : WA) : List Nm := A.things.map (·.1)
def WA.addThing (A : WA) (l : Nm) : Except Rf WA :=
  if goodC l = false then .error .noName else if l ∈ A.names then .error .twice else if 100 ≤ A.things.length then .error .full else .ok { A with things := A.things ++ [(l, [])] }
def WA.at_ (A : WA) (f : Tie → Nm) (l : Nm) : List Int := (A.ties.filter fun x => decide (f x.2 = l)).map (·.1)
def WA.dropThing (A : WA) (l : Nm) : Except Rf WA :=
  if l ∉ A.names then .error .noThing else if A.at_ Tie.start l ≠ [] ∨ A.at_ Tie.stop l ≠ [] then .error .stillTied else .ok { A with things := A.things.filter fun x => decide (x.1 ≠ l) }
structure WS where
  dx : Addr
  dv : Addr
  dt : Addr
  vals : List (Nm × Addr × List (Nm × Int))
  ties : List (Int × Addr × Tie)
  next : Int
def WS.abs (W : WS) : WA := ⟨W.vals.map fun x => (x.1, x.2.2), W.ties.map fun x => (x.1, x.2.2), W.next⟩
def WS.own (W : WS) (p : Addr) : List Addr := p :: W.dv :: W.dt :: W.vals.map (·.2.1)
def kvVals (vals : List (Nm × Addr × List (Nm × Int))) : List (Key × V) := vals.map fun x => (.inr (tx x.1), .ref x.2.1)
def kvTies (ties : List (Int × Addr × Tie)) : List (Key × V) := ties.map fun x => (.inl x.1, .ref x.2.1)
def kvNums (m : List (Nm × Int)) : List (Key × V) := m.map fun y => (.inr (tx y.1), .int y.2)
def tieV (t : Tie) : List V := [.str (tx t.start), .str (tx t.name), .str (tx t.stop), .int t.weight]
structure WebAt (C : Addr) (H : Hp) (p : Addr) (W : WS) : Prop where
  obj : H p = some (.ins C W.dx [("kept_values", .ref W.dv), ("kept_ties", .ref W.dt), ("coming_number", .int W.next)])
  val : H W.dv = some (.dK (kvVals W.vals))
  tie : H W.dt = some (.dK (kvTies W.ties))
  each : ∀ x ∈ W.vals, H x.2.1 = some (.dK (kvNums x.2.2))
  tups : ∀ x ∈ W.ties, H x.2.1 = some (.tup (tieV x.2.2))
  nd : (W.dv :: W.dt :: W.vals.map (·.2.1)).Nodup
  names : (W.vals.map (·.1)).Nodup
  nums : (W.ties.map (·.1)).Nodup
  few : W.vals.length ≤ 100
  fewT : W.ties.length ≤ 400
theorem names_abs (W : WS) : W.abs.names = W.vals.map (·.1) := by
  unfold WA.names WS.abs
  rw [List.map_map]
  rfl
theorem valV_vals (l : Nm) : ∀ vals : List (Nm × Addr × List (Nm × Int)), valV (kvVals vals) (.inr (tx l)) = (vals.find? fun x => decide (x.1 = l)).map fun x => V.ref x.2.1
  | [] => rfl
  | x :: r => by
    have ih := valV_vals l r
    unfold kvVals at ih ⊢
    rw [List.map_cons, List.find?_cons]
    by_cases e : x.1 = l
    · rw [valV_pos (by rw [e]), decide_eq_true e]
      rfl
    · rw [valV_neg (fun z => e (tx_inj.mp (Sum.inr.inj z))), decide_eq_false e, ih]
theorem valV_nums (l : Nm) : ∀ m : List (Nm × Int), valV (kvNums m) (.inr (tx l)) = (m.find? fun x => decide (x.1 = l)).map fun x => V.int x.2
  | [] => rfl
  | x :: r => by
    have ih := valV_nums l r
    unfold kvNums at ih ⊢
    rw [List.map_cons, List.find?_cons]
    by_cases e : x.1 = l
    · rw [valV_pos (by rw [e]), decide_eq_true e]
      rfl
    · rw [valV_neg (fun z => e (tx_inj.mp (Sum.inr.inj z))), decide_eq_false e, ih]
theorem valV_ties (n : Int) : ∀ ties : List (Int × Addr × Tie), valV (kvTies ties) (.inl n) = (ties.find? fun x => decide (x.1 = n)).map fun x => V.ref x.2.1
  | [] => rfl
  | x :: r => by
    have ih := valV_ties n r
    unfold kvTies at ih ⊢
    rw [List.map_cons, List.find?_cons]
    by_cases e : x.1 = n
    · rw [valV_pos (by rw [e]), decide_eq_true e]
      rfl
    · rw [valV_neg (fun z => e (Sum.inl.inj z)), decide_eq_false e, ih]
theorem find_none {α β : Type} [DecidableEq β] {f : α → β} {b : β} {l : List α} : l.find? (fun x => decide (f x = b)) = none ↔ b ∉ l.map f := by
  rw [List.find?_eq_none]
  constructor
  · intro h m
    obtain ⟨x, hx, e⟩ := List.mem_map.mp m
    exact h x hx (decide_eq_true e)
  · intro h x hx e
    exact h (List.mem_map.mpr ⟨x, hx, of_decide_eq_true e⟩)
theorem find_some {α β : Type} [DecidableEq β] {f : α → β} {b : β} {l : List α} (h : b ∈ l.map f) : ∃ x, l.find? (fun x => decide (f x = b)) = some x ∧ x ∈ l ∧ f x = b := by
  cases q : l.find? (fun x => decide (f x = b)) with
  | none => exact absurd h (find_none.mp q)
  | some x => exact ⟨x, rfl, List.mem_of_find?_eq_some q, by have z := List.find?_some q; simpa using z⟩
theorem vals_isSome {l : Nm} {vals : List (Nm × Addr × List (Nm × Int))} : (valV (kvVals vals) (.inr (tx l))).isSome = decide (l ∈ vals.map (·.1)) := by
  rw [valV_vals]
  by_cases h : l ∈ vals.map (·.1)
  · obtain ⟨x, e, _, _⟩ := find_some h
    rw [e, decide_eq_true h]
    rfl
  · rw [find_none.mpr h, decide_eq_false h]
    rfl
theorem ties_isSome {n : Int} {ties : List (Int × Addr × Tie)} : (valV (kvTies ties) (.inl n)).isSome = decide (n ∈ ties.map (·.1)) := by
  rw [valV_ties]
  by_cases h : n ∈ ties.map (·.1)
  · obtain ⟨x, e, _, _⟩ := find_some h
    rw [e, decide_eq_true h]
    rfl
  · rw [find_none.mpr h, decide_eq_false h]
    rfl
theorem nums_isSome {l : Nm} {m : List (Nm × Int)} : (valV (kvNums m) (.inr (tx l))).isSome = decide (l ∈ m.map (·.1)) := by
  rw [valV_nums]
  by_cases h : l ∈ m.map (·.1)
  · obtain ⟨x, e, _, _⟩ := find_some h
    rw [e, decide_eq_true h]
    rfl
  · rw [find_none.mpr h, decide_eq_false h]
    rfl
theorem dropK_vals (l : Nm) (vals : List (Nm × Addr × List (Nm × Int))) : dropK (kvVals vals) (.inr (tx l)) = kvVals (vals.filter fun x => decide (x.1 ≠ l)) := by
  unfold dropK kvVals
  rw [List.filter_map]
  congr 1
  apply List.filter_congr
  intro x _
  simp only [Function.comp]
  rw [decide_eq_decide]
  exact not_congr ⟨fun z => tx_inj.mp (Sum.inr.inj z), fun z => by rw [z]⟩
theorem dropK_ties (n : Int) (ties : List (Int × Addr × Tie)) : dropK (kvTies ties) (.inl n) = kvTies (ties.filter fun x => decide (x.1 ≠ n)) := by
  unfold dropK kvTies
  rw [List.filter_map]
  congr 1
  apply List.filter_congr
  intro x _
  simp only [Function.comp]
  rw [decide_eq_decide]
  exact not_congr ⟨fun z => Sum.inl.inj z, fun z => by rw [z]⟩
theorem WebAt.dvdt {C : Addr} {H : Hp} {p : Addr} {W : WS} (w : WebAt C H p W) : W.dv ≠ W.dt := fun z => by
  have := (List.nodup_cons.mp w.nd).1
  exact this (by rw [z]; exact List.mem_cons_self)
theorem WebAt.pdv {C : Addr} {H : Hp} {p : Addr} {W : WS} (w : WebAt C H p W) : W.dv ≠ p := ne_of w.val w.obj (by intro z; cases z)
theorem WebAt.pdt {C : Addr} {H : Hp} {p : Addr} {W : WS} (w : WebAt C H p W) : W.dt ≠ p := ne_of w.tie w.obj (by intro z; cases z)
theorem WebAt.dvx {C : Addr} {H : Hp} {p : Addr} {W : WS} (w : WebAt C H p W) {x : Nm × Addr × List (Nm × Int)} (h : x ∈ W.vals) : x.2.1 ≠ W.dv := fun z => by
  have := (List.nodup_cons.mp w.nd).1
  exact this (List.mem_cons_of_mem _ (by rw [← z]; exact List.mem_map.mpr ⟨x, h, rfl⟩))
theorem WebAt.dtx {C : Addr} {H : Hp} {p : Addr} {W : WS} (w : WebAt C H p W) {x : Nm × Addr × List (Nm × Int)} (h : x ∈ W.vals) : x.2.1 ≠ W.dt := fun z => by
  have := (List.nodup_cons.mp (List.nodup_cons.mp w.nd).2).1
  exact this (by rw [← z]; exact List.mem_map.mpr ⟨x, h, rfl⟩)
theorem WebAt.keep {C : Addr} {H H' : Hp} {p : Addr} {W : WS} (w : WebAt C H p W) (h : ∀ b o, b ∈ W.own p → H b = some o → H' b = some o) (ht : ∀ b xs, H b = some (.tup xs) → H' b = some (.tup xs)) : WebAt C H' p W := by
  refine ⟨h _ _ (by simp [WS.own]) w.obj, h _ _ (by simp [WS.own]) w.val, h _ _ (by simp [WS.own]) w.tie, fun x hx => h _ _ ?_ (w.each x hx), fun x hx => ht _ _ (w.tups x hx), w.nd, w.names, w.nums, w.few, w.fewT⟩
  simp only [WS.own, List.mem_cons, List.mem_map]
  exact .inr (.inr (.inr ⟨x, hx, rfl⟩))
theorem WebAt.same {C : Addr} {H H' : Hp} {p : Addr} {W : WS} (w : WebAt C H p W) (s : Same H H') : WebAt C H' p W := w.keep (fun b o _ e => s b o e) fun b xs e => s b _ e
theorem WebAt.own_some {C : Addr} {H : Hp} {p : Addr} {W : WS} (w : WebAt C H p W) {b : Addr} (h : b ∈ W.own p) : ∃ o, H b = some o ∧ ∀ xs, o ≠ .tup xs := by
  simp only [WS.own, List.mem_cons, List.mem_map] at h
  rcases h with rfl | rfl | rfl | ⟨x, hx, rfl⟩
  · exact ⟨_, w.obj, fun _ z => nomatch z⟩
  · exact ⟨_, w.val, fun _ z => nomatch z⟩
  · exact ⟨_, w.tie, fun _ z => nomatch z⟩
  · exact ⟨_, w.each x hx, fun _ z => nomatch z⟩
theorem WebAt.step {C : Addr} {H H' : Hp} {p : Addr} {W : WS} {F F' : List Addr} (w : WebAt C H p W) (s : Step H F H' F') (d : ∀ b ∈ W.own p, b ∉ F) : WebAt C H' p W ∧ ∀ b ∈ W.own p, b ∉ F' :=
  ⟨w.keep (fun b o hb e => s.off b o (d b hb) e) s.tup, fun b hb => let ⟨_, e, _⟩ := w.own_some hb; s.apart (d b hb) e⟩
theorem WebAt.added {C : Addr} {H : Hp} {p d : Addr} {W : WS} {l : Nm} (w : WebAt C H p W) (hd : H d = none) (hl : l ∉ W.vals.map (·.1)) (hf : W.vals.length < 100) :
    WebAt C (upd (upd H d (.dK [])) W.dv (.dK (putK (kvVals W.vals) (.inr (tx l)) (.ref d)))) p { W with vals := W.vals ++ [(l, d, [])] } ∧
    Step H (W.own p) (upd (upd H d (.dK [])) W.dv (.dK (putK (kvVals W.vals) (.inr (tx l)) (.ref d)))) (WS.own { W with vals := W.vals ++ [(l, d, [])] } p) := by
  have hp : p ≠ d := ne_of_none w.obj hd
  have hdv : W.dv ≠ d := ne_of_none w.val hd
  have hdt : W.dt ≠ d := ne_of_none w.tie hd
  have eput : putK (kvVals W.vals) (.inr (tx l)) (.ref d) = kvVals (W.vals ++ [(l, d, [])]) := by
    rw [putK_new]
    · unfold kvVals
      rw [List.map_append]
      rfl
    · rw [valV_vals, find_none.mpr hl]
      rfl
  rw [eput]
  have oth : ∀ b o, b ≠ W.dv → H b = some o → upd (upd H d (.dK [])) W.dv (.dK (kvVals (W.vals ++ [(l, d, [])]))) b = some o := fun b o hb e => by
    rw [upd_ne hb, upd_ne (ne_of_none e hd)]
    exact e
  refine ⟨⟨oth _ _ w.pdv.symm w.obj, upd_same, oth _ _ w.dvdt.symm w.tie, fun x hx => ?_, fun x hx => oth _ _ (ne_of (w.tups x hx) w.val (by intro z; cases z)) (w.tups x hx), ?_, ?_, w.nums, by simp only [List.length_append, List.length_cons, List.length_nil]; omega, w.fewT⟩, ⟨fun b o hb e => oth b o (fun z => hb (by simp [WS.own, z])) e, fun b hb => ?_, fun b xs e => oth b _ (ne_of e w.val (by intro z; cases z)) e⟩⟩
  · rcases List.mem_append.mp hx with h | h
    · exact oth _ _ (w.dvx h) (w.each x h)
    · rw [List.mem_singleton.mp h]
      show upd (upd H d (.dK [])) W.dv _ d = _
      rw [upd_ne hdv.symm, upd_same]
      rfl
  · have hnew : d ∉ W.dv :: W.dt :: W.vals.map (·.2.1) := by
      intro h
      simp only [List.mem_cons, List.mem_map] at h
      rcases h with h | h | ⟨x, hx, h⟩
      · exact hdv h.symm
      · exact hdt h.symm
      · exact ne_of_none (w.each x hx) hd h
    show (W.dv :: W.dt :: (W.vals ++ [(l, d, [])]).map (fun x : Nm × Addr × List (Nm × Int) => x.2.1)).Nodup
    rw [List.map_append]
    have := nd_snoc w.nd hnew
    exact this
  · show ((W.vals ++ [(l, d, [])]).map (fun x : Nm × Addr × List (Nm × Int) => x.1)).Nodup
    rw [List.map_append]
    exact nd_snoc w.names hl
  · simp only [WS.own, List.map_append, List.mem_cons, List.mem_append, List.map_cons, List.map_nil, List.not_mem_nil, or_false] at hb ⊢
    rcases hb with h | h | h | h | h
    · exact .inl (.inl h)
    · exact .inl (.inr (.inl h))
    · exact .inl (.inr (.inr (.inl h)))
    · exact .inl (.inr (.inr (.inr h)))
    · exact .inr (by rw [h]; exact hd)
theorem WebAt.dropped {C : Addr} {H : Hp} {p : Addr} {W : WS} {l : Nm} (w : WebAt C H p W) :
    WebAt C (upd H W.dv (.dK (dropK (kvVals W.vals) (.inr (tx l))))) p { W with vals := W.vals.filter fun x => decide (x.1 ≠ l) } ∧
    Step H (W.own p) (upd H W.dv (.dK (dropK (kvVals W.vals) (.inr (tx l))))) (WS.own { W with vals := W.vals.filter fun x => decide (x.1 ≠ l) } p) := by
  rw [dropK_vals]
  have oth : ∀ b o, b ≠ W.dv → H b = some o → upd H W.dv (.dK (kvVals (W.vals.filter fun x => decide (x.1 ≠ l)))) b = some o := fun b o hb e => by
    rw [upd_ne hb]
    exact e
  have sub : ∀ x ∈ W.vals.filter (fun x => decide (x.1 ≠ l)), x ∈ W.vals := fun x hx => (List.mem_filter.mp hx).1
  refine ⟨⟨oth _ _ w.pdv.symm w.obj, upd_same, oth _ _ w.dvdt.symm w.tie, fun x hx => oth _ _ (w.dvx (sub x hx)) (w.each x (sub x hx)), fun x hx => oth _ _ (ne_of (w.tups x hx) w.val (by intro z; cases z)) (w.tups x hx), ?_, ?_, w.nums, Nat.le_trans (List.length_filter_le _ _) w.few, w.fewT⟩,
    ⟨fun b o hb e => oth b o (fun z => hb (by simp [WS.own, z])) e, fun b hb => .inl ?_, fun b xs e => oth b _ (ne_of e w.val (by intro z; cases z)) e⟩⟩
  · exact List.Sublist.nodup (List.Sublist.cons_cons _ (List.Sublist.cons_cons _ (List.Sublist.map _ List.filter_sublist))) w.nd
  · exact List.Sublist.nodup (List.Sublist.map _ List.filter_sublist) w.names
  · simp only [WS.own, List.mem_cons, List.mem_map] at hb ⊢
    rcases hb with h | h | h | ⟨x, hx, h⟩
    · exact .inl h
    · exact .inr (.inl h)
    · exact .inr (.inr (.inl h))
    · exact .inr (.inr (.inr ⟨x, sub x hx, h⟩))
end L2
set_option Elab.async false
set_option linter.all false
set_option maxRecDepth 100000
namespace L2
open PySem PySem.Spec PyProof.Rows
section
variable {X : Cx} {a b e o i : Expr} {ta tb td ty : TE} {pos : Pos} {f : Str} {r : R2}
theorem pe_fldA (he : PE X e ta) (hb : attributeBase e f X.env (eval e X.env) = eval e X.env := by rfl) : PE X (.Attribute e f pos) (tFld X.K ta f) := pe_fld he hb
theorem pe_ixA (hr : IxR X r) (ha : PE X a ta) (hb : PE X b tb) (hs : PlainIx b := by exact fun _ _ => rfl) : PE X (.Subscript a b pos) (tOp r ta tb) := pe_ix hr ha hb hs
theorem pe_dgetA (hu : X.A.units + 1 < cLine) (ho : PE X o td) (hi : PE X i ty) (hs : NoSl i := by exact fun _ _ => rfl) : PE X (.Subscript o i pos) (tDGet td ty) := pe_dget hu ho hi hs
end
end L2
namespace L2
open PySem PySem.Spec PyProof.Rows
section
variable {X : Cx} {e : Expr} {ta : TE} {pos : Pos} {f : Str}
theorem ix_tupK (K : PySem.W.Frag) (h : X.K = K := by rfl) : IxR X (rIxT K) := h ▸ ix_tup
end
end L2
namespace L2
open PySem PySem.Spec PyProof.Rows
theorem find_nd {α β : Type} [DecidableEq β] {f : α → β} {x : α} : ∀ {l : List α}, (l.map f).Nodup → x ∈ l → l.find? (fun y => decide (f y = f x)) = some x
  | [], _, h => nomatch h
  | a :: r, nd, h => by
    rw [List.find?_cons]
    rcases List.mem_cons.mp h with e | h'
    · subst e
      rw [decide_eq_true rfl]
    · have nd' := List.nodup_cons.mp nd
      rw [decide_eq_false (fun z => nd'.1 (by rw [z]; exact List.mem_map.mpr ⟨x, h', rfl⟩))]
      exact find_nd nd'.2 h'
def tieP (ties : List (Int × Addr × Tie)) (f : Tie → Nm) (l : Nm) : Key → Bool
  | .inl n => ((ties.find? fun x => decide (x.1 = n)).map fun x => decide (f x.2.2 = l)).getD false
  | .inr _ => false
theorem get_tie {H : Hp} {d : Addr} {ties : List (Int × Addr × Tie)} {x : Int × Addr × Tie} (hd : Rd H d (.dK (kvTies ties))) (nd : (ties.map (·.1)).Nodup) (h : x ∈ ties) : DGet H d (.int x.1) (some (.ref x.2.1)) := by
  refine .inl ⟨_, .inl x.1, hd, rfl, ?_⟩
  rw [valV_ties, find_nd nd h]
  rfl
end L2
set_option Elab.async false
set_option linter.all false
set_option maxRecDepth 100000
namespace L2
open PySem
def letC (n : Int) : Nat := 97 + (n % 26).toNat
theorem let_at (n : Int) : abc[(n % 26).toNat]? = some (letC n) := by
  unfold letC
  have h1 : (n % 26).toNat < 26 := by omega
  generalize (n % 26).toNat = k at h1
  have all : ∀ k < 26, abc[k]? = some (97 + k) := by decide
  exact all k h1
theorem letC_inj {n m : Int} (h : letC n = letC m) : n % 26 = m % 26 := by
  unfold letC at h
  omega
def sizeC (w : Int) : Int := 2 + w / 52 % 11
def atC (w : Int) : Int := w / 572 % (sizeC w - 1)
def nameC (n w : Int) : Nm :=
  if w % 2 = 0 then letC (n / 12 + w / 52) :: List.replicate (n % 12).toNat (letC (w / 2))
  else List.replicate (atC w).toNat (letC (w / 2)) ++ [letC n] ++ [letC (n / 26)] ++ List.replicate (sizeC w - 2 - atC w).toNat (letC (w / 2))
def Rf.word : Rf → Nm
  | .noName => [78, 111, 78, 97, 109, 101]
  | .noNumber => [78, 111, 78, 117, 109, 98, 101, 114]
  | .noThing => [78, 111, 84, 104, 105, 110, 103]
  | .noKey => [78, 111, 75, 101, 121]
  | .noTie => [78, 111, 84, 105, 101]
  | .twice => [84, 119, 105, 99, 101]
  | .stillTied => [83, 116, 105, 108, 108, 84, 105, 101, 100]
  | .full => [70, 117, 108, 108]
def doneC : Nm := [100, 111, 110, 101]
structure Mine (H0 H : Hp) (F : List Addr) : Prop where
  same : Same H0 H
  new : ∀ b ∈ F, H0 b = none
theorem Mine.step {H0 H H' : Hp} {F F1 F2 : List Addr} (m : Mine H0 H F) (s : Step H F1 H' F2) (h : ∀ b ∈ F1, b ∈ F) : Mine H0 H' (F2 ++ F) := by
  have back : ∀ b, H b = none → H0 b = none := fun b z => by
    cases q : H0 b with
    | none => rfl
    | some o =>
      rw [m.same b o q] at z
      cases z
  refine ⟨fun b o e => s.off b o (fun z => ?_) (m.same b o e), fun b hb => ?_⟩
  · have := m.new b (h b z)
    rw [e] at this
    cases this
  · rcases List.mem_append.mp hb with z | z
    · rcases s.own b z with y | y
      · exact m.new b (h b y)
      · exact back b y
    · exact m.new b z
theorem Mine.mono {H0 H : Hp} {F F' : List Addr} (m : Mine H0 H F) (h : ∀ b ∈ F', b ∈ F) : Mine H0 H F' := ⟨m.same, fun b hb => m.new b (h b hb)⟩
theorem Mine.more {H0 H H' : Hp} {F : List Addr} (m : Mine H0 H F) (s : Same H H') : Mine H0 H' F := ⟨m.same.trans s, m.new⟩
theorem Mine.upd {H0 H : Hp} {F : List Addr} {b : Addr} {o : HO} (m : Mine H0 H F) (h : b ∈ F) : Mine H0 (upd H b o) F := ⟨fun c u e => by
  rw [upd_ne (fun z => by rw [z, m.new b h] at e; cases e)]
  exact m.same c u e, m.new⟩
theorem Mine.fresh {H0 H : Hp} {F : List Addr} {b : Addr} (m : Mine H0 H F) (h : H b = none) : H0 b = none := m.same.free h
end L2
set_option Elab.async false
set_option linter.all false
set_option maxRecDepth 100000
namespace L2
open PySem PySem.Spec PyProof.Rows
def strConsts : List Expr → Option (List Str)
  | [] => some []
  | .Constant (.str x) _ _ :: r => (strConsts r).map (x :: ·)
  | _ => none
def tLstC (vs : List V) : TE := fun _ H Q => vs.length ≤ sizeLine ∧ ∀ p, H p = none → Q (.ref p) (upd H p (.lst vs))
theorem pa_strs {X : Cx} : ∀ {es : List Expr} {xs : List Str}, strConsts es = some xs → PA X es (fun _ H Q => Q (xs.map V.str) H)
  | [], xs, h => by
    cases h
    exact pa_nil
  | e :: r, xs, h => by
    cases e with
    | Constant c j pos =>
      cases c with
      | str x =>
        unfold strConsts at h
        cases q : strConsts r with
        | none => rw [q] at h; cases h
        | some ys =>
          rw [q] at h
          cases h
          exact pa_cons (X := X) pe_str (pa_strs q) rfl
      | _ => cases h
    | _ => cases h
theorem pe_lstS {X : Cx} {es : List Expr} {xs : List Str} {pos : Pos} (h : strConsts es = some xs := by rfl) : PE X (.List es pos) (tLstC (xs.map V.str)) := fun pins s σ H Q I hq => pe_lst (pa_strs h) pins s σ H Q I hq
theorem seq_rule {t u : TS} {D : Ends} {σ : St} {H : Hp} (h : ∀ N : St → Hp → Prop, (∀ σ' H', u D σ' H' → N σ' H') → t { D with nx := N } σ H) : tSeq t u D σ H := h _ fun _ _ z => z
theorem rd_inS {K : PySem.W.Frag} {H : Hp} {a : Addr} {ns : List Nm} {l : Nm} {neg : Bool} {Q : VK} (ha : SqL K H a (ns.map fun z => V.str (tx z))) (q : Q (.bl (if neg then !decide (l ∈ ns) else decide (l ∈ ns))) H) : rIn K neg (.str (tx l)) (.ref a) H Q := by
  refine ⟨a, _, rfl, .inl ha, rfl, ?_, ?_⟩
  · rw [List.all_eq_true]
    intro v hv
    obtain ⟨b, _, rfl⟩ := List.mem_map.mp hv
    rfl
  · have e : inV (.str (tx l)) (ns.map fun z => V.str (tx z)) = decide (l ∈ ns) := by
      unfold inV
      rw [Bool.eq_iff_iff, List.any_eq_true, decide_eq_true_eq]
      constructor
      · rintro ⟨v, hv, e⟩
        obtain ⟨b, hb, rfl⟩ := List.mem_map.mp hv
        have : tx b = tx l := by simpa [eqV] using e
        rw [← tx_inj.mp this]
        exact hb
      · intro h
        exact ⟨_, List.mem_map.mpr ⟨l, h, rfl⟩, by simp [eqV]⟩
    rw [e]
    exact q
end L2
set_option Elab.async false
set_option linter.all false
set_option maxRecDepth 100000
namespace L2
open PySem PySem.Spec PyProof.Rows
structure Bx (p : Prop) : Prop where
  un : p
theorem bpss_nil {X : Cx} : Bx (PSs X [] tNext) := ⟨pss_nil ⟩
theorem bpss_one {X : Cx} {st : Stmt} {t : TS} (h1 : Bx (PS X st t)) : Bx (PSs X [st] t) := ⟨pss_one h1.un⟩
theorem bpss_cons {X : Cx} {st : Stmt} {rest : List Stmt} {t u : TS} (h1 : Bx (PS X st t)) (h2 : Bx (PSs X rest u)) : Bx (PSs X (st :: rest) (tSeq t u)) := ⟨pss_cons h1.un h2.un⟩
theorem bps_set {X : Cx} {pos : Pos} {i : Nat} {x : Str} {e : Expr} {te : TE} {pos' : Pos} (hN : List.Nodup (Cx.N X)) (hi : (Cx.N X)[i]? = some x) (hx : L2.Loc (Env.scope (Cx.env X)) x) (he : Bx (PE X e te)) (hs : swapsWith e (some (Expr.Name x pos')) (Pos.line pos) (Cx.env X) = pure false := by rfl) (hf : Cx.fn X x = true ∨ List.lookup x (Scope.names (Env.scope (Cx.env X))) = some NameKind.local := by first | exact .inl rfl | exact .inr rfl | assumption) : Bx (PS X (Stmt.Assign [Expr.Name x pos'] e pos) (tAsg te (gName i))) := ⟨ps_set hN hi hx he.un hs hf⟩
theorem bps_setC {X : Cx} {x : Str} {px : Pos} {elt iter : Expr} {ifs : List Expr} {scope : Scope} {pos : Pos} {N : List Str} {fr : List Nat} {tt : TT} {te : TE} {wi : TI} {i : Nat} {y : Str} {py spos : Pos} (hN : List.Nodup (Cx.N X)) (hi' : (Cx.N X)[i]? = some y) (hy : L2.Loc (Env.scope (Cx.env X)) y) (hc : Cx.calm X = true) (S : CSc scope (Env.scope (Cx.env X)) x N (Cx.N X) fr) (hi : Bx (PI X (Expr.Name x px) iter wi)) (ht : ∀ (cl : List (Str × Addr)) (C : Addr) (s₀ : Shared) (H₀ : Hp) (ex : List Addr), Bx (PTs (Cx.blk X scope cl C N s₀ H₀ ex) ifs tt)) (he : ∀ (cl : List (Str × Addr)) (C : Addr) (s₀ : Shared) (H₀ : Hp) (ex : List Addr), Bx (PE (Cx.blk X scope cl C N s₀ H₀ ex) elt te)) (hsw : swapsWith (Expr.ListComp elt [{ target := Expr.Name x px, iter := iter, ifs := ifs, is_async := (0 : Int) }] scope pos) (some (Expr.Name y py)) (Pos.line spos) (Cx.env X) = pure true := by rfl) (hs : ∀ (v : Value), foldedSetIterable iter (Cx.env X) v = pure v := by intro _; rfl) (hf : Cx.fn X y = true ∨ List.lookup y (Scope.names (Env.scope (Cx.env X))) = some NameKind.local := by first | exact .inl rfl | exact .inr rfl | assumption) : Bx (PS X (Stmt.Assign [Expr.Name y py] (Expr.ListComp elt [{ target := Expr.Name x px, iter := iter, ifs := ifs, is_async := (0 : Int) }] scope pos) spos) (tAsg (tComp wi fr tt te) (gName i))) := ⟨ps_setC hN hi' hy hc S hi.un (fun y0 y1 y2 y3 y4 => (ht y0 y1 y2 y3 y4).un) (fun y0 y1 y2 y3 y4 => (he y0 y1 y2 y3 y4).un) hsw hs hf⟩
theorem bps_dput {X : Cx} {o i value : Expr} {pos pos' : Pos} {td ty tv : TE} (hu : Around.units (Cx.A X) + (1 : Nat) < cLine) (ho : Bx (PE X o td)) (hi : Bx (PE X i ty)) (hv : Bx (PE X value tv)) (hs : swapsWith value (some (Expr.Subscript o i pos')) (Pos.line pos) (Cx.env X) = pure false := by rfl) : Bx (PS X (Stmt.Assign [Expr.Subscript o i pos'] value pos) (sDPut td ty tv)) := ⟨ps_dput hu ho.un hi.un hv.un hs⟩
theorem bps_asg {X : Cx} {pos : Pos} {tg e : Expr} {te : TE} {g : TG} (he : Bx (PE X e te)) (hg : Bx (PG X tg g)) (hs : swapsWithSole [tg] e (Pos.line pos) (Cx.env X) = pure false := by rfl) (hw : swappedStores [tg] e (Cx.env X) = pure none := by rfl) (h1 : List.map (fun (x : Bool × (Value → Sem Unit)) => Prod.snd x) (assignEach [tg] (Cx.env X)) = [assign tg (Cx.env X)] := by rfl) : Bx (PS X (Stmt.Assign [tg] e pos) (tAsg te g)) := ⟨ps_asg he.un hg.un hs hw h1⟩
theorem bps_fld {X : Cx} {o value : Expr} {f : Str} {pos pos' : Pos} {ta tv : TE} (ha : Bx (PE X o ta)) (hv : Bx (PE X value tv)) (hs : swapsWith value (some (Expr.Attribute o f pos')) (Pos.line pos) (Cx.env X) = pure false := by rfl) : Bx (PS X (Stmt.Assign [Expr.Attribute o f pos'] value pos) (sFld (Cx.K X) ta tv f)) := ⟨ps_fld ha.un hv.un hs⟩
theorem bps_if {X : Cx} {t u : TS} {pos : Pos} {c : Expr} {a b : List Stmt} {tc : TT} (hc : Bx (PT X c tc)) (ha : Bx (PSs X a t)) (hb : Bx (PSs X b u)) : Bx (PS X (Stmt.If c a b pos) (tIfS tc t u)) := ⟨ps_if hc.un ha.un hb.un⟩
theorem bps_ret {X : Cx} {e : Expr} {te : TE} {pos : Pos} (he : Bx (PE X e te)) : Bx (PS X (Stmt.Return (some e) pos) (tRet te)) := ⟨ps_ret he.un⟩
theorem bps_raise {X : Cx} {E : XK} {x : Str} {C : Addr} {e₀ : Expr} {te : TE} {np cpos pos : Pos} (T : XCls (Cx.K X) (Cx.mg X) x C) (hR : Raises X E) (hc : Cx.calm X = true) (he : Bx (PE X e₀ te)) (hg : Gl X x := by rfl) (hd : (x == Str.ofString "__debug__") = false := by decide) (hs : starEach [e₀] (Cx.env X) = [(false, eval e₀ (Cx.env X))] := by rfl) : Bx (PS X (Stmt.Raise (some (Expr.Call (Expr.Name x np) [e₀] [] cpos)) none pos) (tRaise E C te)) := ⟨ps_raise T hR hc he.un hg hd hs⟩
theorem bps_for {X : Cx} {tg iter : Expr} {body : List Stmt} {wi : TI} {g : TG} {tb : TS} {pos : Pos} (hp : PassesOwn (model (Cx.prog X) (Cx.w X)) (Cx.A X) (Cx.env X) (Cx.xe X)) (hc : Cx.calm X = true) (hi : Bx (PI X tg iter wi)) (hg : Bx (PG X tg g)) (hb : Bx (PSs X body tb)) (hs : ∀ (x : Value), foldedSetIterable iter (Cx.env X) x = pure x := by intro _; rfl) : Bx (PS X (Stmt.For tg iter body [] pos) (tFor wi g tb)) := ⟨ps_for hp hc hi.un hg.un hb.un hs⟩
theorem bps_expr {X : Cx} {e : Expr} {te : TE} {pos : Pos} (he : Bx (PE X e te)) (hs : swapsWith e none (Pos.line pos) (Cx.env X) = pure false := by rfl) : Bx (PS X (Stmt.Expr e pos) (tDrop te)) := ⟨ps_expr he.un hs⟩
theorem bps_never {X : Cx} {st : Stmt} : Bx (PS X st tNever) := ⟨ps_never ⟩
theorem bpi_range1 {X : Cx} {tg a : Expr} {ta : TA} {p pos : Pos} (hg : Gl X (Str.ofString "range")) (hm : Cx.mg X (Str.ofString "range") = none) (ha : Bx (PA X [a] ta)) (hs : starEach [a] (Cx.env X) = [(false, eval a (Cx.env X))] := by rfl) : Bx (PI X tg (Expr.Call (Expr.Name (Str.ofString "range") p) [a] [] pos) (iRng1 ta)) := ⟨pi_range1 hg hm ha.un hs⟩
theorem bpi_range2 {X : Cx} {tg a b : Expr} {ta : TA} {p pos : Pos} (hg : Gl X (Str.ofString "range")) (hm : Cx.mg X (Str.ofString "range") = none) (ha : Bx (PA X [a, b] ta)) (hs : starEach [a, b] (Cx.env X) = [(false, eval a (Cx.env X)), (false, eval b (Cx.env X))] := by rfl) (hs2 : starEach [b] (Cx.env X) = [(false, eval b (Cx.env X))] := by rfl) : Bx (PI X tg (Expr.Call (Expr.Name (Str.ofString "range") p) [a, b] [] pos) (iRng2 ta)) := ⟨pi_range2 hg hm ha.un hs hs2⟩
theorem bpi_str {X : Cx} {y : Str} {py : Pos} {e : Expr} {te : TE} (h : Bx (PE X e te)) : Bx (PI X (Expr.Name y py) e (iStr te)) := ⟨pi_str h.un⟩
theorem bpi_list {X : Cx} {tg l : Expr} {tl : TE} (hl : Bx (PE X l tl)) : Bx (PI X tg l (iList (Cx.K X) tl)) := ⟨pi_list hl.un⟩
theorem bpg_name {X : Cx} {pos : Pos} {i : Nat} {x : Str} (hN : List.Nodup (Cx.N X)) (hi : (Cx.N X)[i]? = some x) (hx : L2.Loc (Env.scope (Cx.env X)) x) (hf : Cx.fn X x = true ∨ List.lookup x (Scope.names (Env.scope (Cx.env X))) = some NameKind.local := by first | exact .inl rfl | exact .inr rfl | assumption) : Bx (PG X (Expr.Name x pos) (gName i)) := ⟨pg_name hN hi hx hf⟩
theorem bpg_sub {X : Cx} {pos : Pos} {o i : Expr} {to ti : TE} {t : TSet} (ho : Bx (PE X o to)) (hi : Bx (PE X i ti)) (hs : PSet X t)
    (ha : ∀ v, assign (.Subscript o i pos) X.env v = (do
      let ov ← holding [v] (eval o X.env)
      let iv ← holding [v, ov] (eval i X.env)
      standAt pos
      holding [v, ov, iv] (setItem ov iv v)
      release [v, ov, iv] []) := by intro _; rfl) : Bx (PG X (.Subscript o i pos) (gSub to ti t)) := ⟨pg_sub ho.un hi.un hs ha⟩
theorem bpe_comp {X : Cx} {x : Str} {px : Pos} {elt iter : Expr} {ifs : List Expr} {scope : Scope} {pos : Pos} {N : List Str} {fr : List Nat} {tt : TT} {te : TE} {wi : TI} (hc : Cx.calm X = true) (S : CSc scope (Env.scope (Cx.env X)) x N (Cx.N X) fr) (hi : Bx (PI X (Expr.Name x px) iter wi)) (ht : ∀ (cl : List (Str × Addr)) (C : Addr) (s₀ : Shared) (H₀ : Hp) (ex : List Addr), Bx (PTs (Cx.blk X scope cl C N s₀ H₀ ex) ifs tt)) (he : ∀ (cl : List (Str × Addr)) (C : Addr) (s₀ : Shared) (H₀ : Hp) (ex : List Addr), Bx (PE (Cx.blk X scope cl C N s₀ H₀ ex) elt te)) (hs : ∀ (v : Value), foldedSetIterable iter (Cx.env X) v = pure v := by intro _; rfl) : Bx (PE X (Expr.ListComp elt [{ target := Expr.Name x px, iter := iter, ifs := ifs, is_async := (0 : Int) }] scope pos) (tComp wi fr tt te)) := ⟨pe_comp hc S hi.un (fun y0 y1 y2 y3 y4 => (ht y0 y1 y2 y3 y4).un) (fun y0 y1 y2 y3 y4 => (he y0 y1 y2 y3 y4).un) hs⟩
theorem bpts_nil {X : Cx} : Bx (PTs X [] tYes) := ⟨pts_nil ⟩
theorem bpa_nil {X : Cx} : Bx (PA X [] tNil) := ⟨pa_nil ⟩
theorem bpa_cons {X : Cx} {e : Expr} {es : List Expr} {te : TE} {t : TA} (ha : Bx (PE X e te)) (hr : Bx (PA X es t)) (hs : starEach (e :: es) (Cx.env X) = (false, eval e (Cx.env X)) :: starEach es (Cx.env X) := by rfl) : Bx (PA X (e :: es) (tCons te t)) := ⟨pa_cons ha.un hr.un hs⟩
theorem bpt_cmpR {X : Cx} {a b : Expr} {ta tb : TE} {pos : Pos} {op : CmpOp} {r : R2} (ho : OpR X (compareOp op) r) (ha : Bx (PE X a ta)) (hb : Bx (PE X b tb)) (hm : behindInMarks op b = false) : Bx (PT X (Expr.Compare a [op] [b] pos) (tTest (tOp r ta tb))) := ⟨pt_cmpR ho ha.un hb.un hm⟩
theorem bpw_and1 {X : Cx} {a : Expr} {pos : Pos} {tA : TT} (ha : Bx (PT X a tA)) : Bx (PW X (Expr.BoolOp BoolOp.And [a] pos) tA) := ⟨pw_and1 ha.un⟩
theorem bpw_and {X : Cx} {a b : Expr} {pos : Pos} {tA tB' : TT} {rest : List Expr} (ha : Bx (PT X a tA)) (hb : Bx (PW X (Expr.BoolOp BoolOp.And (b :: rest) pos) tB')) : Bx (PW X (Expr.BoolOp BoolOp.And (a :: b :: rest) pos) (tAnd tA tB')) := ⟨pw_and ha.un hb.un⟩
theorem bpw_or1 {X : Cx} {a : Expr} {pos : Pos} {tA : TT} (ha : Bx (PT X a tA)) : Bx (PW X (Expr.BoolOp BoolOp.Or [a] pos) tA) := ⟨pw_or1 ha.un⟩
theorem bpw_or {X : Cx} {a b : Expr} {pos : Pos} {tA tB' : TT} {rest : List Expr} (ha : Bx (PT X a tA)) (hb : Bx (PW X (Expr.BoolOp BoolOp.Or (b :: rest) pos) tB')) : Bx (PW X (Expr.BoolOp BoolOp.Or (a :: b :: rest) pos) (tOr tA tB')) := ⟨pw_or ha.un hb.un⟩
theorem bpt_not {X : Cx} {a : Expr} {pos : Pos} {tA : TT} (ha : Bx (PT X a tA)) : Bx (PT X (Expr.UnaryOp UnaryOp.Not a pos) (tNot tA)) := ⟨pt_not ha.un⟩
theorem bpt_val {X : Cx} {e : Expr} {t : TE} (h : Bx (PE X e t)) (he : ∀ whole, isTrue e X.env whole = (do let v ← whole; standAt e.pos; holding [v] (truthy v)) := by intro _; rfl) : Bx (PT X e (tB t)) := ⟨pt_val h.un he⟩
theorem bpt_cmp {X : Cx} {a b : Expr} {pos : Pos} {op : CmpOp} {t : TE} (h : Bx (PC X op a b t)) (h1 : behindInMarks op b = false := by first | exact nobehind _ (by decide) (by decide) | rfl) : Bx (PT X (Expr.Compare a [op] [b] pos) (tB t)) := ⟨pt_cmp h.un h1⟩
theorem bpc_din {X : Cx} {o i : Expr} {td ty : TE} (hu : Around.units (Cx.A X) + (1 : Nat) < cLine) (hi : Bx (PE X i ty)) (ho : Bx (PE X o td)) : Bx (PC X CmpOp.In i o (tDIn ty td)) := ⟨pc_din hu hi.un ho.un⟩
theorem bpc_dnotin {X : Cx} {o i : Expr} {td ty : TE} (hu : Around.units (Cx.A X) + (1 : Nat) < cLine) (hi : Bx (PE X i ty)) (ho : Bx (PE X o td)) : Bx (PC X CmpOp.NotIn i o (tDNotIn ty td)) := ⟨pc_dnotin hu hi.un ho.un⟩
theorem bpe_cmp {X : Cx} {a b : Expr} {pos : Pos} {op : CmpOp} {t : TE} (h : Bx (PC X op a b t)) (h1 : behindInMarks op b = false := by first | exact nobehind _ (by decide) (by decide) | rfl) : Bx (PE X (Expr.Compare a [op] [b] pos) t) := ⟨pe_cmp h.un h1⟩
theorem bpe_cmpR {X : Cx} {a b : Expr} {ta tb : TE} {pos : Pos} {op : CmpOp} {r : R2} (ho : OpR X (compareOp op) r) (ha : Bx (PE X a ta)) (hb : Bx (PE X b tb)) (hm : behindInMarks op b = false) : Bx (PE X (Expr.Compare a [op] [b] pos) (tOp r ta tb)) := ⟨pe_cmpR ho ha.un hb.un hm⟩
theorem bpv {X : Cx} (i : Nat) {x : Str} {pos : Pos} (hN : (Cx.N X)[i]? = some x := by rfl) (hv : Vis (Env.scope (Cx.env X)) x := by first | exact Or.inl rfl | exact Or.inr (Or.inl rfl) | exact Or.inr (Or.inr rfl)) (hd : (x == Str.ofString "__debug__") = false := by decide) (hcd : (x == Str.ofString "__classdict__") = false := by decide) : Bx (PE X (Expr.Name x pos) (tVar i)) := ⟨pv i hN hv hd hcd⟩
theorem bpe_const {X : Cx} {x : Str} {v : V} {pos : Pos} (h : ∃ (u : Value), Cx.mg X x = some u ∧ L2.RelV v u) (hg : Gl X x := by rfl) (hd : (x == Str.ofString "__debug__") = false := by decide) : Bx (PE X (Expr.Name x pos) (tC v)) := ⟨pe_const h hg hd⟩
theorem bpe_ty {X : Cx} {x : Str} {T : String} {pos : Pos} (hm : Cx.mg X x = none) (hv : bootBuiltins x = some (Value.type T)) (hg : Gl X x := by rfl) (hn : x ≠ Str.ofString "__name__" := by decide) (hd : (x == Str.ofString "__debug__") = false := by decide) : Bx (PE X (Expr.Name x pos) (tC (V.ty T))) := ⟨pe_ty hm hv hg hn hd⟩
theorem bpe_bl {X : Cx} {b : Bool} {j : Nat} {pos : Pos} : Bx (PE X (Expr.Constant (Const.bool b) j pos) (tC (V.bl b))) := ⟨pe_bl ⟩
theorem bpe_int {X : Cx} {i : Int} {j : Nat} {pos : Pos} : Bx (PE X (Expr.Constant (Const.int i) j pos) (tC (V.int i))) := ⟨pe_int ⟩
theorem bpe_str {X : Cx} {x : Str} {j : Nat} {pos : Pos} : Bx (PE X (Expr.Constant (Const.str x) j pos) (tC (V.str x))) := ⟨pe_str ⟩
theorem bpe_op {X : Cx} {a b : Expr} {ta tb : TE} {pos : Pos} {op : Operator} {r : R2} (ho : OpR X (binaryOp op) r) (ha : Bx (PE X a ta)) (hb : Bx (PE X b tb)) : Bx (PE X (Expr.BinOp a op b pos) (tOp r ta tb)) := ⟨pe_op ho ha.un hb.un⟩
theorem bpe_un {X : Cx} {a : Expr} {ta : TE} {pos : Pos} {op : UnaryOp} {r : V → Hp → VK → Prop} (ho : UnR X (unaryOp op) r) (ha : Bx (PE X a ta)) : Bx (PE X (Expr.UnaryOp op a pos) (tUn r ta)) := ⟨pe_un ho ha.un⟩
theorem bpe_not {X : Cx} {a : Expr} {ta : TE} {pos : Pos} (ha : Bx (PE X a ta)) : Bx (PE X (Expr.UnaryOp UnaryOp.Not a pos) (tNotV ta)) := ⟨pe_not ha.un⟩
theorem bpe_betw {X : Cx} {a b c : Expr} {ta tb : TE} {k : Int} {pos : Pos} (ha : Bx (PE X a ta)) (hb : Bx (PE X b tb)) (hc : Bx (PE X c (tC (V.int k)))) (hm : lastMarks [CmpOp.LtE, CmpOp.LtE] [b, c] = false := by with_unfolding_all rfl) : Bx (PE X (Expr.Compare a [CmpOp.LtE, CmpOp.LtE] [b, c] pos) (tBetw ta tb k)) := ⟨pe_betw ha.un hb.un hc.un hm⟩
theorem bpe_one {X : Cx} {a : Expr} {pos : Pos} {op : BoolOp} {t : TE} (h : Bx (PE X a t)) : Bx (PE X (Expr.BoolOp op [a] pos) t) := ⟨pe_one h.un⟩
theorem bpe_and {X : Cx} {a b : Expr} {ta tb : TE} {pos : Pos} {rest : List Expr} (ha : Bx (PE X a ta)) (hb : Bx (PE X (Expr.BoolOp BoolOp.And (b :: rest) pos) tb)) : Bx (PE X (Expr.BoolOp BoolOp.And (a :: b :: rest) pos) (tAndV ta tb)) := ⟨pe_and ha.un hb.un⟩
theorem bpe_ifExp {X : Cx} {a b : Expr} {ta tb : TE} {pos : Pos} {tA : TT} {c : Expr} (hc : Bx (PT X c tA)) (ha : Bx (PE X a ta)) (hb : Bx (PE X b tb)) : Bx (PE X (Expr.IfExp c a b pos) (tIf tA ta tb)) := ⟨pe_ifExp hc.un ha.un hb.un⟩
theorem bpe_slice {X : Cx} {e : Expr} {te : TE} {lo hi : Option Expr} {tl th : TO} {pos p2 : Pos} {r : V → Option Int → Option Int → Hp → VK → Prop} (hr : SlR X r) (he : Bx (PE X e te)) (hl : Bx (PO X lo tl)) (hu : Bx (PO X hi th)) : Bx (PE X (Expr.Subscript e (Expr.Slice lo hi none p2) pos) (tSl r te tl th)) := ⟨pe_slice hr he.un hl.un hu.un⟩
theorem bpo_none {X : Cx} : Bx (PO X none tNoPart) := ⟨po_none ⟩
theorem bpo_some {X : Cx} {e : Expr} {te : TE} (h : Bx (PE X e te)) : Bx (PO X (some e) (tPart te)) := ⟨po_some h.un⟩
theorem bpe_ixA {X : Cx} {a b : Expr} {ta tb : TE} {pos : Pos} {r : R2} (hr : IxR X r) (ha : Bx (PE X a ta)) (hb : Bx (PE X b tb)) (hs : PlainIx b := by exact fun _ _ => rfl) : Bx (PE X (Expr.Subscript a b pos) (tOp r ta tb)) := ⟨pe_ixA hr ha.un hb.un hs⟩
theorem bpe_dgetA {X : Cx} {o i : Expr} {td ty : TE} {pos : Pos} (hu : Around.units (Cx.A X) + (1 : Nat) < cLine) (ho : Bx (PE X o td)) (hi : Bx (PE X i ty)) (hs : NoSl i := by exact fun _ _ => rfl) : Bx (PE X (Expr.Subscript o i pos) (tDGet td ty)) := ⟨pe_dgetA hu ho.un hi.un hs⟩
theorem bpe_lst {X : Cx} {es : List Expr} {t : TA} {pos : Pos} (h : Bx (PA X es t)) : Bx (PE X (Expr.List es pos) (tLst t)) := ⟨pe_lst h.un⟩
theorem bpe_lstS {X : Cx} {es : List Expr} {xs : List Str} {pos : Pos} (h : strConsts es = some xs := by rfl) : Bx (PE X (Expr.List es pos) (tLstC (List.map V.str xs))) := ⟨pe_lstS h⟩
theorem bpe_tup {X : Cx} {es : List Expr} {t : TA} {pos : Pos} {x1 : Nat} (h : Bx (PA X es t)) : Bx (PE X (Expr.Tuple es x1 pos) (tTup t)) := ⟨pe_tup h.un⟩
theorem bpe_dnewK {X : Cx} {pos : Pos} : Bx (PE X (Expr.Dict [] [] pos) tDNewK) := ⟨pe_dnewK ⟩
theorem bpe_fldA {X : Cx} {e : Expr} {ta : TE} {pos : Pos} {f : Str} (he : Bx (PE X e ta)) (hb : attributeBase e f (Cx.env X) (eval e (Cx.env X)) = eval e (Cx.env X) := by rfl) : Bx (PE X (Expr.Attribute e f pos) (tFld (Cx.K X) ta f)) := ⟨pe_fldA he.un hb⟩
theorem bpe_fnx {X : Cx} {P : Program} {w : World} {k : Nat} {f : Addr} {fd : FuncData} {ps : List Str} {sp : Sp} {E : XK} {x : Str} {st : Stmt} {p pos : Pos} {e : Expr} {es : List Expr} {t : TA} (D : DefOk (Cx.K X) (Cx.mg X) x st ps f fd) (F : FnOk (Cx.prog X) (Cx.w X) (Cx.K X) (Cx.mg X) (Cx.base X) (CX1 P w) k f fd ps sp) (hr : Room k (Cx.A X)) (hx : Passes (CX1 P w) X E) (ha : Bx (PA X (e :: es) t)) (hg : Gl X x := by rfl) (hdb : (x == Str.ofString "__debug__") = false := by decide) (he : starEach (e :: es) (Cx.env X) = (false, eval e (Cx.env X)) :: starEach es (Cx.env X) := by rfl) (hpl : (List.any (backTo pos (starEach es (Cx.env X))) fun (x : Bool × Sem Value) => Prod.fst x) = false := by rfl) : Bx (PE X (Expr.Call (Expr.Name x p) (e :: es) [] pos) (tCall sp [] E t)) := ⟨pe_fnx D F hr hx ha.un hg hdb he hpl⟩
theorem bpe_make0 {X : Cx} {CX : CXT} {k : Nat} {f C : Addr} {fd : FuncData} {ps : List Str} {sp : Sp} {dvs : List V} {ds : List Value} {E : XK} {x : Str} {p pos : Pos} (M : Mk (Cx.K X) C f) (F : FnOk (Cx.prog X) (Cx.w X) (Cx.K X) (Cx.mg X) (Cx.base X) CX k f fd ps sp) (hr : Room (k + (1 : Nat)) (Cx.A X)) (hg : Gl X x) (hm : Cx.mg X x = some (Value.ref C)) (hb : L2.Binds (Cx.K X) fd ps ds) (hd : Vals dvs ds) (hx : Passes CX X E) (hdb : (x == Str.ofString "__debug__") = false := by decide) : Bx (PE X (Expr.Call (Expr.Name x p) [] [] pos) (tMake C sp dvs E tNil)) := ⟨pe_make0 M F hr hg hm hb hd hx hdb⟩
theorem bpe_callB {X : Cx} {x : Str} {p pos : Pos} {e : Expr} {es : List Expr} {t : TA} {id : String} {r : List V → Hp → VK → Prop} (hc : CallR X (Value.builtin id) r) (hg : Gl X x) (hm : Cx.mg X x = none) (hv : bootBuiltins x = some (Value.builtin id)) (ha : Bx (PA X (e :: es) t)) (hn : x ≠ Str.ofString "__name__" := by decide) (hdb : (x == Str.ofString "__debug__") = false := by decide) (he : starEach (e :: es) (Cx.env X) = (false, eval e (Cx.env X)) :: starEach es (Cx.env X) := by rfl) (hpl : (List.any (backTo pos (starEach es (Cx.env X))) fun (x : Bool × Sem Value) => Prod.fst x) = false := by rfl) : Bx (PE X (Expr.Call (Expr.Name x p) (e :: es) [] pos) (tCB r t)) := ⟨pe_callB hc hg hm hv ha.un hn hdb he hpl⟩
theorem bpe_callTy {X : Cx} {x : Str} {p pos : Pos} {e : Expr} {es : List Expr} {t : TA} {T : String} {r : List V → Hp → VK → Prop} (hc : CallR X (Value.type T) r) (hg : Gl X x) (hm : Cx.mg X x = none) (hv : bootBuiltins x = some (Value.type T)) (ha : Bx (PA X (e :: es) t)) (hn : x ≠ Str.ofString "__name__" := by decide) (hdb : (x == Str.ofString "__debug__") = false := by decide) (he : starEach (e :: es) (Cx.env X) = (false, eval e (Cx.env X)) :: starEach es (Cx.env X) := by rfl) (hpl : (List.any (backTo pos (starEach es (Cx.env X))) fun (x : Bool × Sem Value) => Prod.fst x) = false := by rfl) : Bx (PE X (Expr.Call (Expr.Name x p) (e :: es) [] pos) (tCB r t)) := ⟨pe_callTy hc hg hm hv ha.un hn hdb he hpl⟩
theorem bpe_bm0 {X : Cx} {o : Expr} {to : TE} {name : Str} {apos cpos : Pos} {T id : String} {r : V → List V → Hp → VK → Prop} (pa : PlainAttrs T) (slot : Slot T name id) (hty : typeOf (Value.builtin id) = pure (Value.type "method_descriptor")) (hm : MtR X id r) (ho : Bx (PE X o to)) (hbase : attributeBase o name (Cx.env X) (eval o (Cx.env X)) = eval o (Cx.env X) := by rfl) (hline : (Pos.endLine apos == Pos.line cpos) = true := by rfl) : Bx (PE X (Expr.Call (Expr.Attribute o name apos) [] [] cpos) (tBM0 (Cx.K X) T r to)) := ⟨pe_bm0 pa slot hty hm ho.un hbase hline⟩
theorem bpe_bm {X : Cx} {o e : Expr} {es : List Expr} {to : TE} {t : TA} {name : Str} {apos cpos : Pos} {T id : String} {r : V → List V → Hp → VK → Prop} (pa : PlainAttrs T) (slot : Slot T name id) (hty : typeOf (.builtin id) = pure (.type "method_descriptor")) (hm : MtR X id r) (ho : Bx (PE X o to)) (ha : Bx (PA X (e :: es) t))
    (hbase : attributeBase o name X.env (eval o X.env) = eval o X.env := by rfl)
    (hfew : ((backTo cpos (starEach (e :: es) X.env)).all (fun x => !x.1) && (backToKw cpos (keywordEach [] X.env)).all (fun x => x.1.isSome) && decide ((e :: es).length + ([] : List Keyword).length + (if ([] : List Keyword).isEmpty then 0 else 1) < 30)) = true := by rfl)
    (hline : (apos.endLine == cpos.line) = true := by rfl) (hs : starEach (e :: es) X.env = (false, eval e X.env) :: starEach es X.env := by rfl) (hplain : (backTo cpos (starEach es X.env)).any (·.1) = false := by rfl) :
    Bx (PE X (.Call (.Attribute o name apos) (e :: es) [] cpos) (tBM X.K T r to t)) := ⟨pe_bm pa slot hty hm ho.un ha.un hbase hfew hline hs hplain⟩
theorem bpe_dpop1 {X : Cx} {o e : Expr} {apos cpos : Pos} {td ty : TE} (ho : Bx (PE X o td)) (he : Bx (PE X e ty)) (m : M1 X o (Str.ofString "pop") apos e cpos := by exact ⟨rfl, rfl, rfl, rfl⟩) : Bx (PE X (Expr.Call (Expr.Attribute o (Str.ofString "pop") apos) [e] [] cpos) (tDPop1 td ty)) := ⟨pe_dpop1 ho.un he.un m⟩
theorem bpe_mx {X : Cx} {P : Program} {w : World} {k : Nat} {f C : Addr} {fd : FuncData} {ps : List Str} {sp : Sp} {E : XK} {m qual : Str} {st : Stmt} {apos pos : Pos} {e o : Expr} {es : List Expr} {ta : TE} {t : TA} {pl : Sem Bool} (he : Bx (PE X o ta)) (c : Cls X.K C) (D : MethOk X.K C m qual st ps f fd) (F : FnOk X.prog X.w X.K X.mg X.base (CX1 P w) k f fd ps sp) (hr : Room k X.A) (hx : Passes (CX1 P w) X E) (ha : Bx (PA X (e :: es) t))
    (hst : starEach (e :: es) X.env = (false, eval e X.env) :: starEach es X.env := by rfl) (hpl : (backTo pos (starEach es X.env)).any (·.1) = false := by rfl)
    (ht : eval (.Call (.Attribute o m apos) (e :: es) [] pos) X.env = (do
      let ov ← eval o X.env
      standAt apos.atName
      let (f, first) ← holding [ov] (getMethod ov m pl)
      callWith pos f first (backTo pos (starEach (e :: es) X.env)) (backToKw pos (keywordEach [] X.env))) := by rfl) :
    Bx (PE X (.Call (.Attribute o m apos) (e :: es) [] pos) (tMeth C m sp [] E ta t)) := ⟨pe_mx he.un c D F hr hx ha.un hst hpl ht⟩
theorem bpe_mx0 {X : Cx} {P : Program} {w : World} {k : Nat} {f C : Addr} {fd : FuncData} {ps : List Str} {sp : Sp} {E : XK} {m qual : Str} {st : Stmt} {apos pos : Pos} {o : Expr} {ta : TE} {pl : Sem Bool} (he : Bx (PE X o ta)) (c : Cls X.K C) (D : MethOk X.K C m qual st ps f fd) (F : FnOk X.prog X.w X.K X.mg X.base (CX1 P w) k f fd ps sp) (hr : Room k X.A) (hx : Passes (CX1 P w) X E)
    (ht : eval (.Call (.Attribute o m apos) [] [] pos) X.env = (do
      let ov ← eval o X.env
      standAt apos.atName
      let (f, first) ← holding [ov] (getMethod ov m pl)
      callWith pos f first (backTo pos (starEach [] X.env)) (backToKw pos (keywordEach [] X.env))) := by rfl) :
    Bx (PE X (.Call (.Attribute o m apos) [] [] pos) (tMeth C m sp [] E ta tNil)) := ⟨pe_mx0 he.un c D F hr hx ht⟩
theorem Bx.bpt {X : Cx} {e : Expr} {t : TT} (h : Bx (PW X e t)) : Bx (PT X e t) := ⟨PW.pt h.un⟩
end L2
set_option Elab.async false
set_option linter.all false
set_option maxRecDepth 100000
namespace L2
open PySem PySem.Spec PyProof.Rows
theorem cxH_K {P : Program} {w : World} {K : PySem.W.Frag} {mg : Str → Option Value} {base : Heap} {N : List Str} {qual : Str} {scope : Scope} {f : Addr} {cd : Value} {A : Around} {outer : List Env} {s : Shared} {H : Hp} :
    (cxH P w K mg base N qual scope f cd A outer s H).K = K := rfl
theorem tyV_str {K : PySem.W.Frag} {z : Str} {H : Hp} : tyV K "str" (.str z) H = True := eq_true rfl
theorem tyV_lst {K : PySem.W.Frag} {p : Addr} {H : Hp} {xs : List V} (h : SqL K H p xs) : tyV K "list" (.ref p) H := .inl ⟨rfl, xs, h⟩
theorem ite_T {A B : Prop} {c : Prop} [Decidable c] (hc : c) (h : A) : if c then A else B := by rw [if_pos hc]; exact h
theorem ite_F {A B : Prop} {c : Prop} [Decidable c] (hc : ¬ c) (h : B) : if c then A else B := by rw [if_neg hc]; exact h
end L2
namespace L2
open PySem PySem.Spec PyProof.Rows
theorem web_new {C : Addr} {H H1 : Hp} {p dx : Addr} {W : WS} (hp : H p = none) (hdx : H dx = none) (off : ∀ b o, b ≠ p → upd (upd H dx (.own p)) p (.ins C dx []) b = some o → H1 b = some o)
    (own : ∀ b ∈ W.own p, b = p ∨ upd (upd H dx (.own p)) p (.ins C dx []) b = none) : Mine H H1 (W.own p) := by
  refine ⟨fun b o e => off b o (ne_of_none e hp) ?_, fun b hb => ?_⟩
  · rw [upd_ne (ne_of_none e hp), upd_ne (ne_of_none e hdx)]
    exact e
  · rcases own b hb with rfl | z
    · exact hp
    · by_cases h1 : b = p
      · rw [h1]; exact hp
      · rw [upd_ne h1] at z
        by_cases h2 : b = dx
        · rw [h2]; exact hdx
        · rw [upd_ne h2] at z
          exact z
theorem WebAt.beside {C : Addr} {H : Hp} {p a : Addr} {W : WS} {o : HO} (w : WebAt C H p W) (ha : a ∉ W.own p) (ht : ∀ xs, H a ≠ some (.tup xs)) : WebAt C (upd H a o) p W :=
  w.keep (fun b u hb e => by rw [upd_ne (fun z => ha (by rw [← z]; exact hb))]; exact e) fun b xs e => by
    rw [upd_ne (fun z => ht xs (by rw [← z]; exact e))]
    exact e
end L2
set_option Elab.async false
set_option linter.all false
set_option maxRecDepth 100000
namespace L2
open PySem PySem.Spec PyProof.Rows
section
variable {prog : Program} {w : World} {A : Around} {E : Value → Shared → Prop} {s : Shared} {a₀ : Array Keyed} {κ : PyProof.Rows.KeyKind}
end
end L2
namespace L2
open PySem PySem.Spec PyProof.Rows
section
variable {prog : Program} {w : World} {A : Around} {E : Value → Shared → Prop} {s : Shared}
end
end L2
set_option Elab.async false
set_option linter.all false
set_option maxRecDepth 100000
namespace L2
open PySem PySem.Spec PyProof.Rows PySem.Builtin PySem.Builtin.Str
def cutC (c : Nat) : List Nat → List (List Nat)
  | [] => [[]]
  | a :: r => if a = c then [] :: cutC c r else match cutC c r with
    | [] => [[a]]
    | p :: q => (a :: p) :: q
def joinC (c : Nat) : List (List Nat) → List Nat
  | [] => []
  | [p] => p
  | p :: q :: r => p ++ c :: joinC c (q :: r)
section
variable {X : Cx}
def rSplit : V → List V → Hp → VK → Prop := fun x xs H Q => ∃ (c : Nat) (l : List Nat), x = .str (tx l) ∧ xs = [.str ⟨#[c]⟩] ∧ l.length + 2 ≤ sizeLine ∧ ∀ p, H p = none → Q (.ref p) (upd H p (.lst ((cutC c l).map fun z => .str (tx z))))
def rJoinS (K : PySem.W.Frag) : V → List V → Hp → VK → Prop := fun x xs H Q => ∃ (p : Addr) (ys : List (List Nat)) (c : Nat), x = .str (tx [c]) ∧ xs = [.ref p] ∧ SqL K H p (ys.map fun l => V.str (tx l)) ∧ (ys.map List.length).sum + ys.length ≤ 16777216 ∧ Q (.str (tx (joinC c ys))) H
end
def PEp (X : Cx) (e : Expr) (t : TE) : Prop := ∀ (pins : List (Addr × Obj)) (s : Shared) (σ : St) (H : Hp) (Q : VK), 1 ≤ s.toks → Inv X pins σ H s → t σ H Q → wpAny (model X.prog X.w) X.A (eval e X.env) (EP X pins σ Q) X.xe s
def PAp (X : Cx) (es : List Expr) (t : TA) : Prop := ∀ (pos : Pos) (pins : List (Addr × Obj)) (s : Shared) (σ : St) (H : Hp) (Q : List V → Hp → Prop), 1 ≤ s.toks → Inv X pins σ H s → t σ H Q → wpAny (model X.prog X.w) X.A (spliced (backTo pos (starEach es X.env))) (AP X pins σ Q) X.xe s
def PSp (X : Cx) (st : Stmt) (t : TS) : Prop := ∀ (pins : List (Addr × Obj)) (s : Shared) (σ : St) (H : Hp) (D : Ends), 1 ≤ s.toks → Inv X pins σ H s → t D σ H → wpAny (model X.prog X.w) X.A (exec st X.env) (SP X pins D) X.xe s
def PSsp (X : Cx) (st : List Stmt) (t : TS) : Prop := ∀ (pins : List (Addr × Obj)) (s : Shared) (σ : St) (H : Hp) (D : Ends), 1 ≤ s.toks → Inv X pins σ H s → t D σ H → wpAny (model X.prog X.w) X.A (execs st X.env) (SP X pins D) X.xe s
section
variable {X : Cx} {st : Stmt} {rest : List Stmt} {t u : TS} {e : Expr} {es : List Expr} {te : TE} {ta : TA}
def tRepl (c : Str) (d : Str) (to : TE) : TE := fun σ H Q => to σ H fun x H1 => ∃ (l : List Nat) (k : Nat), x = .str (tx l) ∧ c = ⟨#[k]⟩ ∧ d = ⟨#[]⟩ ∧ l.length ≤ 100000 ∧ Q (.str (tx (l.filter (· != k)))) H1
end
end L2
namespace L2
open PySem PySem.Spec PyProof.Rows
section
variable {X : Cx} {st : Stmt} {rest : List Stmt} {t u : TS} {e : Expr} {es : List Expr} {te : TE} {ta : TA}
end
end L2
namespace L2
end L2
set_option Elab.async false
set_option linter.all false
set_option maxRecDepth 100000
namespace L2
open PySem PySem.Spec PyProof.Rows
section
variable {X : Cx}
theorem bps_while {c : Expr} {body : List Stmt} {tc : TT} {tb : TS} {pos : Pos} (hp : PassesOwn (model X.prog X.w) X.A X.env X.xe) (hc : Bx (PT X c tc)) (hb : Bx (PSs X body tb)) : Bx (PS X (.While c body [] pos) (tWhile tc tb)) := ⟨ps_while hp hc.un hb.un⟩
end
structure Mrk where
  nm : List Nat
  back : Bool
  sg : List Nat
  num : Int
structure MrkOk (m : Mrk) : Prop where
  nm : okT m.nm
  sg : okT m.sg
def markC : List Nat := [109, 97, 114, 107]
def rowC : List Nat := [114, 111, 119]
def orC : List Nat := [111, 114]
def manyC : List Nat := [109, 97, 110, 121]
def someC : List Nat := [115, 111, 109, 101]
def maybeC : List Nat := [109, 97, 121, 98, 101]
def ones : List (List Nat) := [manyC, someC, maybeC]
def twos : List (List Nat) := [rowC, orC]
inductive Tr where
  | mark (m : Mrk)
  | two (k : List Nat) (l r : Tr)
  | one (k : List Nat) (t : Tr)
def Tr.deep : Tr → Nat
  | .mark _ => 1
  | .two _ l r => max l.deep r.deep + 1
  | .one _ t => t.deep + 1
def Tr.marks : Tr → List Mrk
  | .mark m => [m]
  | .two _ l r => l.marks ++ r.marks
  | .one _ t => t.marks
def Mrk.turn (m : Mrk) : Mrk := { m with back := !m.back }
def Tr.turn : Tr → Tr
  | .mark m => .mark m.turn
  | .two k l r => if k = rowC then .two k r.turn l.turn else .two k l.turn r.turn
  | .one k t => .one k t.turn
def mkV (m : Mrk) : List V := [.str (tx markC), .str (tx m.nm), .bl m.back, .str (tx m.sg), .int m.num]
inductive TreeAt (H : Hp) : Addr → Tr → Prop
  | mark {a : Addr} {m : Mrk} : H a = some (.tup (mkV m)) → MrkOk m → TreeAt H a (.mark m)
  | two {a l r : Addr} {k : List Nat} {x y : Tr} : H a = some (.tup [.str (tx k), .ref l, .ref r]) → k ∈ twos → TreeAt H l x → TreeAt H r y → TreeAt H a (.two k x y)
  | one {a i : Addr} {k : List Nat} {x : Tr} : H a = some (.tup [.str (tx k), .ref i]) → k ∈ ones → TreeAt H i x → TreeAt H a (.one k x)
theorem TreeAt.keep {H H' : Hp} {a : Addr} {t : Tr} (k : ∀ b xs, H b = some (.tup xs) → H' b = some (.tup xs)) (h : TreeAt H a t) : TreeAt H' a t := by
  induction h with
  | mark e o => exact .mark (k _ _ e) o
  | two e hk _ _ i1 i2 => exact .two (k _ _ e) hk i1 i2
  | one e hk _ i1 => exact .one (k _ _ e) hk i1
theorem TreeAt.same {H H' : Hp} {a : Addr} {t : Tr} (s : Same H H') (h : TreeAt H a t) : TreeAt H' a t := h.keep fun b xs e => s b _ e
theorem TreeAt.step {H H' : Hp} {F F' : List Addr} {a : Addr} {t : Tr} (s : Step H F H' F') (h : TreeAt H a t) : TreeAt H' a t := h.keep s.tup
theorem TreeAt.some {H : Hp} {a : Addr} {t : Tr} (h : TreeAt H a t) : ∃ xs, H a = some (.tup xs) := by
  cases h with
  | mark e _ => exact ⟨_, e⟩
  | two e _ _ _ => exact ⟨_, e⟩
  | one e _ _ => exact ⟨_, e⟩
theorem Mrk.turn_turn (m : Mrk) : m.turn.turn = m := by
  cases m
  simp [Mrk.turn]
theorem Tr.turn_turn : ∀ t : Tr, t.turn.turn = t
  | .mark m => by simp [Tr.turn, Mrk.turn_turn]
  | .two k l r => by
    have h1 := l.turn_turn
    have h2 := r.turn_turn
    by_cases h : k = rowC
    · simp [Tr.turn, h, h1, h2]
    · simp [Tr.turn, h, h1, h2]
  | .one k t => by
    have h1 := t.turn_turn
    simp [Tr.turn, h1]
def Tr.Low (t : Tr) : Prop := t.deep + 1 ≤ 24 + t.marks.length
theorem datMark {K : PySem.W.Frag} {H : Hp} {a : Addr} {m : Mrk} (h : H a = some (.tup (mkV m))) : DatV K H (.ref a) (.tuple [.str (tx markC), .str (tx m.nm), .bool m.back, .str (tx m.sg), .int m.num]) :=
  .tup (SqT.of h) (.cons (.str _) (.cons (.str _) (.cons (.bl _) (.cons (.str _) (.cons (.int _) .nil)))))
end L2
namespace L2
open PySem PySem.Spec PyProof.Rows
inductive All2 {α β : Type} (R : α → β → Prop) : List α → List β → Prop
  | nil : All2 R [] []
  | cons {a : α} {b : β} {as : List α} {bs : List β} : R a b → All2 R as bs → All2 R (a :: as) (b :: bs)
theorem All2.imp {α β : Type} {R S : α → β → Prop} (h : ∀ a b, R a b → S a b) : ∀ {as : List α} {bs : List β}, All2 R as bs → All2 S as bs
  | _, _, .nil => .nil
  | _, _, .cons r t => .cons (h _ _ r) (t.imp h)
theorem All2.snoc {α β : Type} {R : α → β → Prop} {a : α} {b : β} (r : R a b) : ∀ {as : List α} {bs : List β}, All2 R as bs → All2 R (as ++ [a]) (bs ++ [b])
  | _, _, .nil => .cons r .nil
  | _, _, .cons r' t => .cons r' (t.snoc r)
theorem All2.append {α β : Type} {R : α → β → Prop} : ∀ {as cs : List α} {bs ds : List β}, All2 R as bs → All2 R cs ds → All2 R (as ++ cs) (bs ++ ds)
  | _, _, _, _, .nil, h => h
  | _, _, _, _, .cons r t, h => .cons r (t.append h)
theorem All2.len {α β : Type} {R : α → β → Prop} : ∀ {as : List α} {bs : List β}, All2 R as bs → as.length = bs.length
  | _, _, .nil => rfl
  | _, _, .cons _ t => by simp [t.len]
theorem All2.get {α β : Type} {R : α → β → Prop} : ∀ {as : List α} {bs : List β} {i : Nat} {a : α} {b : β}, All2 R as bs → as[i]? = some a → bs[i]? = some b → R a b
  | _, _, 0, _, _, .cons r _, h1, h2 => by
    simp at h1 h2
    rw [← h1, ← h2]
    exact r
  | _, _, i + 1, _, _, .cons _ t, h1, h2 => t.get (i := i) (by simpa using h1) (by simpa using h2)
theorem comp_rel {α : Type} {J : It} {H1 : Hp} {fr : List Nat} {σ : St} {te : TE} {Q : VK} {cs : List α} {g : α → V} (T : Tells J H1 (cs.map g)) (R : Hp → α → V → Prop) (mono : ∀ c v H H', Same H H' → R H c v → R H' c v) (hz : cs.length ≤ sizeLine)
    (he : ∀ c H2 Q2, c ∈ cs → Same H1 H2 → (∀ v H3, Same H2 H3 → R H3 c v → Q2 v H3) → te (stB1 (g c) fr σ) H2 Q2)
    (off : ∀ H c v D ys zs, H D = some (.lst ys) → R H c v → R (upd H D (.lst zs)) c v)
    (hQ : ∀ D H2 ys, H1 D = none → Same H1 H2 → H2 D = some (.lst ys) → All2 (R H2) cs ys → Q (.ref D) H2) : CompR J H1 fr σ tYes te Q := by
  intro D hD
  have hlen : (cs.map g).length = cs.length := List.length_map ..
  refine ⟨fun i m ys H2 => m = cs.length - i ∧ i ≤ cs.length ∧ All2 (R H2) (cs.take i) ys ∧ Same H1 H2 ∧ H2 D = some (.lst ys), ⟨_, rfl, Nat.zero_le _, .nil, Same.new hD, upd_same⟩, ?_⟩
  rintro i m ys H2 ⟨rfl, hi, a2, s2, d2⟩
  by_cases hlt : i < cs.length
  · refine .inr ⟨T.go i H2 (by rw [hlen]; exact hlt) s2, fun x H3 y => ?_⟩
    obtain ⟨rfl, hx⟩ := T.yld i H2 x H3 s2 (by rw [hlen]; exact hlt) y
    rw [List.getElem?_map] at hx
    cases hc : cs[i]? with
    | none => rw [hc] at hx; cases hx
    | some c =>
      rw [hc] at hx
      obtain rfl : g c = x := Option.some.inj hx
      have hm : c ∈ cs := List.mem_of_getElem? hc
      unfold tYes
      dsimp only
      rw [if_pos rfl]
      refine he c H3 _ hm s2 fun v H5 s5 r5 => ⟨s5 _ _ d2, ?_, _, ?_, rfl, hlt, ?_, (s2.trans s5).upd_new hD, upd_same⟩
      · have := a2.len
        rw [List.length_take] at this
        omega
      · omega
      · rw [take_get hc]
        exact All2.snoc (off _ _ _ _ _ _ (s5 _ _ d2) r5) ((a2.imp fun a b r => mono a b _ _ s5 r).imp fun a b r => off _ _ _ _ _ _ (s5 _ _ d2) r)
  · obtain rfl : i = cs.length := by omega
    exact .inl ⟨by have := T.stop H2 s2; rw [hlen] at this; exact this, hQ D H2 ys hD s2 d2 (by rw [List.take_length] at a2; exact a2)⟩
theorem rd_ixT {K : PySem.W.Frag} {H : Hp} {a : Addr} {xs : List V} {i : Int} {v : V} {Q : VK} (h : H a = some (.tup xs)) (e : atI xs i = some v) (q : Q v H) : rIxT K (.ref a) (.int i) H Q := ⟨a, xs, i, v, rfl, rfl, SqT.of h, e, q⟩
theorem rd_ixL {K : PySem.W.Frag} {H : Hp} {a : Addr} {xs : List V} {i : Int} {v : V} {Q : VK} (h : H a = some (.lst xs)) (e : atI xs i = some v) (q : Q v H) : rIxL K (.ref a) (.int i) H Q := ⟨a, xs, i, v, rfl, rfl, SqL.of h, e, q⟩
theorem TreeAt.off {H : Hp} {a D : Addr} {t : Tr} {ys : List V} {o : HO} (h : TreeAt H a t) (d : H D = Option.some (HO.lst ys)) : TreeAt (upd H D o) a t := h.keep fun b xs e => by
  rw [upd_ne (fun z => by rw [z, d] at e; cases e)]
  exact e
def Tr.kids : Tr → List Tr
  | .mark _ => []
  | .two _ l r => [l, r]
  | .one _ t => [t]
def Tr.kind : Tr → List Nat
  | .mark _ => markC
  | .two k _ _ => k
  | .one k _ => k
theorem TreeAt.kids {H : Hp} {a : Addr} {tr : Tr} (h : TreeAt H a tr) : (∃ m, tr = .mark m ∧ H a = Option.some (.tup (mkV m)) ∧ MrkOk m) ∨
    (∃ as : List Addr, H a = Option.some (.tup (.str (tx tr.kind) :: as.map V.ref)) ∧ All2 (TreeAt H) as tr.kids ∧ tr.kind ∈ twos ++ ones ∧ tr.kind ≠ markC ∧ as.length ≤ 2 ∧ 1 ≤ as.length) := by
  have ne : ∀ k ∈ twos ++ ones, k ≠ markC := by decide
  cases h with
  | mark e o => exact .inl ⟨_, rfl, e, o⟩
  | @two _ l r k _ _ e hk hl hr => exact .inr ⟨[l, r], e, .cons hl (.cons hr .nil), List.mem_append_left _ hk, ne _ (List.mem_append_left _ hk), by simp, by simp⟩
  | @one _ i k _ e hk hi => exact .inr ⟨[i], e, .cons hi .nil, List.mem_append_right _ hk, ne _ (List.mem_append_right _ hk), by simp, by simp⟩
theorem All2.zip {α β : Type} {R : α → β → Prop} : ∀ {as : List α} {bs : List β}, All2 R as bs → ∀ c ∈ as.zip bs, R c.1 c.2
  | _, _, .nil, c, h => nomatch h
  | _, _, .cons r t, c, h => by
    rcases List.mem_cons.mp h with rfl | h
    · exact r
    · exact t.zip c h
theorem All2.rev {α β : Type} {R : α → β → Prop} : ∀ {as : List α} {bs : List β}, All2 R as bs → All2 R as.reverse bs.reverse
  | _, _, .nil => .nil
  | _, _, .cons r t => by
    rw [List.reverse_cons, List.reverse_cons]
    exact t.rev.snoc r
theorem TreeAt.turned {H0 H : Hp} {a p : Addr} {tr : Tr} {cs : List Addr} (ha : TreeAt H0 a tr) (nm : tr.kind ≠ markC) (e : H p = Option.some (.tup (.str (tx tr.kind) :: cs.map V.ref)))
    (h : All2 (TreeAt H) cs (if tr.kind = rowC then (tr.kids.map Tr.turn).reverse else tr.kids.map Tr.turn)) : TreeAt H p tr.turn := by
  cases ha with
  | mark _ _ => exact absurd rfl nm
  | two _ hk _ _ =>
    simp only [Tr.kind, Tr.kids, Tr.turn, List.map_cons, List.map_nil, List.reverse_cons, List.reverse_nil, List.nil_append, List.cons_append] at *
    split at h
    · rename_i hr
      rw [if_pos hr]
      cases h with
      | cons h1 h =>
        cases h with
        | cons h2 h =>
          cases h
          exact .two e hk h1 h2
    · rename_i hr
      rw [if_neg hr]
      cases h with
      | cons h1 h =>
        cases h with
        | cons h2 h =>
          cases h
          exact .two e hk h1 h2
  | one _ hk _ =>
    have ne : ∀ k ∈ ones, k ≠ rowC := by decide
    simp only [Tr.kind, Tr.kids, Tr.turn, List.map_cons, List.map_nil, if_neg (ne _ hk)] at *
    cases h with
    | cons h1 h =>
      cases h
      exact .one e hk h1
end L2
set_option Elab.async false
set_option linter.all false
set_option maxRecDepth 100000
namespace L2
open PySem PySem.Spec PyProof.Rows PySem.Builtin PySem.Builtin.Str
def firstAt (c : Nat) : List Nat → Option Nat
  | [] => none
  | a :: r => if a = c then some 0 else (firstAt c r).map (· + 1)
def findV (c : Nat) (l : List Nat) (i : Nat) : Int := match firstAt c (l.drop i) with | some j => ((i + j : Nat) : Int) | none => -1
section
variable {X : Cx}
def rStartsF : V → List V → Hp → VK → Prop := fun x xs H Q => ∃ (l : List Nat) (c i : Nat), x = .str (tx l) ∧ xs = [.str (tx [c]), .int (i : Int)] ∧ Q (.bl (decide (l[i]? = some c))) H
def rFindF : V → List V → Hp → VK → Prop := fun x xs H Q => ∃ (l : List Nat) (c i : Nat), x = .str (tx l) ∧ xs = [.str (tx [c]), .int (i : Int)] ∧ Q (.int (findV c l i)) H
def partC (c : Nat) (l : List Nat) : List Nat × List Nat × List Nat := match firstAt c l with | some j => (l.take j, [c], l.drop (j + 1)) | none => (l, [], [])
def rPartition : V → List V → Hp → VK → Prop := fun x xs H Q => ∃ (l : List Nat) (c : Nat), x = .str (tx l) ∧ xs = [.str (tx [c])] ∧ l.length ≤ sizeLine ∧ ∀ p, H p = none → Q (.ref p) (upd H p (.tup [.str (tx (partC c l).1), .str (tx (partC c l).2.1), .str (tx (partC c l).2.2)]))
def rMid : V → Option Int → Option Int → Hp → VK → Prop := fun x lo hi H Q => ∃ (l : List Nat) (i j : Nat), x = .str (tx l) ∧ lo = some (i : Int) ∧ hi = some (j : Int) ∧ i ≤ j ∧ j ≤ l.length ∧ l.length ≤ sizeLine ∧ Q (.str (tx ((l.drop i).take (j - i)))) H
def rInner : V → Option Int → Option Int → Hp → VK → Prop := fun x lo hi H Q => ∃ l : List Nat, x = .str (tx l) ∧ lo = some 1 ∧ hi = some (-1) ∧ 2 ≤ l.length ∧ l.length ≤ sizeLine ∧ Q (.str (tx ((l.drop 1).take (l.length - 2)))) H
end
end L2
namespace L2
open PySem PySem.Spec PyProof.Rows
def singles : List Nat := [46, 124, 42, 43, 63, 40, 41]
def isL (c : Nat) : Bool := decide (c ∈ abc)
def nameLen (r : List Nat) : Nat := if r.head? = some 95 then 1 else (r.takeWhile isL).length
def condLen (r : List Nat) : Option Nat := if r.head? = some 91 then (firstAt 93 r).map (· + 1) else some 0
def pieceLen (r : List Nat) : Option Nat := match r with
  | [] => none
  | c :: _ => if c ∈ singles then some 1 else (condLen (r.drop ((if c = 60 then 1 else 0) + nameLen (r.drop (if c = 60 then 1 else 0))))).map (((if c = 60 then 1 else 0) + nameLen (r.drop (if c = 60 then 1 else 0))) + ·)
structure MrkW (m : Mrk) : Prop where
  nm : m.nm = [95] ∨ (1 ≤ m.nm.length ∧ m.nm.length ≤ 12 ∧ ∀ x ∈ m.nm, x ∈ abc)
  sg : m.sg ∈ [[], [60], [62], [61], [33]]
  num : m.num.natAbs < 10 ^ 60
  non : m.sg = [] → m.num = 0
theorem abc_ok {x : Nat} (h : x ∈ abc) : x < 1114112 := by
  have := mem_abc.mp h
  omega
theorem MrkW.ok {m : Mrk} (h : MrkW m) : MrkOk m := by
  refine ⟨fun x hx => ?_, fun x hx => ?_⟩
  · rcases h.nm with e | ⟨_, _, e⟩
    · rw [e, List.mem_singleton] at hx
      rw [hx]
      decide
    · exact abc_ok (e x hx)
  · have all : ∀ l ∈ [[], [60], [62], [61], [33]], ∀ x ∈ l, x < 1114112 := by decide
    exact all _ h.sg x hx
def condC (m : Mrk) : List Nat := if m.sg = [] then [] else 91 :: (m.sg ++ numC m.num ++ [93])
def markT (m : Mrk) : List Nat := (if m.back = true then [60] else []) ++ (m.nm ++ condC m)
inductive Pc where
  | sign (c : Nat)
  | mark (m : Mrk)
def Pc.shown : Pc → List Nat
  | .sign c => [c]
  | .mark m => markT m
def PcW : Pc → Prop
  | .sign c => c ∈ singles
  | .mark m => MrkW m
def Pc.endsL (p : Pc) : Bool := match p.shown.getLast? with | some c => isL c | none => false
def Pc.startsL (p : Pc) : Bool := match p.shown.head? with | some c => isL c | none => false
end L2
set_option Elab.async false
set_option linter.all false
set_option maxRecDepth 100000
namespace L2
open PySem PySem.Spec PyProof.Rows
@[reducible] def intK : PyProof.Rows.KeyKind where
  α := Int
  blt a b := decide (a < b)
  irrefl a := by simp
  trans a b c h1 h2 := by simp only [decide_eq_true_eq] at *; omega
  negTrans a b c h := by
    simp only [decide_eq_true_eq] at *
    omega
  total a b h1 h2 := by simp only [decide_eq_false_iff_not] at *; omega
  keyOf v := match v with | .int x _ => some x | _ => none
  dflt := 0
section
variable {X : Cx}
end
end L2
set_option Elab.async false
set_option linter.all false
set_option maxRecDepth 100000
namespace L2
open PySem PySem.Spec PyProof.Rows
structure FunD (K : PySem.W.Frag) (x qual : Str) (st : Stmt) (f : Addr) (fd : FuncData) : Prop where
  ex : ∃ (oc : Value) (od : Option Addr) (dV kV doc pm : Value) (an : Option Addr) (cdv ct : Value) (osl : Array (Option Value)),
    fd = PySem.W.fnOf x qual (defArgs st) (defBody st) (defScope st) dV kV doc pm an cdv ct ∧ K.lookup f = some ⟨oc, od, .func fd, osl⟩ ∧ PySem.W.codeIn K cdv qual = true
  kp : PySem.W.keepIn K (.ref f) = true
section
variable {P : Program} {w : World} {K : PySem.W.Frag} {mg : Str → Option Value} {base : Heap}
theorem FunD.okX {x qual : Str} {st : Stmt} {f : Addr} {fd : FuncData} {N ps : List Str} {k : Nat} {sp : Sp} (F : FunD K x qual st f fd) (S : FnScope N ps (defScope st)) (len : ∀ vs H Q E, sp vs H Q E → vs.length = ps.length)
    (hbody : ∀ (cdv : Value) (A : Around) (outer : List Env) (s : Shared) (H : Hp) (vs : List V) (Q : VK) (E : XK), Room k (A.deeper (envOfC qual (defScope st) s.heap.objs.size f cdv)) → sp vs H Q E →
      ∃ t, PSs (cxOf (CX1 P w) P w K mg base N qual (defScope st) f cdv A outer s H E) (defBody st) t ∧ t { nx := fun _ H' => Q .non H', rt := Q } (start N vs) H) : FnOk P w K mg base (CX1 P w) (k + 1) f fd ps sp := by
  obtain ⟨oc, od, dV, kV, doc, pm, an, cdv, ct, osl, rfl, lk, hcd⟩ := F.ex
  exact fn_of lk hcd S len fun A outer s H vs Q E hr hsp => hbody cdv A outer s H vs Q E hr hsp
end
structure MethOkD (K : PySem.W.Frag) (C : Addr) (m qual : Str) (st : Stmt) (ps : List Str) (dvs : List V) (f : Addr) (fd : FuncData) : Prop where
  at_ : Meth K C m f
  fn : FunD K m qual st f fd
  b : Binds K fd ps []
  bd : ∃ ds, Vals dvs ds ∧ Binds K fd ps ds
section
variable {X : Cx} {P : Program} {w : World} {k : Nat} {f C : Addr} {fd : FuncData} {ps : List Str} {sp : Sp} {E : XK} {m qual : Str} {st : Stmt} {apos pos : Pos} {e o : Expr} {es : List Expr} {ta : TE} {t : TA} {dvs : List V}
theorem MethOkD.run {K : PySem.W.Frag} (D : MethOkD K C m qual st ps dvs f fd) : Meth K C m f ∧ Binds K fd ps [] := ⟨D.at_, D.b⟩
theorem pe_mxF {pl : Sem Bool} (he : PE X o ta) (c : Cls X.K C) (D : MethOkD X.K C m qual st ps dvs f fd) (F : FnOk X.prog X.w X.K X.mg X.base (CX1 P w) k f fd ps sp) (hr : Room k X.A) (hx : Passes (CX1 P w) X E) (ha : PA X (e :: es) t)
    (hst : starEach (e :: es) X.env = (false, eval e X.env) :: starEach es X.env := by rfl) (hpl : (backTo pos (starEach es X.env)).any (·.1) = false := by rfl)
    (ht : eval (.Call (.Attribute o m apos) (e :: es) [] pos) X.env = (do
      let ov ← eval o X.env
      standAt apos.atName
      let (f, first) ← holding [ov] (getMethod ov m pl)
      callWith pos f first (backTo pos (starEach (e :: es) X.env)) (backToKw pos (keywordEach [] X.env))) := by rfl) :
    PE X (.Call (.Attribute o m apos) (e :: es) [] pos) (tMeth C m sp [] E ta t) := pe_meth he c D.at_ F hr D.b .nil hx ha hst hpl ht
theorem bpe_mxF {pl : Sem Bool} (he : Bx (PE X o ta)) (c : Cls X.K C) (D : MethOkD X.K C m qual st ps dvs f fd) (F : FnOk X.prog X.w X.K X.mg X.base (CX1 P w) k f fd ps sp) (hr : Room k X.A) (hx : Passes (CX1 P w) X E) (ha : Bx (PA X (e :: es) t))
    (hst : starEach (e :: es) X.env = (false, eval e X.env) :: starEach es X.env := by rfl) (hpl : (backTo pos (starEach es X.env)).any (·.1) = false := by rfl)
    (ht : eval (.Call (.Attribute o m apos) (e :: es) [] pos) X.env = (do
      let ov ← eval o X.env
      standAt apos.atName
      let (f, first) ← holding [ov] (getMethod ov m pl)
      callWith pos f first (backTo pos (starEach (e :: es) X.env)) (backToKw pos (keywordEach [] X.env))) := by rfl) :
    Bx (PE X (.Call (.Attribute o m apos) (e :: es) [] pos) (tMeth C m sp [] E ta t)) := ⟨pe_mxF he.un c D F hr hx ha.un hst hpl ht⟩
end
def WA.addTie (A : WA) (s n e : Nm) (w : Int) : Except Rf WA :=
  if s ∉ A.names ∨ e ∉ A.names then .error .noThing else if goodC n = false then .error .noName else if 10 ^ 60 ≤ w.natAbs then .error .noNumber else if 400 ≤ A.ties.length then .error .full
  else .ok { A with ties := A.ties ++ [(A.next, ⟨s, n, e, w⟩)], next := A.next + 1 }
def WA.cutTie (A : WA) (k : Int) : Except Rf WA :=
  if k ∉ A.ties.map (·.1) then .error .noTie else .ok { A with ties := A.ties.filter fun x => decide (x.1 ≠ k) }
theorem putF_next (v1 v2 v3 v4 : V) : putF "coming_number" v4 ([("kept_values", v1), ("kept_ties", v2), ("coming_number", v3)] : List (Str × V)) = ([("kept_values", v1), ("kept_ties", v2), ("coming_number", v4)] : List (Str × V)) := by
  unfold putF
  rw [if_neg (by decide)]
  unfold putF
  rw [if_neg (by decide)]
  unfold putF
  rw [if_pos rfl]
theorem WebAt.tied {C : Addr} {H : Hp} {p a : Addr} {W : WS} {t : Tie} (w : WebAt C H p W) (ha : H a = none) (hl : W.next ∉ W.ties.map (·.1)) (hf : W.ties.length < 400) :
    WebAt C (upd (upd (upd H a (.tup (tieV t))) W.dt (.dK (putK (kvTies W.ties) (.inl W.next) (.ref a)))) p (.ins C W.dx [("kept_values", .ref W.dv), ("kept_ties", .ref W.dt), ("coming_number", .int (W.next + 1))])) p { W with ties := W.ties ++ [(W.next, a, t)], next := W.next + 1 } ∧
    Step H (W.own p) (upd (upd (upd H a (.tup (tieV t))) W.dt (.dK (putK (kvTies W.ties) (.inl W.next) (.ref a)))) p (.ins C W.dx [("kept_values", .ref W.dv), ("kept_ties", .ref W.dt), ("coming_number", .int (W.next + 1))])) (WS.own { W with ties := W.ties ++ [(W.next, a, t)], next := W.next + 1 } p) := by
  have eput : putK (kvTies W.ties) (.inl W.next) (.ref a) = kvTies (W.ties ++ [(W.next, a, t)]) := by
    rw [putK_new]
    · unfold kvTies
      rw [List.map_append]
      rfl
    · rw [valV_ties, find_none.mpr hl]
      rfl
  rw [eput]
  have oth : ∀ b o, b ≠ p → b ≠ W.dt → H b = some o → upd (upd (upd H a (.tup (tieV t))) W.dt (.dK (kvTies (W.ties ++ [(W.next, a, t)])))) p (.ins C W.dx [("kept_values", .ref W.dv), ("kept_ties", .ref W.dt), ("coming_number", .int (W.next + 1))]) b = some o := fun b o h1 h2 e => by
    rw [upd_ne h1, upd_ne h2, upd_ne (ne_of_none e ha)]
    exact e
  have hap : a ≠ p := (ne_of_none w.obj ha).symm
  have hat : a ≠ W.dt := (ne_of_none w.tie ha).symm
  have tupne : ∀ b xs, H b = some (.tup xs) → b ≠ p ∧ b ≠ W.dt := fun b xs e => ⟨ne_of e w.obj (by intro z; cases z), ne_of e w.tie (by intro z; cases z)⟩
  refine ⟨⟨upd_same, oth _ _ w.pdv w.dvdt w.val, by rw [upd_ne w.pdt, upd_same], fun x hx => oth _ _ (ne_of (w.each x hx) w.obj (by intro z; cases z)) (w.dtx hx) (w.each x hx), fun x hx => ?_, w.nd, w.names, ?_, w.few, by simp only [List.length_append, List.length_cons, List.length_nil]; omega⟩,
    ⟨fun b o hb e => oth b o (fun z => hb (by simp [WS.own, z])) (fun z => hb (by simp [WS.own, z])) e, fun b hb => .inl hb, fun b xs e => oth b _ (tupne b xs e).1 (tupne b xs e).2 e⟩⟩
  · rcases List.mem_append.mp hx with h | h
    · exact oth _ _ (tupne _ _ (w.tups x h)).1 (tupne _ _ (w.tups x h)).2 (w.tups x h)
    · rw [List.mem_singleton.mp h]
      show upd (upd (upd H a _) W.dt _) p _ a = _
      rw [upd_ne hap, upd_ne hat, upd_same]
  · show ((W.ties ++ [(W.next, a, t)]).map (fun x : Int × Addr × Tie => x.1)).Nodup
    rw [List.map_append]
    exact nd_snoc w.nums hl
theorem WebAt.cut {C : Addr} {H : Hp} {p : Addr} {W : WS} {n : Int} (w : WebAt C H p W) :
    WebAt C (upd H W.dt (.dK (dropK (kvTies W.ties) (.inl n)))) p { W with ties := W.ties.filter fun x => decide (x.1 ≠ n) } ∧
    Step H (W.own p) (upd H W.dt (.dK (dropK (kvTies W.ties) (.inl n)))) (WS.own { W with ties := W.ties.filter fun x => decide (x.1 ≠ n) } p) := by
  rw [dropK_ties]
  have oth : ∀ b o, b ≠ W.dt → H b = some o → upd H W.dt (.dK (kvTies (W.ties.filter fun x => decide (x.1 ≠ n)))) b = some o := fun b o hb e => by
    rw [upd_ne hb]
    exact e
  have sub : ∀ x ∈ W.ties.filter (fun x => decide (x.1 ≠ n)), x ∈ W.ties := fun x hx => (List.mem_filter.mp hx).1
  refine ⟨⟨oth _ _ w.pdt.symm w.obj, oth _ _ w.dvdt w.val, upd_same, fun x hx => oth _ _ (w.dtx hx) (w.each x hx), fun x hx => oth _ _ (ne_of (w.tups x (sub x hx)) w.tie (by intro z; cases z)) (w.tups x (sub x hx)), w.nd, w.names, ?_, w.few, Nat.le_trans (List.length_filter_le _ _) w.fewT⟩,
    ⟨fun b o hb e => oth b o (fun z => hb (by simp [WS.own, z])) e, fun b hb => .inl hb, fun b xs e => oth b _ (ne_of e w.tie (by intro z; cases z)) e⟩⟩
  exact List.Sublist.nodup (List.Sublist.map _ List.filter_sublist) w.nums
end L2
set_option Elab.async false
set_option linter.all false
set_option maxRecDepth 100000
namespace L2
open PySem PySem.Spec PyProof.Rows
section
variable {X : Cx} {y : Str} {py : Pos} {elt iter : Expr} {ifs : List Expr} {scope : Scope} {pos : Pos} {N : List Str} {fr : List Nat} {tt : TT} {te tel : TE}
end
theorem nd_len {α : Type} [DecidableEq α] : ∀ (l b : List α), l.Nodup → (∀ x ∈ l, x ∈ b) → l.length ≤ b.length
  | [], _, _, _ => Nat.zero_le _
  | x :: l, b, hn, hs => by
    obtain ⟨h1, h2⟩ := List.nodup_cons.mp hn
    have hb := hs x List.mem_cons_self
    have := nd_len l (b.erase x) h2 fun y hy => by
      have ne : y ≠ x := fun z => h1 (by rw [← z]; exact hy)
      exact (List.mem_erase_of_ne ne).mpr (hs y (List.mem_cons_of_mem _ hy))
    rw [List.length_erase_of_mem hb] at this
    have hp : 0 < b.length := List.length_pos_of_mem hb
    rw [List.length_cons]
    omega
end L2
set_option Elab.async false
set_option linter.all false
set_option maxRecDepth 100000
namespace L2
open PySem PySem.Spec PyProof.Rows PySem.W
def evK {α : Type} (lt : Nat → Nat → Bool) : KasT α → α
  | .ret a => a
  | .ask i j k => evK lt (k (lt i j))
def InK {α : Type} (n : Nat) (P : α → Prop) : KasT α → Prop
  | .ret a => P a
  | .ask i j k => i < n ∧ j < n ∧ ∀ b, InK n P (k b)
theorem InK.bind {α β : Type} {n : Nat} {P : α → Prop} {R : β → Prop} {f : α → KasT β} : ∀ {t : KasT α}, InK n P t → (∀ a, P a → InK n R (f a)) → InK n R (t.bind f)
  | .ret a, h, hf => hf a h
  | .ask _ _ _, h, hf => ⟨h.1, h.2.1, fun b => InK.bind (h.2.2 b) hf⟩
theorem InK.ev {α : Type} {n : Nat} {P : α → Prop} {lt : Nat → Nat → Bool} : ∀ {t : KasT α}, InK n P t → P (evK lt t)
  | .ret _, h => h
  | .ask i j k, h => InK.ev (t := k (lt i j)) (h.2.2 (lt i j))
def PermOk (n : Nat) (p : Array Nat) : Prop := p.toList.Perm (List.range n)
theorem PermOk.lt {n : Nat} {p : Array Nat} (h : PermOk n p) (hn : 0 < n) (i : Nat) : p.getD i 0 < n := by
  by_cases hi : i < p.size
  · have : p.getD i 0 ∈ p.toList := by
      simp [Array.getD, hi]
    exact List.mem_range.mp (h.mem_iff.mp this)
  · simp [Array.getD, hi, hn]
theorem PermOk.rev {n : Nat} {p : Array Nat} (h : PermOk n p) (i j : Nat) : PermOk n (kas_rev p i j) := (Array.perm_iff_toList_perm.mp (mirror_perm _ _ _ _)).trans h
def sortP (lt : Nat → Nat → Bool) (n : Nat) : List Nat := if n < 2 then List.range n else (evK lt (kas_sort n)).toList
end L2
set_option Elab.async false
set_option linter.all false
set_option maxRecDepth 100000
namespace L2
open PySem PySem.Spec PyProof.Rows
section
variable {X : Cx} {pins : List (Addr × Obj)} {σ : List (Option V)} {H H' : Hp} {s : Shared} {h' : Heap}
theorem Inv.lays {t' : Nat} (I : Inv X pins σ H s) (k : ∀ b u, s.heap.get? b = some u → h'.get? b = some u) (ext : ∀ b, b < s.heap.objs.size → H' b = H b)
    (new : ∀ a o, H' a = some o → s.heap.objs.size ≤ a → ObjOk X.prog X.w H' h' a o) : Inv X pins σ H' { s with heap := h', toks := t' } := by
  have low : ∀ b o, H b = some o → H' b = some o := fun b o e => by rw [ext b (I.hok b o e).lt]; exact e
  refine I.un ⟨fun b u q _ _ _ => k b u q, fun b u q _ _ _ => ⟨u.slots, k b u q⟩, fun b u q n _ => by rw [ext b (Heap.lt_size q)]; exact n, fun b u q _ => ⟨u, k b u q⟩, fun b xs q => low b _ q, fun b u xs q => low b _ q, fun b ps q => ⟨#[], by rw [low b _ q]; simp⟩⟩ fun a o e => ?_
  by_cases ha : a < s.heap.objs.size
  · rw [ext a ha] at e
    exact (I.hok a o e).stay (fun c v _ q => k c v q) (fun c q => low c _ q) fun c xs q => low c _ q
  · exact new a o e (Nat.le_of_not_lt ha)
end
def keyAt (m : List (Nm × Int)) (i : Nat) : Nm := (m.getD i ([], 0)).1
def ltN (m : List (Nm × Int)) (i j : Nat) : Bool := decide ((tx (keyAt m i)).cps.toList < (tx (keyAt m j)).cps.toList)
def layT (H : Hp) : List Addr → List (Nm × Int) → Hp
  | a :: as, y :: m => upd (layT H as m) a (.tup [.str (tx y.1), .int y.2])
  | _, _ => H
theorem layT_off {H : Hp} {b : Addr} : ∀ (as : List Addr) (m : List (Nm × Int)), b ∉ as → layT H as m b = H b
  | [], _, _ => by unfold layT; rfl
  | _ :: _, [], _ => by unfold layT; rfl
  | a :: as, y :: m, h => by
    unfold layT
    rw [upd_ne (fun z => h (by rw [z]; exact List.mem_cons_self))]
    exact layT_off as m fun z => h (List.mem_cons_of_mem _ z)
theorem layT_at {H : Hp} : ∀ (as : List Addr) (m : List (Nm × Int)) (i : Nat) (a : Addr) (y : Nm × Int), as.Nodup → as[i]? = some a → m[i]? = some y → layT H as m a = some (.tup [.str (tx y.1), .int y.2])
  | [], _, _, _, _, _, h, _ => by cases h
  | _ :: _, [], _, _, _, _, _, h => by cases h
  | b :: as, z :: m, 0, a, y, _, h1, h2 => by
    cases h1
    cases h2
    unfold layT
    exact upd_same
  | b :: as, z :: m, i + 1, a, y, nd, h1, h2 => by
    obtain ⟨n1, n2⟩ := List.nodup_cons.mp nd
    unfold layT
    rw [upd_ne (fun e => n1 (by rw [← e]; exact List.mem_of_getElem? (show as[i]? = some a from h1)))]
    exact layT_at as m i a y n2 h1 h2
theorem layT_some {H : Hp} {b : Addr} {o : HO} : ∀ (as : List Addr) (m : List (Nm × Int)), as.length = m.length → as.Nodup → b ∈ as → layT H as m b = some o → ∃ (i : Nat) (y : Nm × Int), as[i]? = some b ∧ m[i]? = some y ∧ o = .tup [.str (tx y.1), .int y.2] := by
  intro as m hl nd hb e
  obtain ⟨i, hi⟩ := List.mem_iff_getElem?.mp hb
  have lt : i < m.length := by
    rw [← hl]
    exact (List.getElem?_eq_some_iff.mp hi).1
  refine ⟨i, m[i], hi, by simp, ?_⟩
  have := layT_at (H := H) as m i b m[i] nd hi (by simp)
  rw [this] at e
  cases e
  rfl
section
variable {prog : Program} {w : World} {A : Around} {E : Value → Shared → Prop} {z : Shared}
def pairObj (y : Nm × Int) (t u : Tok) : Obj := { cls := .type "tuple", data := .seq #[.str (tx y.1) t, .int y.2 u] }
end
theorem kv_at {kvs : List (Key × V)} {vs : List (Key × Value)} (r : KV kvs vs) : ∀ {i : Nat} {p : Key × V} {q : Key × Value}, kvs[i]? = some p → vs[i]? = some q → p.1 = q.1 ∧ RelV p.2 q.2 := by
  unfold KV at r
  induction r with
  | nil => intro i p q h; cases h
  | @cons p0 q0 ps qs h t ih =>
    intro i p q h1 h2
    cases i with
    | zero =>
      cases h1
      cases h2
      exact h
    | succ i => exact ih h1 h2
def tSortI (to : TE) : TE := fun σ H Q => to σ H fun x H1 => ∃ (d : Addr) (m : List (Nm × Int)), x = .ref d ∧ Rd H1 d (.dK (kvNums m)) ∧ m.length < 64 ∧ (m.map (·.1)).Nodup ∧
  ∀ (l : Addr) (as : List Addr) (H2 : Hp), H1 l = none → as.length = m.length → Same H1 H2 → H2 l = some (.lst ((sortP (ltN m) m.length).map fun i => .ref (as.getD i 0))) → (∀ a ∈ as, H1 a = none ∧ a ≠ l) →
    (∀ (i : Nat) (a : Addr) (y : Nm × Int), as[i]? = some a → m[i]? = some y → H2 a = some (.tup [.str (tx y.1), .int y.2])) → Q (.ref l) H2
section
variable {X : Cx}
end
def ltT (ks : List Nm) (i j : Nat) : Bool := decide ((tx (ks.getD i [])).cps.toList < (tx (ks.getD j [])).cps.toList)
section
variable {X : Cx}
end
end L2
set_option Elab.async false
set_option linter.all false
set_option maxRecDepth 100000
namespace L2
open PySem PySem.Spec PyProof.Rows
def putN (m : List (Nm × Int)) (k : Nm) (v : Int) : List (Nm × Int) := if k ∈ m.map (·.1) then m.map (fun y => if y.1 = k then (y.1, v) else y) else m ++ [(k, v)]
def dropN (m : List (Nm × Int)) (k : Nm) : List (Nm × Int) := m.filter fun y => decide (y.1 ≠ k)
def lookN (m : List (Nm × Int)) (k : Nm) : Option Int := (m.find? fun y => decide (y.1 = k)).map (·.2)
def WA.look (A : WA) (n : Nm) : Option (List (Nm × Int)) := (A.things.find? fun x => decide (x.1 = n)).map (·.2)
def WA.setv (A : WA) (n : Nm) (m : List (Nm × Int)) : WA := { A with things := A.things.map fun x => if x.1 = n then (x.1, m) else x }
def WA.setValue (A : WA) (n k : Nm) (v : Int) : Except Rf WA :=
  match A.look n with
  | none => .error .noThing
  | some m => if goodC k = false then .error .noName else if 10 ^ 60 ≤ v.natAbs then .error .noNumber else .ok (A.setv n (putN m k v))
def WA.takeValue (A : WA) (n k : Nm) : Except Rf WA :=
  match A.look n with
  | none => .error .noThing
  | some m => if k ∉ m.map (·.1) then .error .noKey else .ok (A.setv n (dropN m k))
def WS.setv (W : WS) (n : Nm) (m : List (Nm × Int)) : WS := { W with vals := W.vals.map fun x => if x.1 = n then (x.1, x.2.1, m) else x }
theorem WS.setv_own (W : WS) (n : Nm) (m : List (Nm × Int)) (p : Addr) : (W.setv n m).own p = W.own p := by
  unfold WS.setv WS.own
  simp only [List.map_map]
  congr 3
  refine List.map_congr_left fun x _ => ?_
  dsimp only [Function.comp]
  split <;> rfl
theorem WS.setv_names (W : WS) (n : Nm) (m : List (Nm × Int)) : (W.setv n m).vals.map (·.1) = W.vals.map (·.1) := by
  unfold WS.setv
  simp only [List.map_map]
  refine List.map_congr_left fun x _ => ?_
  dsimp only [Function.comp]
  split <;> rfl
theorem WebAt.setv {C : Addr} {H : Hp} {p : Addr} {W : WS} {x : Nm × Addr × List (Nm × Int)} {m : List (Nm × Int)} (w : WebAt C H p W) (hx : x ∈ W.vals) :
    WebAt C (upd H x.2.1 (.dK (kvNums m))) p (W.setv x.1 m) ∧ Step H (W.own p) (upd H x.2.1 (.dK (kvNums m))) ((W.setv x.1 m).own p) := by
  have hin : x.2.1 ∈ W.own p := by
    unfold WS.own
    exact List.mem_cons_of_mem _ (List.mem_cons_of_mem _ (List.mem_cons_of_mem _ (List.mem_map.mpr ⟨x, hx, rfl⟩)))
  have oth : ∀ b o, b ≠ x.2.1 → H b = some o → upd H x.2.1 (.dK (kvNums m)) b = some o := fun b o hb e => by
    rw [upd_ne hb]
    exact e
  have exx := w.each x hx
  have kv : kvVals (W.setv x.1 m).vals = kvVals W.vals := by
    unfold kvVals WS.setv
    simp only [List.map_map]
    refine List.map_congr_left fun y _ => ?_
    dsimp only [Function.comp]
    split <;> rfl
  have ad : (W.setv x.1 m).vals.map (·.2.1) = W.vals.map (·.2.1) := by
    unfold WS.setv
    simp only [List.map_map]
    refine List.map_congr_left fun y _ => ?_
    dsimp only [Function.comp]
    split <;> rfl
  refine ⟨⟨oth _ _ (ne_of w.obj exx (by intro z; cases z)) w.obj, ?_, oth _ _ (w.dtx hx).symm w.tie, fun y hy => ?_, fun y hy => oth _ _ (ne_of (w.tups y hy) exx (by intro z; cases z)) (w.tups y hy), ?_, ?_, w.nums, ?_, w.fewT⟩, ?_⟩
  · rw [kv]
    exact oth _ _ (w.dvx hx).symm w.val
  · unfold WS.setv at hy
    obtain ⟨z, hz, rfl⟩ := List.mem_map.mp hy
    by_cases e : z.1 = x.1
    · rw [if_pos e]
      have zx : z = x := by
        have := w.names
        obtain ⟨i, hi⟩ := List.mem_iff_getElem?.mp hz
        obtain ⟨j, hj⟩ := List.mem_iff_getElem?.mp hx
        have li := (List.getElem?_eq_some_iff.mp hi)
        have lj := (List.getElem?_eq_some_iff.mp hj)
        obtain ⟨li, ei⟩ := li
        obtain ⟨lj, ej⟩ := lj
        have ij : i = j := by
          refine (List.getElem_inj (h₀ := by rw [List.length_map]; exact li) (h₁ := by rw [List.length_map]; exact lj) this).mp ?_
          rw [List.getElem_map, List.getElem_map, ei, ej]
          exact e
        subst ij
        rw [← ei, ← ej]
      rw [zx]
      exact upd_same
    · rw [if_neg e]
      refine oth _ _ (fun q => e ?_) (w.each z hz)
      have nda := (List.nodup_cons.mp (List.nodup_cons.mp w.nd).2).2
      obtain ⟨i, hi⟩ := List.mem_iff_getElem?.mp hz
      obtain ⟨j, hj⟩ := List.mem_iff_getElem?.mp hx
      obtain ⟨li, ei⟩ := List.getElem?_eq_some_iff.mp hi
      obtain ⟨lj, ej⟩ := List.getElem?_eq_some_iff.mp hj
      have ij : i = j := by
        refine (List.getElem_inj (h₀ := by rw [List.length_map]; exact li) (h₁ := by rw [List.length_map]; exact lj) nda).mp ?_
        rw [List.getElem_map, List.getElem_map, ei, ej]
        exact q
      subst ij
      rw [← ei, ← ej]
  · rw [ad]
    exact w.nd
  · rw [WS.setv_names]
    exact w.names
  · unfold WS.setv
    dsimp only
    rw [List.length_map]
    exact w.few
  · rw [WS.setv_own]
    exact ⟨fun b o hb e => oth b o (fun z => hb (by rw [z]; exact hin)) e, fun b hb => .inl hb, fun b xs e => oth b _ (ne_of e exx (by intro z; cases z)) e⟩
end L2
set_option Elab.async false
set_option linter.all false
set_option maxRecDepth 100000
namespace L2
open PySem PySem.Spec PyProof.Rows
abbrev Nums := List (Nm × Int)
def lookV (vs : List (Nm × Addr × Nums)) (n : Nm) : Option Nums := (vs.find? fun x => decide (x.1 = n)).map (·.2.2)
structure ValsAt (H : Hp) (g : Addr) (vs : List (Nm × Addr × Nums)) : Prop where
  at_ : H g = some (.dK (kvVals vs))
  each : ∀ x ∈ vs, H x.2.1 = some (.dK (kvNums x.2.2))
  nd : (g :: vs.map (·.2.1)).Nodup
  names : (vs.map (·.1)).Nodup
def ownV (g : Addr) (vs : List (Nm × Addr × Nums)) : List Addr := g :: vs.map (·.2.1)
theorem ValsAt.same {H H' : Hp} {g : Addr} {vs : List (Nm × Addr × Nums)} (h : ValsAt H g vs) (s : Same H H') : ValsAt H' g vs := ⟨s _ _ h.at_, fun x hx => s _ _ (h.each x hx), h.nd, h.names⟩
def setV (vs : List (Nm × Addr × Nums)) (n : Nm) (a : Option Addr) (m : Nums) : List (Nm × Addr × Nums) := vs.map fun x => if x.1 = n then (x.1, a.getD x.2.1, m) else x
theorem setV_names (vs : List (Nm × Addr × Nums)) (n : Nm) (a : Option Addr) (m : Nums) : (setV vs n a m).map (·.1) = vs.map (·.1) := by
  unfold setV
  rw [List.map_map]
  refine List.map_congr_left fun x _ => ?_
  dsimp only [Function.comp]
  split <;> rfl
theorem same_at {vs : List (Nm × Addr × Nums)} {α : Type} [DecidableEq α] {f : Nm × Addr × Nums → α} (nd : (vs.map f).Nodup) {x y : Nm × Addr × Nums} (hx : x ∈ vs) (hy : y ∈ vs) (e : f x = f y) : x = y := by
  obtain ⟨i, hi⟩ := List.mem_iff_getElem?.mp hx
  obtain ⟨j, hj⟩ := List.mem_iff_getElem?.mp hy
  obtain ⟨li, ei⟩ := List.getElem?_eq_some_iff.mp hi
  obtain ⟨lj, ej⟩ := List.getElem?_eq_some_iff.mp hj
  have ij : i = j := by
    refine (List.getElem_inj (h₀ := by rw [List.length_map]; exact li) (h₁ := by rw [List.length_map]; exact lj) nd).mp ?_
    rw [List.getElem_map, List.getElem_map, ei, ej]
    exact e
  subst ij
  rw [← ei, ← ej]
theorem ValsAt.setv {H : Hp} {g : Addr} {vs : List (Nm × Addr × Nums)} {x : Nm × Addr × Nums} {m : Nums} (h : ValsAt H g vs) (hx : x ∈ vs) :
    ValsAt (upd H x.2.1 (.dK (kvNums m))) g (setV vs x.1 none m) ∧ Step H (ownV g vs) (upd H x.2.1 (.dK (kvNums m))) (ownV g (setV vs x.1 none m)) := by
  have ex := h.each x hx
  have hxg : x.2.1 ≠ g := fun z => (List.nodup_cons.mp h.nd).1 (by rw [← z]; exact List.mem_map.mpr ⟨x, hx, rfl⟩)
  have kv : kvVals (setV vs x.1 none m) = kvVals vs := by
    unfold kvVals setV
    rw [List.map_map]
    refine List.map_congr_left fun y _ => ?_
    dsimp only [Function.comp]
    split <;> rfl
  have ad : (setV vs x.1 none m).map (·.2.1) = vs.map (·.2.1) := by
    unfold setV
    rw [List.map_map]
    refine List.map_congr_left fun y _ => ?_
    dsimp only [Function.comp]
    split <;> rfl
  have nda := (List.nodup_cons.mp h.nd).2
  refine ⟨⟨?_, fun y hy => ?_, by rw [ad]; exact h.nd, by rw [setV_names]; exact h.names⟩, ?_⟩
  · rw [kv, upd_ne hxg.symm]
    exact h.at_
  · unfold setV at hy
    obtain ⟨z, hz, rfl⟩ := List.mem_map.mp hy
    by_cases e : z.1 = x.1
    · rw [if_pos e, same_at h.names hz hx e]
      exact upd_same
    · rw [if_neg e, upd_ne (fun q => e (by rw [same_at nda hz hx q]))]
      exact h.each z hz
  · unfold ownV
    rw [ad]
    refine ⟨fun b o hb e => ?_, fun b hb => .inl hb, fun b ys e => ?_⟩
    · rw [upd_ne (fun z => hb (by rw [z]; exact List.mem_cons_of_mem _ (List.mem_map.mpr ⟨x, hx, rfl⟩)))]
      exact e
    · rw [upd_ne (ne_of e ex (by intro z; cases z))]
      exact e
theorem ValsAt.own_some {H : Hp} {g : Addr} {vs : List (Nm × Addr × Nums)} (h : ValsAt H g vs) {b : Addr} (hb : b ∈ ownV g vs) : ∃ kvs, H b = some (.dK kvs) := by
  rcases List.mem_cons.mp hb with z | z
  · rw [z]
    exact ⟨_, h.at_⟩
  · obtain ⟨x, hx, rfl⟩ := List.mem_map.mp z
    exact ⟨_, h.each x hx⟩
theorem ValsAt.step {H H' : Hp} {g : Addr} {vs : List (Nm × Addr × Nums)} {F F' : List Addr} (h : ValsAt H g vs) (s : Step H F H' F') (d : ∀ b ∈ ownV g vs, b ∉ F) : ValsAt H' g vs :=
  ⟨s.off _ _ (d _ List.mem_cons_self) h.at_, fun x hx => s.off _ _ (d _ (List.mem_cons_of_mem _ (List.mem_map.mpr ⟨x, hx, rfl⟩))) (h.each x hx), h.nd, h.names⟩
structure RowsAt (H : Hp) (r : Addr) (rs : List (Int × Addr × Tie)) : Prop where
  at_ : H r = some (.dK (kvTies rs))
  tups : ∀ x ∈ rs, H x.2.1 = some (.tup (tieV x.2.2))
def plain (rs : List (Int × Addr × Tie)) : List (Int × Tie) := rs.map fun x => (x.1, x.2.2)
structure TieOk (x : Tie) : Prop where
  s : okT x.start
  n : okT x.name
  e : okT x.stop
theorem plain_keys (rs : List (Int × Addr × Tie)) : (plain rs).map (·.1) = rs.map (·.1) := by
  unfold plain
  rw [List.map_map]
  rfl
theorem RowsAt.keep {H H' : Hp} {r : Addr} {rs : List (Int × Addr × Tie)} (h : RowsAt H r rs) (e : H' r = H r) (k : ∀ b xs, H b = some (.tup xs) → H' b = some (.tup xs)) : RowsAt H' r rs := ⟨e.trans h.at_, fun x hx => k _ _ (h.tups x hx)⟩
theorem RowsAt.same {H H' : Hp} {r : Addr} {rs : List (Int × Addr × Tie)} (h : RowsAt H r rs) (s : Same H H') : RowsAt H' r rs := ⟨s _ _ h.at_, fun x hx => s _ _ (h.tups x hx)⟩
theorem rows_put {rs : List (Int × Addr × Tie)} {c : Int} {p : Addr} {x : Tie} (hl : c ∉ rs.map (·.1)) : putK (kvTies rs) (.inl c) (.ref p) = kvTies (rs ++ [(c, p, x)]) := by
  rw [putK_new]
  · unfold kvTies
    rw [List.map_append]
    rfl
  · rw [valV_ties, find_none.mpr hl]
    rfl
end L2
set_option Elab.async false
set_option linter.all false
set_option maxRecDepth 100000
namespace L2
open PySem PySem.Spec PyProof.Rows
theorem Step.frame {H H' : Hp} {F F' : List Addr} (s : Step H F H' F') (G : List Addr) : Step H (G ++ F) H' (G ++ F') :=
  ⟨fun b o hb e => s.off b o (fun z => hb (List.mem_append_right _ z)) e, fun b hb => by
    rcases List.mem_append.mp hb with z | z
    · exact .inl (List.mem_append_left _ z)
    · rcases s.own b z with y | y
      · exact .inl (List.mem_append_right _ y)
      · exact .inr y, s.tup⟩
theorem Step.at {H : Hp} {F : List Addr} {b : Addr} {o o' : HO} (hb : b ∈ F) (e : H b = some o) (ht : ∀ xs, o ≠ .tup xs) : Step H F (upd H b o') F :=
  ⟨fun c u hc h => by rw [upd_ne (fun z => hc (by rw [z]; exact hb))]; exact h, fun c h => .inl h, fun c ys h => by
    rw [upd_ne (fun z => by rw [z, e] at h; exact ht ys (Option.some.inj h))]
    exact h⟩
structure Mn where
  b0 : Addr
  g : Addr
  r : Addr
  ns : List Nm
  vs : List (Nm × Addr × Nums)
  rs : List (Int × Addr × Tie)
  c : Int
def Mn.abs (M : Mn) : WA := ⟨M.ns.map fun n => (n, (lookV M.vs n).getD []), plain M.rs, M.c⟩
def Mn.own (M : Mn) (mm : Addr) : List Addr := [mm, M.b0, M.r] ++ ownV M.g M.vs
structure MineAt (H : Hp) (mm : Addr) (M : Mn) : Prop where
  at_ : H mm = some (.lst [.ref M.b0, .ref M.g, .ref M.r, .int M.c])
  lst : H M.b0 = some (.lst (M.ns.map fun z => .str (tx z)))
  vals : ValsAt H M.g M.vs
  rows : RowsAt H M.r M.rs
  mb : mm ≠ M.b0
  rg : M.r ∉ ownV M.g M.vs
  sub : ∀ n ∈ M.ns, n ∈ M.vs.map (·.1)
  nd : M.ns.Nodup
theorem Mn.names (M : Mn) : M.abs.names = M.ns := by
  unfold WA.names Mn.abs
  rw [List.map_map]
  exact List.map_id _
theorem Mn.look (M : Mn) (n : Nm) : M.abs.look n = if n ∈ M.ns then some ((lookV M.vs n).getD []) else none := by
  unfold WA.look Mn.abs
  dsimp only
  rw [List.find?_map]
  by_cases h : n ∈ M.ns
  · rw [if_pos h]
    have : M.ns.find? ((fun x : Nm × Nums => decide (x.1 = n)) ∘ fun n => (n, (lookV M.vs n).getD [])) = some n := by
      obtain ⟨x, e, _, ex⟩ := find_some (f := fun z : Nm => z) (b := n) (l := M.ns) (by rw [List.map_id']; exact h)
      rw [show ((fun x : Nm × Nums => decide (x.1 = n)) ∘ fun n => (n, (lookV M.vs n).getD [])) = fun z => decide (z = n) from rfl, e, ex]
    rw [this]
    rfl
  · rw [if_neg h]
    have : M.ns.find? ((fun x : Nm × Nums => decide (x.1 = n)) ∘ fun n => (n, (lookV M.vs n).getD [])) = none := by
      rw [List.find?_eq_none]
      intro x hx z
      exact h (by rw [← of_decide_eq_true z]; exact hx)
    rw [this]
    rfl
theorem MineAt.same {H H' : Hp} {mm : Addr} {M : Mn} (h : MineAt H mm M) (s : Same H H') : MineAt H' mm M := ⟨s _ _ h.at_, s _ _ h.lst, h.vals.same s, h.rows.same s, h.mb, h.rg, h.sub, h.nd⟩
theorem MineAt.lv {H : Hp} {mm : Addr} {M : Mn} (h : MineAt H mm M) {b : Addr} (hb : b ∈ ownV M.g M.vs) : b ≠ mm ∧ b ≠ M.b0 := by
  obtain ⟨kvs, e⟩ := h.vals.own_some hb
  exact ⟨ne_of e h.at_ (by intro z; cases z), ne_of e h.lst (by intro z; cases z)⟩
theorem MineAt.rv {H : Hp} {mm : Addr} {M : Mn} (h : MineAt H mm M) : M.r ≠ mm ∧ M.r ≠ M.b0 := ⟨ne_of h.rows.at_ h.at_ (by intro z; cases z), ne_of h.rows.at_ h.lst (by intro z; cases z)⟩
theorem MineAt.named {H : Hp} {mm : Addr} {M : Mn} {ns' : List Nm} (h : MineAt H mm M) (sub : ∀ n ∈ ns', n ∈ M.vs.map (·.1)) (nd : ns'.Nodup) :
    MineAt (upd H M.b0 (.lst (ns'.map fun z => .str (tx z)))) mm { M with ns := ns' } ∧ Step H (M.own mm) (upd H M.b0 (.lst (ns'.map fun z => .str (tx z)))) (Mn.own { M with ns := ns' } mm) := by
  have o1 : ∀ b, b ≠ M.b0 → ∀ o, H b = some o → upd H M.b0 (.lst (ns'.map fun z => .str (tx z))) b = some o := fun b hb o e => by
    rw [upd_ne hb]
    exact e
  refine ⟨⟨o1 _ h.mb _ h.at_, upd_same, ⟨o1 _ (h.lv List.mem_cons_self).2 _ h.vals.at_, fun x hx => o1 _ (h.lv (List.mem_cons_of_mem _ (List.mem_map.mpr ⟨x, hx, rfl⟩))).2 _ (h.vals.each x hx), h.vals.nd, h.vals.names⟩, h.rows.keep ?_ fun b xs e => o1 b (ne_of e h.lst (by intro z; cases z)) _ e, h.mb, h.rg, sub, nd⟩, Step.at (by unfold Mn.own; simp) h.lst (by intro xs z; cases z)⟩
  rw [h.rows.at_]
  exact o1 _ h.rv.2 _ h.rows.at_
end L2
set_option Elab.async false
set_option linter.all false
set_option maxRecDepth 100000
namespace L2
open PySem
theorem ite_both {A B : Prop} {c : Prop} [Decidable c] (h1 : c → A) (h2 : ¬ c → B) : if c then A else B := by
  by_cases h : c
  · rw [if_pos h]
    exact h1 h
  · rw [if_neg h]
    exact h2 h
theorem comp_word {K : PySem.W.Frag} {H1 : Hp} {r : Addr} {js : List Int} {fr : List Nat} {σ : St} {te : TE} {Q : VK} (h : SqL K H1 r (js.map V.int)) (hj : ∀ j ∈ js, 0 ≤ j ∧ j < 26) (hl : js.length ≤ 100)
    (he : ∀ j H2 Q2, rIxS (.str (tx abc)) (.int j) H2 Q2 → te (stB1 (.int j) fr σ) H2 Q2)
    (hQ : ∀ D H2, H1 D = none → Same H1 H2 → SqL K H2 D ((js.map fun j => [letC j]).map fun l => V.str (tx l)) → Q (.ref D) H2) : CompR (Itl K r) H1 fr σ tYes te Q := by
  refine comp_map (tells_list h) (fun j => .str (tx [letC j])) (sz_of (by omega)) (fun j H2 Q2 hm s k => he j H2 Q2 ?_) fun D H2 hD s d => hQ D H2 hD s (SqL.of (by rw [List.map_map]; exact d))
  obtain ⟨h0, h1⟩ := hj j hm
  refine rd_sign (by decide) h0 (by show j < 26; exact h1) fun c hc => ?_
  have e := let_at j
  rw [show j % 26 = j by omega] at e
  rw [e] at hc
  cases hc
  exact k _ (Same.refl _)
theorem word_flat (js : List Int) : (js.map fun j => [letC j]).flatten = js.map letC := by
  induction js with
  | nil => rfl
  | cons j r ih => simp [ih]
theorem word_sum (js : List Int) : ((js.map fun j => [letC j]).map List.length).sum = js.length := by
  induction js with
  | nil => rfl
  | cons j r ih =>
    simp only [List.map_cons, List.sum_cons, List.length_cons, List.length_nil] at ih ⊢
    omega
theorem word_abc (js : List Int) : ∀ x ∈ js.map letC, x ∈ abc := fun x hx => by
  obtain ⟨j, _, rfl⟩ := List.mem_map.mp hx
  exact List.mem_of_getElem? (let_at j)
theorem ixN_nat {n : Nat} {i : Int} (h0 : 0 ≤ i) (h1 : i < n) : ixN n i = some i.toNat := by
  unfold ixN
  rw [if_pos h0, if_pos h1]
end L2
namespace L2
open PySem PySem.Spec PyProof.Rows
section
set_option maxHeartbeats 4000000
variable {X : Cx}
def rCatK (K : PySem.W.Frag) : R2 := fun x y H Q => ∃ l b xs zs, x = .ref l ∧ y = .ref b ∧ SqL K H l xs ∧ SqL K H b zs ∧ xs.length + zs.length ≤ sizeLine ∧ ∀ p, H p = none → Q (.ref p) (upd H p (.lst (xs ++ zs)))
end
end L2
set_option Elab.async false
set_option linter.all false
set_option maxRecDepth 100000
set_option maxHeartbeats 4000000
namespace L2
open PySem PySem.Spec PyProof.Rows
section
variable {prog : Program} {w : World} {A : Around} {E : Value → Shared → Prop}
end
section
variable {X : Cx}
def rDictP (K : PySem.W.Frag) : List V → Hp → VK → Prop := fun xs H Q => ∃ (l : Addr) (ps : List (Addr × Key × V)), xs = [.ref l] ∧ H l = some (.lst (ps.map fun x => .ref x.1)) ∧ (∀ x ∈ ps, H x.1 = some (.tup [kV x.2.1, x.2.2])) ∧ ps.length ≤ 1000 ∧ ∀ d, H d = none → Q (.ref d) (upd H d (.dK (mergeK [] (ps.map (·.2)))))
end
end L2
set_option Elab.async false
set_option linter.all false
set_option maxRecDepth 100000
namespace L2
open PySem PySem.Spec PyProof.Rows
def Stay (H H' : Hp) : Prop := ∀ b o, (∀ zs, o ≠ HO.lst zs) → (∀ ob u, o ≠ HO.frz ob u) → H b = some o → H' b = some o
theorem Stay.list {H : Hp} {D : Addr} {zs ys : List V} (h : H D = some (.lst ys)) : Stay H (upd H D (.lst zs)) := fun b o h1 _ e => by
  rw [upd_ne (fun z => h1 ys (by rw [z, h] at e; exact (Option.some.inj e).symm))]
  exact e
def CopyP (H1 : Hp) (vals : List (Nm × Addr × Nums)) (i : Nat) (ys : List V) (H2 : Hp) : Prop := ∃ es : List (Addr × Addr), es.length = i ∧ ys = es.map (fun e => V.ref e.1) ∧
  (∀ (j : Nat) (e : Addr × Addr) (x : Nm × Addr × Nums), es[j]? = some e → vals[j]? = some x → H2 e.1 = some (.tup [.str (tx x.1), .ref e.2]) ∧ H2 e.2 = some (.dK (kvNums x.2.2))) ∧ (es.map (·.2)).Nodup ∧ ∀ e ∈ es, H1 e.2 = none
theorem CopyP.stay {H1 Ha Hb : Hp} {vals : List (Nm × Addr × Nums)} {i : Nat} {ys : List V} (st : Stay Ha Hb) (h : CopyP H1 vals i ys Ha) : CopyP H1 vals i ys Hb := by
  obtain ⟨es, l1, l2, l3, l4, l5⟩ := h
  exact ⟨es, l1, l2, fun j e x he hx => ⟨st _ _ (fun _ z => nomatch z) (fun _ _ z => nomatch z) (l3 j e x he hx).1, st _ _ (fun _ z => nomatch z) (fun _ _ z => nomatch z) (l3 j e x he hx).2⟩, l4, l5⟩
theorem CopyP.nil {H1 H2 : Hp} {vals : List (Nm × Addr × Nums)} : CopyP H1 vals 0 [] H2 := ⟨[], rfl, rfl, fun j e x he => (by cases he), List.nodup_nil, fun e he => (by cases he)⟩
theorem CopyP.len {H1 H2 : Hp} {vals : List (Nm × Addr × Nums)} {i : Nat} {ys : List V} (h : CopyP H1 vals i ys H2) : ys.length = i := by
  obtain ⟨es, l1, l2, _⟩ := h
  rw [l2, List.length_map, l1]
theorem CopyP.more {H1 H2 : Hp} {vals : List (Nm × Addr × Nums)} {i : Nat} {ys : List V} {x : Nm × Addr × Nums} {l p : Addr} (h : CopyP H1 vals i ys H2) (hx : vals[i]? = some x) (hl : H2 l = none) (hl1 : H1 l = none) (hp : upd H2 l (.dK (kvNums x.2.2)) p = none) :
    CopyP H1 vals (i + 1) (ys ++ [.ref p]) (upd (upd H2 l (.dK (kvNums x.2.2))) p (.tup [.str (tx x.1), .ref l])) ∧ Same H2 (upd (upd H2 l (.dK (kvNums x.2.2))) p (.tup [.str (tx x.1), .ref l])) := by
  have s1 := Same.new (o := .dK (kvNums x.2.2)) hl
  have s2 := Same.new (o := .tup [.str (tx x.1), .ref l]) hp
  have lp : l ≠ p := fun z => by
    rw [← z, upd_same] at hp
    cases hp
  obtain ⟨es, l1, l2, l3, l4, l5⟩ := h
  refine ⟨⟨es ++ [(p, l)], by rw [List.length_append, l1]; rfl, by rw [l2, List.map_append]; rfl, fun j e y he hy => ?_, ?_, fun e he => ?_⟩, s1.trans s2⟩
  · by_cases hj : j < es.length
    · rw [List.getElem?_append_left hj] at he
      exact ⟨s2 _ _ (s1 _ _ (l3 j e y he hy).1), s2 _ _ (s1 _ _ (l3 j e y he hy).2)⟩
    · rw [List.getElem?_append_right (by omega)] at he
      have : j = i := by
        obtain ⟨z, _⟩ := List.getElem?_eq_some_iff.mp he
        simp only [List.length_cons, List.length_nil] at z
        omega
      subst this
      rw [hx] at hy
      cases hy
      rw [← l1, Nat.sub_self] at he
      cases he
      exact ⟨upd_same, (upd_ne lp).trans upd_same⟩
  · rw [List.map_append, List.nodup_append]
    refine ⟨l4, by simp, fun a ha b hb z => ?_⟩
    have : b = l := by simpa using hb
    obtain ⟨e, he, rfl⟩ := List.mem_map.mp ha
    obtain ⟨j, hj⟩ := List.mem_iff_getElem?.mp he
    have jl : j < es.length := (List.getElem?_eq_some_iff.mp hj).1
    have iv := (List.getElem?_eq_some_iff.mp hx).1
    have := (l3 j e vals[j] hj (by simp)).2
    rw [z, ‹b = l›, hl] at this
    cases this
  · rcases List.mem_append.mp he with h | h
    · exact l5 e h
    · rw [List.mem_singleton.mp h]
      exact hl1
def copyV (es : List (Addr × Addr)) (vals : List (Nm × Addr × Nums)) : List (Nm × Addr × Nums) := (es.zip vals).map fun z => (z.2.1, z.1.2, z.2.2.2)
end L2
set_option Elab.async false
set_option linter.all false
set_option maxRecDepth 100000
namespace L2
open PySem PySem.Spec PyProof.Rows
section
variable {X : Cx}
end
def Itv (K : PySem.W.Frag) (a : Addr) (xs : List V) : It := ⟨fun i H => i < xs.length ∧ SqL K H a xs, fun i H x H' => H' = H ∧ xs.reverse[i]? = some x, fun i H => i = xs.length ∧ SqL K H a xs⟩
def iRev (K : PySem.W.Frag) (ta : TA) : TI := fun σ H R => ta σ H fun vs H1 => ∃ a xs, vs = [.ref a] ∧ SqL K H1 a xs ∧ R (Itv K a xs) H1
section
variable {X : Cx} {tg : Expr}
end
section
variable {X : Cx}
end
section
variable {X : Cx}
def rEqN (K : PySem.W.Frag) : R2 := fun x y H Q => ∃ (a b : Addr) (ns ms : List Int), x = .ref a ∧ y = .ref b ∧ SqL K H a (ns.map V.int) ∧ SqL K H b (ms.map V.int) ∧ Q (.bl (decide (ns = ms))) H
variable {pos : Pos}
theorem bpgs_nil : Bx (PGs X [] gNil) := ⟨pgs_nil⟩
theorem bpgs_cons {e : Expr} {es : List Expr} {t : TG} {u : TGs} (h1 : Bx (PG X e t)) (h2 : Bx (PGs X es u)) (hs : (assignEach (e :: es) X.env).map (·.2) = assign e X.env :: (assignEach es X.env).map (·.2) := by rfl) : Bx (PGs X (e :: es) (gCons t u)) := ⟨pgs_cons h1.un h2.un hs⟩
theorem bpg_tup {es : List Expr} {k : Nat} {t : TGs} {n : Nat} (hc : X.calm = true) (h : Bx (PGs X es t)) (hn : (assignEach es X.env).length = n := by rfl) (hst : (assignEach es X.env).findIdx? (·.1) = none := by rfl) : Bx (PG X (.Tuple es k pos) (gTup X.K n t)) := ⟨pg_tup hc h.un hn hst⟩
end
theorem op_in_seqK {X : Cx} (K : PySem.W.Frag) (h : X.K = K := by rfl) : OpR X (compareOp .In) (rIn K false) := h ▸ op_in_seq
theorem call_list_ofK {X : Cx} (K : PySem.W.Frag) (h : X.K = K := by rfl) : CallR X (.type "list") (fun xs H Q => ∃ p ys, xs = [.ref p] ∧ (SqL K H p ys ∨ SqT K H p ys) ∧ ∀ l, H l = none → Q (.ref l) (upd H l (.lst ys))) := h ▸ call_list_of
end L2
set_option Elab.async false
set_option linter.all false
set_option maxRecDepth 100000
namespace L2
open PySem PySem.Spec PyProof.Rows
structure Stp where
  nm : List Nat
  wt : Int
  back : Bool
def stV (s : Stp) : List V := [.str (tx s.nm), .int s.wt, .bl s.back]
def meetC (w : Int) (sg : List Nat) (n : Int) : Bool := if sg = [60] then decide (w < n) else if sg = [62] then decide (w > n) else if sg = [61] then decide (w = n) else if sg = [33] then !decide (w = n) else true
def fitC (m : Mrk) (s : Stp) : Bool := decide (s.back = m.back) && (decide (m.nm = [95]) || decide (m.nm = s.nm)) && meetC s.wt m.sg m.num
structure Mch where
  mks : List Mrk
  fol : List (List Int)
  ends : List Bool
structure MchOk (m : Mch) : Prop where
  lf : m.fol.length = m.mks.length + 1
  le : m.ends.length = m.mks.length + 1
  rng : ∀ l ∈ m.fol, ∀ r ∈ l, 1 ≤ r ∧ r ≤ m.mks.length
  few : m.mks.length ≤ 24
  short : ∀ l ∈ m.fol, l.length ≤ 100
def MksAt (H : Hp) (a : Addr) (ms : List Mrk) : Prop := ∃ as : List Addr, H a = some (.lst (as.map V.ref)) ∧ All2 (fun x k => H x = some (.tup (mkV k)) ∧ MrkW k) as ms
def FolAt (H : Hp) (a : Addr) (fs : List (List Int)) : Prop := ∃ as : List Addr, H a = some (.lst (as.map V.ref)) ∧ All2 (fun x l => H x = some (.lst (l.map V.int))) as fs
def EndsAt (H : Hp) (a : Addr) (bs : List Bool) : Prop := H a = some (.lst (bs.map V.bl))
def StepsAt (H : Hp) (a : Addr) (ss : List Stp) : Prop := ∃ as : List Addr, H a = some (.lst (as.map V.ref)) ∧ All2 (fun x s => H x = some (.tup (stV s)) ∧ okT s.nm) as ss
theorem MksAt.same {H H' : Hp} {a : Addr} {ms : List Mrk} (h : MksAt H a ms) (s : Same H H') : MksAt H' a ms := by
  obtain ⟨as, e, al⟩ := h
  exact ⟨as, s _ _ e, al.imp fun _ _ r => ⟨s _ _ r.1, r.2⟩⟩
theorem FolAt.same {H H' : Hp} {a : Addr} {fs : List (List Int)} (h : FolAt H a fs) (s : Same H H') : FolAt H' a fs := by
  obtain ⟨as, e, al⟩ := h
  exact ⟨as, s _ _ e, al.imp fun _ _ r => s _ _ r⟩
theorem StepsAt.same {H H' : Hp} {a : Addr} {ss : List Stp} (h : StepsAt H a ss) (s : Same H H') : StepsAt H' a ss := by
  obtain ⟨as, e, al⟩ := h
  exact ⟨as, s _ _ e, al.imp fun _ _ r => ⟨s _ _ r.1, r.2⟩⟩
structure MchAt (H : Hp) (a : Addr) (m : Mch) : Prop where
  at_ : ∃ x y z, H a = some (.tup [.ref x, .ref y, .ref z]) ∧ MksAt H x m.mks ∧ FolAt H y m.fol ∧ EndsAt H z m.ends
theorem MchAt.same {H H' : Hp} {a : Addr} {m : Mch} (h : MchAt H a m) (s : Same H H') : MchAt H' a m := by
  obtain ⟨x, y, z, e, h1, h2, h3⟩ := h.at_
  exact ⟨x, y, z, s _ _ e, h1.same s, h2.same s, s _ _ h3⟩
def folOf (m : Mch) (r : Int) : List Int := (m.fol[r.toNat]?).getD []
def fitO (m : Mch) (s : Stp) (o : Int) : Bool := match m.mks[(o - 1).toNat]? with | some k => fitC k s | none => false
def Goes (m : Mch) (s : Stp) (r o : Int) : Prop := o ∈ folOf m r ∧ fitO m s o = true
def endC (m : Mch) (r : Int) : Bool := (m.ends[r.toNat]?).getD false
theorem folOf_rng {m : Mch} (ok : MchOk m) {r o : Int} (h : o ∈ folOf m r) : 1 ≤ o ∧ o ≤ m.mks.length := by
  unfold folOf at h
  cases q : m.fol[r.toNat]? with
  | none =>
    rw [q] at h
    cases h
  | some l =>
    rw [q] at h
    exact ok.rng l (List.mem_of_getElem? q) o h
def kvI (ks : List (Int × Int)) : List (Key × V) := ks.map fun p => (.inl p.1, .int p.2)
structure Led (m : Mch) (s : Stp) (prev : List Int) (ks : List (Int × Int)) : Prop where
  nd : (ks.map (·.1)).Nodup
  from_ : ∀ p ∈ ks, p.2 ∈ prev ∧ Goes m s p.2 p.1
  all : ∀ r ∈ prev, ∀ o, Goes m s r o → o ∈ ks.map (·.1)
def roomsC (m : Mch) : List Int := (List.range m.mks.length).map fun (k : Nat) => 1 + (k : Int)
def nextC (m : Mch) (s : Stp) (here : List Int) : List Int := (roomsC m).filter fun r => here.any (fun old => decide (r ∈ folOf m old)) && fitO m s r
def walkC (m : Mch) : List Int → List Stp → List Int
  | here, [] => here
  | here, s :: r => walkC m (nextC m s here) r
theorem walkC_snoc (m : Mch) (s : Stp) : ∀ (ss : List Stp) (here : List Int), walkC m here (ss ++ [s]) = nextC m s (walkC m here ss)
  | [], _ => rfl
  | t :: r, here => walkC_snoc m s r (nextC m t here)
theorem mem_rooms {m : Mch} {r : Int} : r ∈ roomsC m ↔ 1 ≤ r ∧ r ≤ m.mks.length := by
  unfold roomsC
  rw [List.mem_map]
  constructor
  · rintro ⟨k, hk, rfl⟩
    have := List.mem_range.mp hk
    omega
  · rintro ⟨h1, h2⟩
    exact ⟨(r - 1).toNat, List.mem_range.mpr (by omega), by omega⟩
theorem mem_next {m : Mch} (ok : MchOk m) {s : Stp} {here : List Int} {o : Int} : o ∈ nextC m s here ↔ ∃ r ∈ here, Goes m s r o := by
  unfold nextC
  rw [List.mem_filter, Bool.and_eq_true, List.any_eq_true]
  constructor
  · rintro ⟨_, ⟨r, hr, h1⟩, h2⟩
    exact ⟨r, hr, of_decide_eq_true h1, h2⟩
  · rintro ⟨r, hr, h1, h2⟩
    exact ⟨mem_rooms.mpr (folOf_rng ok h1), ⟨r, hr, decide_eq_true h1⟩, h2⟩
theorem next_rng {m : Mch} {s : Stp} {here : List Int} {o : Int} (h : o ∈ nextC m s here) : 0 ≤ o ∧ o ≤ m.mks.length := by
  unfold nextC at h
  have := mem_rooms.mp (List.mem_filter.mp h).1
  omega
theorem walk_rng {m : Mch} : ∀ {ss : List Stp} {here : List Int}, (∀ o ∈ here, 0 ≤ o ∧ o ≤ m.mks.length) → ∀ o ∈ walkC m here ss, 0 ≤ o ∧ o ≤ m.mks.length
  | [], _, h => h
  | s :: r, here, _ => fun o ho => walk_rng (ss := r) (here := nextC m s here) (fun _ hx => next_rng hx) o ho
structure Lays (m : Mch) (ss : List Stp) (lays : List (List (Int × Int))) : Prop where
  len : lays.length = ss.length + 1
  first : lays[0]? = some [(0, 0)]
  led : ∀ (i : Nat) (s : Stp) (p n : List (Int × Int)), ss[i]? = some s → lays[i]? = some p → lays[i + 1]? = some n → Led m s (p.map (·.1)) n
theorem Lays.take {m : Mch} {ss : List Stp} {lays : List (List (Int × Int))} (h : Lays m ss lays) : ∀ (i : Nat) (ks : List (Int × Int)), lays[i]? = some ks → MchOk m → ∀ o, o ∈ ks.map (·.1) ↔ o ∈ walkC m [0] (ss.take i)
  | 0, ks, hk, _, o => by
    rw [h.first] at hk
    cases hk
    simp [walkC]
  | i + 1, ks, hk, ok, o => by
    have il : i + 1 < lays.length := (List.getElem?_eq_some_iff.mp hk).1
    have is : i < ss.length := by rw [h.len] at il; omega
    have e1 : ss[i]? = some ss[i] := by simp
    have e2 : lays[i]? = some (lays[i]'(by omega)) := by simp
    have led := h.led i _ _ _ e1 e2 hk
    have ih := h.take i _ e2 ok
    rw [take_get e1, walkC_snoc, mem_next ok]
    constructor
    · intro ho
      obtain ⟨p, hp, rfl⟩ := List.mem_map.mp ho
      obtain ⟨f1, f2⟩ := led.from_ p hp
      exact ⟨p.2, (ih _).mp f1, f2⟩
    · rintro ⟨r, hr, g⟩
      exact led.all r ((ih _).mpr hr) o g
def chainC (m : Mch) : Int → List Stp → List Int → Prop
  | old, [], [] => endC m old = true
  | old, s :: ss, r :: rs => Goes m s old r ∧ chainC m r ss rs
  | _, _, _ => False
theorem zip_ref {β : Type} : ∀ {as : List Addr} {bs : List β}, as.length = bs.length → (as.zip bs).map (fun c => V.ref c.1) = as.map V.ref
  | [], [], _ => rfl
  | [], _ :: _, h => by cases h
  | _ :: _, [], h => by cases h
  | a :: as, b :: bs, h => by
    rw [List.zip_cons_cons, List.map_cons, List.map_cons, zip_ref (by simpa using h)]
def putI (ks : List (Int × Int)) (o r : Int) : List (Int × Int) := if (ks.any fun p => decide (p.1 = o)) = true then ks.map (fun p => if p.1 = o then (p.1, r) else p) else ks ++ [(o, r)]
theorem putI_mem {ks : List (Int × Int)} {o r : Int} {p : Int × Int} (h : p ∈ putI ks o r) : p ∈ ks ∨ p = (o, r) := by
  unfold putI at h
  split at h
  · obtain ⟨q, hq, rfl⟩ := List.mem_map.mp h
    by_cases e : q.1 = o
    · rw [if_pos e, e]
      exact .inr rfl
    · rw [if_neg e]
      exact .inl hq
  · rcases List.mem_append.mp h with z | z
    · exact .inl z
    · exact .inr (List.mem_singleton.mp z)
theorem putI_keys (ks : List (Int × Int)) (o r : Int) : (putI ks o r).map (·.1) = if o ∈ ks.map (·.1) then ks.map (·.1) else ks.map (·.1) ++ [o] := by
  have e : ((ks.any fun p => decide (p.1 = o)) = true) ↔ o ∈ ks.map (·.1) := by
    rw [List.any_eq_true, List.mem_map]
    exact ⟨fun ⟨p, hp, h⟩ => ⟨p, hp, of_decide_eq_true h⟩, fun ⟨p, hp, h⟩ => ⟨p, hp, decide_eq_true h⟩⟩
  unfold putI
  by_cases h : o ∈ ks.map (·.1)
  · rw [if_pos (e.mpr h), if_pos h, List.map_map]
    refine List.map_congr_left fun p _ => ?_
    dsimp only [Function.comp]
    split <;> rfl
  · rw [if_neg (fun z => h (e.mp z)), if_neg h, List.map_append]
    rfl
theorem putI_nd {ks : List (Int × Int)} {o r : Int} (h : (ks.map (·.1)).Nodup) : ((putI ks o r).map (·.1)).Nodup := by
  rw [putI_keys]
  split
  · exact h
  · rename_i n
    rw [List.nodup_append]
    exact ⟨h, by simp, fun a ha b hb z => n (by rw [List.mem_singleton.mp hb] at z; rw [← z]; exact ha)⟩
structure LedP (m : Mch) (s : Stp) (prev : List Int) (ks : List (Int × Int)) : Prop where
  nd : (ks.map (·.1)).Nodup
  from_ : ∀ p ∈ ks, p.2 ∈ prev ∧ Goes m s p.2 p.1
theorem LedP.len {m : Mch} {s : Stp} {prev : List Int} {ks : List (Int × Int)} (h : LedP m s prev ks) (ok : MchOk m) : ks.length ≤ 24 := by
  have := nd_len (ks.map (·.1)) (roomsC m) h.nd fun x hx => by
    obtain ⟨p, hp, rfl⟩ := List.mem_map.mp hx
    exact mem_rooms.mpr (folOf_rng ok (h.from_ p hp).2.1)
  rw [List.length_map] at this
  have l2 : (roomsC m).length = m.mks.length := by
    unfold roomsC
    rw [List.length_map, List.length_range]
  have := ok.few
  omega
theorem LedP.put {m : Mch} {s : Stp} {prev : List Int} {ks : List (Int × Int)} {o r : Int} (h : LedP m s prev ks) (hr : r ∈ prev) (g : Goes m s r o) : LedP m s prev (putI ks o r) :=
  ⟨putI_nd h.nd, fun p hp => by
    rcases putI_mem hp with z | rfl
    · exact h.from_ p z
    · exact ⟨hr, g⟩⟩
theorem at_get {α : Type} {xs : List α} {i : Int} {v : α} (h0 : 0 ≤ i) (h : xs[i.toNat]? = some v) : atI xs i = some v := by
  obtain ⟨n, rfl⟩ := Int.eq_ofNat_of_zero_le h0
  exact atI_nat (by simpa using h)
theorem All2.at {α β : Type} {R : α → β → Prop} {as : List α} {bs : List β} {i : Nat} {b : β} (h : All2 R as bs) (hb : bs[i]? = some b) : ∃ a, as[i]? = some a ∧ R a b := by
  have : i < as.length := by
    rw [h.len]
    exact (List.getElem?_eq_some_iff.mp hb).1
  exact ⟨as[i], by simp, h.get (by simp) hb⟩
theorem Lays.snoc {m : Mch} {ss : List Stp} {l0 : List (List (Int × Int))} {kl ks : List (Int × Int)} {s : Stp} (h : Lays m ss (l0 ++ [kl])) (l : Led m s (kl.map (·.1)) ks) : Lays m (ss ++ [s]) (l0 ++ [kl] ++ [ks]) := by
  have len := h.len
  have l1 : l0.length = ss.length := by
    rw [List.length_append] at len
    simp only [List.length_cons, List.length_nil] at len
    omega
  refine ⟨by rw [List.length_append, len, List.length_append]; rfl, by rw [List.getElem?_append_left (by rw [len]; omega)]; exact h.first, fun i t p n h1 h2 h3 => ?_⟩
  by_cases hi : i < ss.length
  · rw [List.getElem?_append_left hi] at h1
    rw [List.getElem?_append_left (by rw [len]; omega)] at h2 h3
    exact h.led i t p n h1 h2 h3
  · have e : i = ss.length := by
      have := (List.getElem?_eq_some_iff.mp h1).1
      rw [List.length_append] at this
      simp only [List.length_cons, List.length_nil] at this
      omega
    subst e
    rw [List.getElem?_append_right (Nat.le_refl _), Nat.sub_self] at h1
    cases h1
    rw [List.getElem?_append_right (by rw [len]; omega), len, Nat.sub_self] at h3
    cases h3
    rw [List.getElem?_append_left (by rw [len]; omega), List.getElem?_append_right (by omega), l1, Nat.sub_self] at h2
    cases h2
    exact l
theorem Lays.one (m : Mch) : Lays m [] [[(0, 0)]] := ⟨rfl, rfl, fun i s p n h => (by simp at h)⟩
theorem Led.p {m : Mch} {s : Stp} {prev : List Int} {ks : List (Int × Int)} (h : Led m s prev ks) : LedP m s prev ks := ⟨h.nd, h.from_⟩
theorem zero_rng {m : Mch} : ∀ o ∈ [(0 : Int)], 0 ≤ o ∧ o ≤ m.mks.length := fun o ho => by
  rw [List.mem_singleton.mp ho]
  omega
theorem Lays.rng {m : Mch} {ss : List Stp} {lays : List (List (Int × Int))} (h : Lays m ss lays) (ok : MchOk m) {i : Nat} {ks : List (Int × Int)} (hk : lays[i]? = some ks) : (∀ p ∈ ks, 0 ≤ p.1 ∧ p.1 ≤ m.mks.length) ∧ ks.length ≤ 25 ∧ (ks.map (·.1)).Nodup := by
  refine ⟨fun p hp => walk_rng (ss := ss.take i) zero_rng _ ((h.take i ks hk ok p.1).mp (List.mem_map.mpr ⟨p, hp, rfl⟩)), ?_⟩
  cases i with
  | zero =>
    rw [h.first] at hk
    cases hk
    simp
  | succ i =>
    have il : i + 1 < lays.length := (List.getElem?_eq_some_iff.mp hk).1
    have is : i < ss.length := by rw [h.len] at il; omega
    have led := h.led i ss[i] (lays[i]'(by omega)) ks (by simp) (by simp) hk
    have := led.p.len ok
    exact ⟨by omega, led.nd⟩
def isEnd (m : Mch) : Key → Bool
  | .inl r => endC m r
  | .inr _ => false
theorem inV_ints (r : Int) : ∀ l : List Int, inV (.int r) (l.map V.int) = decide (r ∈ l)
  | [] => by simp [inV]
  | x :: l => by
    have := inV_ints r l
    unfold inV at this ⊢
    rw [List.map_cons, List.any_cons, this]
    by_cases h : x = r
    · simp [eqV, h]
    · have h' : ¬ r = x := fun z => h z.symm
      simp [eqV, h, h']
theorem flat_ints (l : List Int) : (l.map V.int).all flatV = true := by
  induction l with
  | nil => rfl
  | cons x r ih => rw [List.map_cons, List.all_cons, ih]; rfl
theorem rd_inN {K : PySem.W.Frag} {H : Hp} {a : Addr} {l : List Int} {r : Int} {neg : Bool} {Q : VK} (ha : SqL K H a (l.map V.int)) (q : Q (.bl (if neg then !decide (r ∈ l) else decide (r ∈ l))) H) : rIn K neg (.int r) (.ref a) H Q :=
  ⟨a, _, rfl, .inl ha, rfl, flat_ints l, by rw [inV_ints]; exact q⟩
theorem StepsAt.nil {H : Hp} {q : Addr} (h : H q = some (.lst [])) : StepsAt H q [] := ⟨[], h, .nil⟩
theorem All2.rep {α β : Type} {R : α → β → Prop} {as : List α} {bs : List β} (h : All2 R as bs) : ∀ n : Nat, All2 R (List.replicate n as).flatten (List.replicate n bs).flatten
  | 0 => .nil
  | n + 1 => by
    rw [List.replicate_succ, List.replicate_succ, List.flatten_cons, List.flatten_cons]
    exact h.append (h.rep n)
theorem All2.drop {α β : Type} {R : α → β → Prop} : ∀ {as : List α} {bs : List β} (n : Nat), All2 R as bs → All2 R (as.drop n) (bs.drop n)
  | _, _, 0, h => h
  | _, _, _ + 1, .nil => .nil
  | _, _, n + 1, .cons _ t => t.drop n
theorem All2.take {α β : Type} {R : α → β → Prop} : ∀ {as : List α} {bs : List β} (n : Nat), All2 R as bs → All2 R (as.take n) (bs.take n)
  | _, _, 0, _ => .nil
  | _, _, _ + 1, .nil => .nil
  | _, _, n + 1, .cons r t => .cons r (t.take n)
end L2
set_option Elab.async false
set_option linter.all false
set_option maxRecDepth 100000
namespace L2
open PySem PySem.Spec PyProof.Rows
def Fit (n : Nat) (d : PyData) : Prop := d.canLay0 = true ∧ d.depth ≤ n
def FitAll (n : Nat) (ds : List PyData) : Prop := PyData.canLayAll0 ds = true ∧ PyData.depthAll ds ≤ n
theorem fit_all {n : Nat} : ∀ {ds : List PyData}, (∀ d ∈ ds, Fit n d) → FitAll n ds
  | [], _ => ⟨rfl, Nat.zero_le _⟩
  | d :: ds, h => by
    have h1 := h d (by simp)
    have h2 := fit_all (n := n) (ds := ds) fun x hx => h x (List.mem_cons_of_mem _ hx)
    refine ⟨by rw [PyData.canLayAll0, h1.1, h2.1]; rfl, ?_⟩
    rw [PyData.depthAll]
    exact Nat.max_le.mpr ⟨h1.2, h2.2⟩
theorem fit_list {n : Nat} {ds : List PyData} (h : FitAll n ds) : Fit (n + 1) (.list ds) := ⟨by rw [PyData.canLay0]; exact h.1, by rw [PyData.depth]; have := h.2; omega⟩
theorem fit_tup {n : Nat} {ds : List PyData} (h : FitAll n ds) : Fit (n + 1) (.tuple ds) := ⟨by rw [PyData.canLay0]; exact h.1, by rw [PyData.depth]; have := h.2; omega⟩
theorem Fit.more {n k : Nat} {d : PyData} (h : Fit n d) (l : n ≤ k) : Fit k d := ⟨h.1, Nat.le_trans h.2 l⟩
theorem fit_int (i : Int) : Fit 0 (.int i) := ⟨rfl, Nat.le_refl _⟩
theorem fit_bool (b : Bool) : Fit 0 (.bool b) := ⟨rfl, Nat.le_refl _⟩
theorem fit_str {l : List Nat} (h : okT l) : Fit 0 (.str (tx l)) := ⟨by rw [PyData.canLay0]; exact strOk_tx h, Nat.le_refl _⟩
theorem Fit.shaped {n : Nat} {d : PyData} (h : Fit n d) (l : n ≤ 64) : SeqAt.shaped d = true := by
  unfold SeqAt.shaped
  rw [Bool.and_eq_true, decide_eq_true_eq]
  exact ⟨h.1, Nat.le_trans h.2 l⟩
theorem datVs_of {α : Type} {K : PySem.W.Frag} {H : Hp} {f : α → PyData} {R : Addr → α → Prop} (hR : ∀ a x, R a x → DatV K H (.ref a) (f x)) : ∀ {as : List Addr} {xs : List α}, All2 R as xs → DatVs K H (as.map V.ref) (xs.map f)
  | _, _, .nil => .nil
  | _, _, .cons r t => .cons (hR _ _ r) (datVs_of hR t)
theorem datVs_bools {K : PySem.W.Frag} {H : Hp} : ∀ bs : List Bool, DatVs K H (bs.map V.bl) (bs.map PyData.bool)
  | [] => .nil
  | _ :: r => .cons (.bl _) (datVs_bools r)
def markD (m : Mrk) : PyData := .tuple [.str (tx markC), .str (tx m.nm), .bool m.back, .str (tx m.sg), .int m.num]
def stepD (s : Stp) : PyData := .tuple [.str (tx s.nm), .int s.wt, .bool s.back]
def intsD (l : List Int) : PyData := .list (l.map PyData.int)
theorem fit_mark {m : Mrk} (o : MrkOk m) : Fit 1 (markD m) := fit_tup (fit_all fun d hd => by
  simp only [List.mem_cons, List.not_mem_nil, or_false] at hd
  rcases hd with rfl | rfl | rfl | rfl | rfl
  · exact fit_str (by unfold okT; decide)
  · exact fit_str o.nm
  · exact fit_bool _
  · exact fit_str o.sg
  · exact fit_int _)
theorem fit_ints (l : List Int) : Fit 1 (intsD l) := fit_list (fit_all fun d hd => by
  obtain ⟨i, _, rfl⟩ := List.mem_map.mp hd
  exact fit_int i)
theorem fit_bools (l : List Bool) : Fit 1 (.list (l.map PyData.bool)) := fit_list (fit_all fun d hd => by
  obtain ⟨i, _, rfl⟩ := List.mem_map.mp hd
  exact fit_bool i)
theorem MksAt.dat {K : PySem.W.Frag} {H : Hp} {a : Addr} {ms : List Mrk} (h : MksAt H a ms) : DatV K H (.ref a) (.list (ms.map markD)) := by
  obtain ⟨as, e, al⟩ := h
  exact .lst (SqL.of e) (datVs_of (fun x m r => datMark r.1) al)
theorem FolAt.dat {K : PySem.W.Frag} {H : Hp} {a : Addr} {fs : List (List Int)} (h : FolAt H a fs) : DatV K H (.ref a) (.list (fs.map intsD)) := by
  obtain ⟨as, e, al⟩ := h
  exact .lst (SqL.of e) (datVs_of (fun x l r => .lst (SqL.of r) (datVs_ints l)) al)
theorem StepsAt.dat {K : PySem.W.Frag} {H : Hp} {a : Addr} {ss : List Stp} (h : StepsAt H a ss) : DatV K H (.ref a) (.list (ss.map stepD)) := by
  obtain ⟨as, e, al⟩ := h
  exact .lst (SqL.of e) (datVs_of (fun x s r => .tup (SqT.of r.1) (.cons (.str _) (.cons (.int _) (.cons (.bl _) .nil)))) al)
def machD (m : Mch) : PyData := .tuple [.list (m.mks.map markD), .list (m.fol.map intsD), .list (m.ends.map PyData.bool)]
theorem mach_dat {K : PySem.W.Frag} {H : Hp} {a x y z : Addr} {m : Mch} (e : H a = some (.tup [.ref x, .ref y, .ref z])) (h1 : MksAt H x m.mks) (h2 : FolAt H y m.fol) (h3 : EndsAt H z m.ends) : DatV K H (.ref a) (machD m) :=
  .tup (SqT.of e) (.cons h1.dat (.cons h2.dat (.cons (.lst (SqL.of h3) (datVs_bools _)) .nil)))
theorem mach_fit {H : Hp} {x : Addr} {m : Mch} (h1 : MksAt H x m.mks) : Fit 3 (machD m) := by
  refine fit_tup (fit_all fun d hd => ?_)
  simp only [List.mem_cons, List.not_mem_nil, or_false] at hd
  rcases hd with rfl | rfl | rfl
  · refine fit_list (fit_all fun d hd => ?_)
    obtain ⟨k, hk, rfl⟩ := List.mem_map.mp hd
    obtain ⟨as, e, al⟩ := h1
    obtain ⟨i, hi⟩ := List.mem_iff_getElem?.mp hk
    obtain ⟨x, _, r⟩ := al.at hi
    exact fit_mark r.2.ok
  · refine fit_list (fit_all fun d hd => ?_)
    obtain ⟨l, _, rfl⟩ := List.mem_map.mp hd
    exact fit_ints l
  · exact (fit_bools _).more (by decide)
theorem refs_rel {α β : Type} {P : Addr → β → Prop} : ∀ {cs : List α} {ys : List V}, All2 (fun _ v => ∃ p k, v = V.ref p ∧ P p k) cs ys → ∃ (as : List Addr) (ks : List β), ys = as.map V.ref ∧ All2 P as ks ∧ ks.length = cs.length
  | _, _, .nil => ⟨[], [], rfl, .nil, rfl⟩
  | _, _, .cons ⟨p, k, e, r⟩ t => by
    obtain ⟨as, ks, e2, a2, l2⟩ := refs_rel t
    exact ⟨p :: as, k :: ks, by rw [e, e2]; rfl, .cons r a2, by rw [List.length_cons, List.length_cons, l2]⟩
theorem refs_same {β : Type} {P : Addr → β → Prop} {R : α → β} : ∀ {cs : List α} {ys : List V}, All2 (fun c v => ∃ p, v = V.ref p ∧ P p (R c)) cs ys → ∃ as : List Addr, ys = as.map V.ref ∧ All2 P as (cs.map R)
  | _, _, .nil => ⟨[], rfl, .nil⟩
  | _, _, .cons ⟨p, e, r⟩ t => by
    obtain ⟨as, e2, a2⟩ := refs_same t
    exact ⟨p :: as, by rw [e, e2]; rfl, .cons r a2⟩
theorem comp_own {α : Type} {J : It} {H1 : Hp} {fr : List Nat} {σ : St} {te : TE} {Q : VK} {cs : List α} {g : α → V} (T : Tells J H1 (cs.map g)) (R : Hp → α → Addr → Prop) (mono : ∀ c p H H', Same H H' → R H c p → R H' c p) (hz : cs.length ≤ sizeLine)
    (he : ∀ c H2 Q2, c ∈ cs → Same H1 H2 → (∀ p H3, H2 p = none → Same H2 H3 → R H3 c p → Q2 (.ref p) H3) → te (stB1 (g c) fr σ) H2 Q2)
    (off : ∀ H c p D o, p ≠ D → R H c p → R (upd H D o) c p)
    (hQ : ∀ D H2 ys, H1 D = none → Same H1 H2 → H2 D = some (.lst ys) → All2 (fun c v => ∃ p, v = V.ref p ∧ R H2 c p ∧ p ≠ D ∧ H1 p = none) cs ys → Q (.ref D) H2) : CompR J H1 fr σ tYes te Q := by
  intro D hD
  have hlen : (cs.map g).length = cs.length := List.length_map ..
  refine ⟨fun i m ys H2 => m = cs.length - i ∧ i ≤ cs.length ∧ All2 (fun c v => ∃ p, v = V.ref p ∧ R H2 c p ∧ p ≠ D ∧ H1 p = none) (cs.take i) ys ∧ Same H1 H2 ∧ H2 D = some (.lst ys), ⟨_, rfl, Nat.zero_le _, .nil, Same.new hD, upd_same⟩, ?_⟩
  rintro i m ys H2 ⟨rfl, hi, a2, s2, d2⟩
  by_cases hlt : i < cs.length
  · refine .inr ⟨T.go i H2 (by rw [hlen]; exact hlt) s2, fun x H3 y => ?_⟩
    obtain ⟨rfl, hx⟩ := T.yld i H2 x H3 s2 (by rw [hlen]; exact hlt) y
    rw [List.getElem?_map] at hx
    cases hc : cs[i]? with
    | none => rw [hc] at hx; cases hx
    | some c =>
      rw [hc] at hx
      obtain rfl : g c = x := Option.some.inj hx
      unfold tYes
      dsimp only
      rw [if_pos rfl]
      refine he c H3 _ (List.mem_of_getElem? hc) s2 fun p H5 hp s5 r5 => ⟨s5 _ _ d2, ?_, _, ?_, rfl, hlt, ?_, (s2.trans s5).upd_new hD, upd_same⟩
      · have := a2.len
        rw [List.length_take] at this
        omega
      · omega
      · have pD : p ≠ D := fun z => by
          rw [z, d2] at hp
          cases hp
        rw [take_get hc]
        exact All2.snoc ⟨p, rfl, off _ _ _ _ _ pD r5, pD, s2.free hp⟩ (a2.imp fun c v ⟨p, e, r, n, f⟩ => ⟨p, e, off _ _ _ _ _ n (mono _ _ _ _ s5 r), n, f⟩)
  · obtain rfl : i = cs.length := by omega
    exact .inl ⟨by have := T.stop H2 s2; rw [hlen] at this; exact this, hQ D H2 ys hD s2 d2 (by rw [List.take_length] at a2; exact a2)⟩
theorem cut_ints (ns : List Int) (lo hi : Option Int) : ∃ cs : List Int, cutV (ns.map V.int) lo hi = cs.map V.int ∧ cs.length ≤ ns.length := by
  unfold cutV
  refine ⟨(ns.drop (HT.sIx (ns.map V.int).length 0 lo)).take (HT.sIx (ns.map V.int).length (ns.map V.int).length hi - HT.sIx (ns.map V.int).length 0 lo), by rw [List.map_take, List.map_drop], ?_⟩
  rw [List.length_take, List.length_drop]
  omega
end L2
set_option Elab.async false
set_option linter.all false
set_option maxRecDepth 100000
namespace L2
open PySem PySem.Spec PyProof.Rows
theorem cut_to (ns : List Int) (hi : Int) (h0 : 0 ≤ hi) : cutV (ns.map V.int) none (some hi) = (ns.take hi.toNat).map V.int := by
  obtain ⟨k, rfl⟩ := Int.eq_ofNat_of_zero_le h0
  unfold cutV
  rw [HT.sIx_none, HT.sIx_nat, List.drop_zero, Nat.sub_zero, List.length_map, Int.toNat_natCast, List.map_take]
  have := (List.take_eq_take_min (l := ns.map V.int) (i := k)).symm
  rw [List.length_map] at this
  exact this
def thingC (js : List Int) (sz at_ dl : Int) (short : Prop) [Decidable short] (i : Nat) : Nm :=
  (if short then js.take (i + 1) else (js.take sz.toNat).set at_.toNat ((js.getD at_.toNat 0 + (i : Int) * dl) % 26)).map letC
theorem thing_good {js : List Int} {sz at_ dl : Int} {short : Prop} [Decidable short] {i : Nat} (l12 : js.length = 12) (z1 : 1 ≤ sz) (z2 : sz ≤ 12) (hi : i < 12) : 1 ≤ (thingC js sz at_ dl short i).length ∧ (thingC js sz at_ dl short i).length ≤ 12 ∧ ∀ x ∈ thingC js sz at_ dl short i, x ∈ abc := by
  refine ⟨?_, ?_, word_abc _⟩
  · unfold thingC
    rw [List.length_map]
    split
    · rw [List.length_take]
      omega
    · rw [List.length_set, List.length_take]
      omega
  · unfold thingC
    rw [List.length_map]
    split
    · rw [List.length_take]
      omega
    · rw [List.length_set, List.length_take]
      omega
theorem thing_ne {js : List Int} {sz at_ dl : Int} {short : Prop} [Decidable short] {i j : Nat} (l12 : js.length = 12) (z1 : 1 ≤ sz) (z2 : sz ≤ 12) (a0 : 0 ≤ at_) (a1 : at_ < sz) (d0 : dl = 1 ∨ dl = 2) (hi : i < 12) (hj : j < 12) (h : thingC js sz at_ dl short i = thingC js sz at_ dl short j) : i = j := by
  unfold thingC at h
  by_cases s : short
  · rw [if_pos s, if_pos s] at h
    have := congrArg List.length h
    rw [List.length_map, List.length_map, List.length_take, List.length_take] at this
    omega
  · rw [if_neg s, if_neg s] at h
    have al : at_.toNat < (js.take sz.toNat).length := by rw [List.length_take]; omega
    have := congrArg (fun l => l[at_.toNat]?) h
    simp only [List.getElem?_map, List.getElem?_set_self al, Option.map_some, Option.some.injEq] at this
    have e := letC_inj this
    generalize js.getD at_.toNat 0 = x at e
    rcases d0 with rfl | rfl <;> omega
theorem things_nd {js : List Int} {sz at_ dl : Int} {short : Prop} [Decidable short] (l12 : js.length = 12) (z1 : 1 ≤ sz) (z2 : sz ≤ 12) (a0 : 0 ≤ at_) (a1 : at_ < sz) (d0 : dl = 1 ∨ dl = 2) {n : Nat} (hn : n ≤ 12) : ((List.range n).map (thingC js sz at_ dl short)).Nodup := by
  rw [List.nodup_iff_pairwise_ne, List.pairwise_map]
  have p := List.pairwise_lt_range (n := n)
  refine List.Pairwise.imp_of_mem (fun {x y} hx hy lt e => ?_) p
  have := thing_ne l12 z1 z2 a0 a1 d0 (by have := List.mem_range.mp hx; omega) (by have := List.mem_range.mp hy; omega) e
  omega
theorem by_else {P G : Prop} (k : P → G) (h : P) : G := k h
theorem rows_cut {rs : List (Int × Addr × Tie)} {n : Int} : L2.plain (rs.filter fun x => decide (x.1 ≠ n)) = (L2.plain rs).filter fun x => decide (x.1 ≠ n) := by
  unfold L2.plain
  rw [List.filter_map]
  rfl
theorem keys_rows (rs : List (Int × Addr × Tie)) : ((kvTies rs).map fun kv => kV kv.1) = (rs.map (·.1)).map V.int := by
  unfold kvTies
  rw [List.map_map, List.map_map]
  rfl
end L2
set_option Elab.async false
set_option linter.all false
set_option maxRecDepth 100000
namespace L2
open PySem PySem.Spec PyProof.Rows
def tDSetD (td ty tx : TE) : TE := fun σ H Q => td σ H fun x H1 => ∃ a, x = .ref a ∧ IsD H1 a ∧ ty σ H1 fun y H2 => tx σ H2 fun z H3 => ∃ kvs k, H3 a = some (.dK kvs) ∧ y = kV k ∧ kvs.length < sizeLine ∧
  (∀ v, valV kvs k = some v → Q v H3) ∧ (valV kvs k = none → Q z (upd H3 a (.dK (putK kvs k z))))
section
variable {X : Cx} {o e f : Expr} {apos cpos : Pos} {td ty tx : TE}
theorem pe_dsetd (ho : PE X o td) (he : PE X e ty) (hf : PE X f tx) (m : M2 X o "setdefault" apos e f cpos) : PE X (.Call (.Attribute o "setdefault" apos) [e, f] [] cpos) (tDSetD td ty tx) := by
  intro pins s σ H Q I h
  refine wpAny_Call_method m.base m.few m.line PySem.F.plainAttrs_dict PySem.F.slot_dict_setdefault PySem.F.type_dict_setdefault (thn (ho pins s σ H _ I h) fun u s1 ⟨x, H1, I1, rx, a, ex, d, q1⟩ => ?_)
  subst ex
  obtain rfl : u = Value.ref a := rx
  obtain ⟨t1, t2, _⟩ := isD_at I1 d
  refine ⟨t1, t2, ?_⟩
  rw [m.trees]
  refine Calls.callWith_builtin rfl (Calls.evalArgs_plain (Calls.spliced_cons (thn (he pins s1 σ H1 _ I1 q1) fun iv s2 ⟨y, H2, I2, ry, q2⟩ =>
    Calls.spliced_cons (thn (hf pins s2 σ H2 _ I2 q2) fun fv s3 ⟨z, H3, I3, rz, kvs, k, ea, ey, lt, q3, q4⟩ => Calls.spliced_nil ?_))))
  subst ey
  obtain ⟨hz, hd, vs, rel, dd⟩ := dk_of I3.hok ea
  refine call_meetsIn PySem.F.slot_dict_setdefault dd.typeIs PySem.F.entry_dict_setdefault (PySem.F.args_dict_setdefault_3 _ _ _) (PySem.kt_meets_setdefault (mixKind X.prog X.w) a (kV_is ry) hd fv) ⟨vs, dd, by rw [← rel.length]; exact hz, fun v hv => ?_, fun hn h' dd' hs => ?_⟩
  · have rv := rel.val k
    rw [hv] at rv
    cases e : valV kvs k with
    | none => rw [e] at rv; exact absurd rv id
    | some v' =>
      rw [e] at rv
      exact ⟨v', H3, I3.tok _, rv, q3 v' e⟩
  · have rv := rel.val k
    rw [hn] at rv
    cases e : valV kvs k with
    | some v' => rw [e] at rv; exact absurd rv id
    | none =>
      have hl : (putK kvs k z).length ≤ sizeLine := by have := length_putK kvs k z; omega
      have he' : ∃ q, h'.get? a = some q := let ⟨q, _, _, hq, _⟩ := dd'; ⟨q, hq⟩
      exact ⟨z, _, d_write I3 (by rw [ea]; exact True.intro) hs he' (dk_new hl hd (rel.put k rz) dd'), rz, q4 e⟩
theorem bpe_dsetd (ho : Bx (PE X o td)) (he : Bx (PE X e ty)) (hf : Bx (PE X f tx)) (m : M2 X o (Str.ofString "setdefault") apos e f cpos := by exact ⟨rfl, rfl, rfl, rfl⟩) : Bx (PE X (.Call (.Attribute o (Str.ofString "setdefault") apos) [e, f] [] cpos) (tDSetD td ty tx)) := ⟨pe_dsetd ho.un he.un hf.un m⟩
theorem bpe_dget2 (hu : X.A.units + 1 < cLine) (ho : Bx (PE X o td)) (he : Bx (PE X e ty)) (hf : Bx (PE X f tx)) (m : M2 X o (Str.ofString "get") apos e f cpos := by exact ⟨rfl, rfl, rfl, rfl⟩) : Bx (PE X (.Call (.Attribute o (Str.ofString "get") apos) [e, f] [] cpos) (tDGet2 td ty tx)) := ⟨pe_dget2 hu ho.un he.un hf.un m⟩
end
section
variable {X : Cx} {pins : List (Addr × Obj)} {σ : St} {H : Hp} {s : Shared} {h' : Heap}
theorem Inv.turned2 {t' : Nat} {e it : Addr} (I : Inv X pins σ H s) (k : ∀ b o, b ≠ e → b ≠ it → s.heap.get? b = some o → h'.get? b = some o) (f1 : FpOk X pins H e) (f2 : FpOk X pins H it) : Inv X pins σ H { s with heap := h', toks := t' } := by
  have off : ∀ b u, H b = some u → b ≠ e ∧ b ≠ it := fun b u q => ⟨fun z => (by rw [z, f1.1] at q; cases q), fun z => (by rw [z, f2.1] at q; cases q)⟩
  have nc : ∀ b, b ∉ [e, it] → b ≠ e ∧ b ≠ it := fun b hc => ⟨fun z => hc (by simp [z]), fun z => hc (by simp [z])⟩
  refine I.step (g' := s.gens) (d' := s.drawn) (ch := [e, it]) (fun b hb => ?_) (fun b o _ _ hc q _ => k b o (nc b hc).1 (nc b hc).2 q) (fun b o _ _ hc q _ => ⟨o.slots, k b o (nc b hc).1 (nc b hc).2 q⟩) (fun _ _ _ _ n => n)
    (fun b o hc q => ⟨o, k b o (nc b hc).1 (nc b hc).2 q⟩) (fun _ _ q => q) (fun _ _ _ q => q) (fun b ps q => ⟨#[], by rw [q]; simp⟩) (fun m hm => ?_) (fun b u q => ?_) I.bare
  · rcases List.mem_cons.mp hb with z | z
    · subst z
      exact ⟨f1.2.2.2.1, f1.2.1, f1.2.2.2.2.1, f1.2.2.2.2.2⟩
    · obtain rfl := List.mem_singleton.mp z
      exact ⟨f2.2.2.2.1, f2.2.1, f2.2.2.2.2.1, f2.2.2.2.2.2⟩
  · obtain ⟨o, es, ep, ho, r⟩ := hm
    exact ⟨o, es, ep, k _ o (Ne.symm f1.2.1) (Ne.symm f2.2.1) ho, r⟩
  · refine (I.hok b u q).stay (fun c v hc w => ?_) (fun _ w => w) fun _ _ w => w
    rcases hc with z | z
    · subst z
      exact k c v (off _ u q).1 (off _ u q).2 w
    · exact k c v (off c _ z).1 (off c _ z).2 w
end
def Ite (K : PySem.W.Frag) (a : Addr) (xs : List V) : It := ⟨fun i H => i < xs.length ∧ SqL K H a xs, fun i H x H' => ∃ p y, H p = none ∧ x = .ref p ∧ xs[i]? = some y ∧ H' = upd H p (.tup [.int i, y]), fun i H => i = xs.length ∧ SqL K H a xs⟩
theorem turn_enum {P : Program} {w : World} {K : PySem.W.Frag} {elts : List Expr} {x1 : Nat} {pos : Pos} (a e it : Addr) (xs : List V) (hne : e ≠ it) : Turn P w K (.Tuple elts x1 pos) (Ite K a xs) [e, it] e (fun i h => (∃ old, IsEnum h e it i old) ∧ h.IsListIter it a i) where
  mem := by simp
  obj := fun i h st b hb => by
    obtain ⟨⟨old, s1⟩, o, s2, c, d⟩ := st
    rcases List.mem_cons.mp hb with z | z
    · subst z
      exact ⟨_, s1, fun v z => by cases z⟩
    · obtain rfl := List.mem_singleton.mp z
      exact ⟨o, s2, fun v z => by rw [d] at z; cases z⟩
  keep := fun i h h' st k => ⟨let ⟨old, s1⟩ := st.1; ⟨old, k e (by simp) _ s1⟩, st.2.at fun o q => k it (by simp) o q⟩
  item := by
    intro X hP hw hK hc i pins s σ H E I hf st hg
    subst hP hw hK
    obtain ⟨hlt, hq⟩ := hg
    obtain ⟨its, rv, p, hz⟩ := I.list hq
    have hl := rv.length
    have hx : xs[i]? = some (xs[i]'hlt) := by simp
    obtain ⟨u, hu, ru⟩ := rv.get hx
    have f1 := hf e (by simp)
    have f2 := hf it (by simp)
    obtain ⟨⟨old, se⟩, si⟩ := st
    refine wpAny_pyNext_enum_item se si p.isList (x := u) (by simpa using hu) hne fun h1 eo i1 t1 z1 k1 => ⟨_, rfl, ?_⟩
    refine wpAny_letOwnedTupleGo_enum eo fun h2 e2 sb => ?_
    have e2' : h2.get? e = _ := e2
    have elt : e < s.heap.objs.size := Heap.lt_size se
    have ilt : it < s.heap.objs.size := let ⟨o, ho, _⟩ := si; Heap.lt_size ho
    have sb' : Heap.SameBut e h1 h2 := sb
    have t2 : h2.get? s.heap.objs.size = some { cls := .type "tuple", data := .seq #[.int i s.toks, u] } := (sb'.2 _ (Nat.ne_of_gt elt)).trans t1
    have fr : H s.heap.objs.size = none := I.hok.fresh (Nat.le_refl _)
    have I1 := I.laid (a := s.heap.objs.size) (h' := s.heap.push { cls := .type "tuple", data := .seq #[.int i s.toks, u] }) (t' := s.toks + 1) (o := .tup [.int i, xs[i]'hlt]) (fun b o q => Heap.get?_push_of_some _ q) (Nat.le_refl _)
      ⟨by show 2 ≤ sizeLine; decide, [.int i s.toks, u], .cons ⟨s.toks, rfl⟩ (.cons ru .nil), _, Heap.get?_push_size _ rfl, rfl, 0, rfl⟩
    have g : ∀ b, b < s.heap.objs.size → FpOk X pins H b → FpOk X pins (upd H s.heap.objs.size (.tup [.int i, xs[i]'hlt])) b := fun b hb f => ⟨by rw [upd_ne (Nat.ne_of_lt hb)]; exact f.1, f.2⟩
    have I2 := I1.turned2 (h' := h2) (t' := s.toks + 1) (e := e) (it := it) (fun b o b1 b2 q => ?_) (g e elt f1) (g it ilt f2)
    · refine ⟨.ref s.heap.objs.size, _, I2, rfl, ⟨_, _, fr, rfl, hx, rfl⟩, ⟨⟨u, by simpa using e2⟩, ?_⟩, fun b hb => ?_⟩
      · exact i1.at fun o q => (sb'.2 it (Ne.symm hne)).trans q
      · have hb' : b < s.heap.objs.size := by
          rcases List.mem_cons.mp hb with z | z
          · rw [z]; exact elt
          · rw [List.mem_singleton.mp z]; exact ilt
        rw [upd_ne (Nat.ne_of_lt hb')]
        exact (hf b hb).1
    · rcases Heap.get?_push_cases q with ⟨rfl, rfl⟩ | q
      · exact t2
      · exact (sb'.2 b b1).trans (k1 b o b1 b2 q)
  done := by
    intro X hP hw hK hc i pins s σ H E I hf st hg
    subst hP hw hK
    obtain ⟨rfl, hq⟩ := hg
    obtain ⟨its, rv, p, hz⟩ := I.list hq
    have hl := rv.length
    obtain ⟨f0, f1, f2, f3, f4, f5⟩ := hf it (by simp)
    obtain ⟨⟨old, se⟩, si⟩ := st
    exact wpAny_pyNext_enum_end (I.ok.hd hc) se si p.isList (by simp [hl]) fun h' eb => ⟨rfl, I.turned (t' := s.toks) (fun b o hb q => eb b o hb q) f0 f1 f3 f4 f5⟩
  self := fun _ _ _ _ _ st h => by
    obtain ⟨⟨old, se⟩, si⟩ := st
    exact wpAny_pyIter_enum se h
def iEnum (K : PySem.W.Frag) (ta : TA) : TI := fun σ H R => ta σ H fun vs H1 => ∃ a xs, vs = [.ref a] ∧ SqL K H1 a xs ∧ R (Ite K a xs) H1
section
variable {X : Cx} {elts : List Expr} {x1 : Nat} {tpos : Pos}
theorem pi_enum {a : Expr} {ta : TA} {p pos : Pos} (hg : Gl X "enumerate") (hm : X.mg "enumerate" = none) (ha : PA X [a] ta) (hs : starEach [a] X.env = [(false, eval a X.env)] := by rfl) : PI X (.Tuple elts x1 tpos) (.Call (.Name "enumerate" p) [a] [] pos) (iEnum X.K ta) := by
  intro pins s σ H R I h
  refine Call_ (ld_blt I hg hm boot_enumerate (PyProof.Rows.callWith_type1 (thn (ha pos pins s σ H _ I h) fun us s1 ⟨vs, H1, I1, r1, q1⟩ => ?_) hs rfl))
  obtain ⟨b, xs, rfl, hq, q⟩ := q1
  obtain ⟨u, rfl, ru⟩ := r1.one
  cases ru
  obtain ⟨its, rv, pl, hz⟩ := I1.list hq
  refine call_enumerate_list pl.isList fun h' he hi hsz kp => ?_
  refine wpAny_pyIter_enum he ?_
  refine ⟨s1.heap.objs.size + 1, [s1.heap.objs.size + 1, s1.heap.objs.size], _, _, H1, rfl, I1.kept (t' := s1.toks) kp, turn_enum b _ _ xs (Nat.succ_ne_self _), ⟨⟨_, he⟩, hi⟩, fun c hb => ?_, q⟩
  rcases List.mem_cons.mp hb with z | z
  · rw [z]
    exact I1.fpOk (Nat.le_succ _) (I1.hok.fresh (Nat.le_succ _))
  · rw [List.mem_singleton.mp z]
    exact I1.fpOk (Nat.le_refl _) (I1.hok.fresh (Nat.le_refl _))
theorem bpi_enum {a : Expr} {ta : TA} {p pos : Pos} (hg : Gl X "enumerate") (hm : X.mg "enumerate" = none) (ha : Bx (PA X [a] ta)) (hs : starEach [a] X.env = [(false, eval a X.env)] := by rfl) : Bx (PI X (.Tuple elts x1 tpos) (.Call (.Name "enumerate" p) [a] [] pos) (iEnum X.K ta)) := ⟨pi_enum hg hm ha.un hs⟩
end
theorem for_enum {K : PySem.W.Frag} {a : Addr} {xs : List V} {g : TG} {tb : TS} {D : Ends} {σ : St} {H : Hp} (Pv : Nat → St → Hp → Prop) (h0 : Pv 0 σ H) (hl : ∀ i σ H, i ≤ xs.length → Pv i σ H → SqL K H a xs)
    (hs : ∀ (i : Nat) y p σ H, xs[i]? = some y → H p = none → Pv i σ H → g (.ref p) σ (upd H p (.tup [.int i, y])) fun σ2 H2 => tb { D with nx := Pv (i + 1), ct := Pv (i + 1), bk := D.nx } σ2 H2) (hd : ∀ σ H, Pv xs.length σ H → D.nx σ H) :
    ∃ W : Nat → Nat → St → Hp → Prop, (∃ m, W 0 m σ H) ∧ ∀ i m σ H, W i m σ H →
      ((Ite K a xs).stop i H ∧ D.nx σ H) ∨ ((Ite K a xs).go i H ∧ ∃ N : St → Hp → Prop, (∀ σ' H', N σ' H' → ∃ m', m' < m ∧ W (i + 1) m' σ' H') ∧ ∀ x H', (Ite K a xs).yld i H x H' → g x σ H' fun σ2 H2 => tb { D with nx := N, ct := N, bk := D.nx } σ2 H2) := by
  refine ⟨fun i m σ H => m = xs.length - i ∧ i ≤ xs.length ∧ Pv i σ H, ⟨xs.length, by simp, Nat.zero_le _, h0⟩, ?_⟩
  rintro i m σ H ⟨rfl, hi, p⟩
  have q := hl i σ H hi p
  by_cases hlt : i < xs.length
  · refine .inr ⟨⟨hlt, q⟩, Pv (i + 1), fun σ' H' p' => ⟨xs.length - (i + 1), by omega, rfl, hlt, p'⟩, ?_⟩
    rintro x H' ⟨b, y, hb, rfl, hy, rfl⟩
    exact hs i y b σ H hy hb p
  · have e : i = xs.length := by omega
    subst e
    exact .inl ⟨⟨rfl, q⟩, hd σ H p⟩
def tListI (to : TE) : TE := fun σ H Q => to σ H fun x H1 => ∃ (d : Addr) (m : List (Nm × Int)), x = .ref d ∧ Rd H1 d (.dK (kvNums m)) ∧
  ∀ (l : Addr) (as : List Addr) (H2 : Hp), H1 l = none → as.length = m.length → Same H1 H2 → H2 l = some (.lst (as.map V.ref)) → (∀ a ∈ as, H1 a = none ∧ a ≠ l) →
    (∀ (i : Nat) (a : Addr) (y : Nm × Int), as[i]? = some a → m[i]? = some y → H2 a = some (.tup [.str (tx y.1), .int y.2])) → Q (.ref l) H2
section
variable {X : Cx}
theorem pe_listI {o : Expr} {to : TE} {p apos cpos pos : Pos} (hc : X.calm = true) (hg : Gl X "list") (hm : X.mg "list" = none) (ho : PE X o to)
    (hbase : attributeBase o "items" X.env (eval o X.env) = eval o X.env := by rfl) (hline : (apos.endLine == cpos.line) = true := by rfl)
    (he : starEach [.Call (.Attribute o "items" apos) [] [] cpos] X.env = [(false, eval (.Call (.Attribute o "items" apos) [] [] cpos) X.env)] := by rfl) :
    PE X (.Call (.Name "list" p) [.Call (.Attribute o "items" apos) [] [] cpos] [] pos) (tListI to) := by
  intro pins s σ H Q I h
  refine Call_ (ld_blt I hg hm boot_list (PyProof.Rows.callWith_type1 ?_ he rfl))
  rw [he]
  refine Calls.spliced_cons (wpAny_Call_method0_late hbase hline (thn (ho pins s σ H _ I h) fun v s1 ⟨x, H1, I1, r1, d, m, ex, hd, q⟩ => ?_))
  subst ex
  obtain rfl : v = Value.ref d := r1
  obtain ⟨hz, hsm, vs, rel, dd⟩ := dk_rd I1.hok hd
  refine ⟨"dict", "dict.items", PySem.F.plainAttrs_dict, PySem.F.slot_dict_items, PySem.F.type_dict_items, (isD_at I1 (.inl ⟨_, hd⟩)).1, (isD_at I1 (.inl ⟨_, hd⟩)).2.1, Calls.callWith_builtin rfl (PySem.evalArgs_none ?_)⟩
  refine call_meetsIn PySem.F.slot_dict_items dd.typeIs PySem.F.entry_dict_items (PySem.F.args_dict_items_1 _) (meets_dict_items (mixKind X.prog X.w) d hsm) ⟨⟨vs, dd⟩, Calls.spliced_nil ?_⟩
  have kp1 : ∀ b u, s1.heap.get? b = some u → (s1.heap.push { cls := .type "dict_items", data := .fields #[.ref d] }).get? b = some u := fun b u e => Heap.get?_push_of_some _ e
  have hv : (s1.heap.push { cls := .type "dict_items", data := .fields #[.ref d] }).IsItemsView s1.heap.objs.size d := ⟨_, Heap.get?_push_size _ rfl, rfl, rfl⟩
  have I2 := I1.kept (t' := s1.toks) kp1
  obtain ⟨_, _, vs2, rel2, dd2⟩ := dk_rd I2.hok hd
  obtain ⟨ep, da⟩ := dd2.dictAt
  have hl : (kvNums m).length = vs2.length := rel2.length
  have hlm : (kvNums m).length = m.length := by
    unfold kvNums
    rw [List.length_map]
  refine PySem.W.kdx_call (knd := mixKind X.prog X.w) (I.ok.hd hc) hv da (by omega) fun h' tk acc c as kp gl hlas hG hacc => ?_
  have las : as.length = m.length := by omega
  have asnd : as.Nodup := hG.rise.imp fun h => Nat.ne_of_lt h
  generalize hn : (s1.heap.push { cls := .type "dict_items", data := .fields #[.ref d] }) = hB at *
  have hp : ∀ (i : Nat) (a : Addr) (y : Nm × Int), as[i]? = some a → m[i]? = some y → ∃ t u, h'.get? a = some (pairObj y t u) := by
    intro i a y ha hy
    obtain ⟨key, kk, x, e1, e2, e3⟩ := hG.pairs i a ha
    obtain ⟨e4, rv⟩ := kv_at rel2 (i := i) (p := (.inr (tx y.1), .int y.2)) (by unfold kvNums; rw [List.getElem?_map, hy]; rfl) e1
    dsimp only at e4 rv
    rw [← e4] at e2
    obtain ⟨t, rfl⟩ := key_rel e2
    obtain ⟨u, rfl⟩ := rv
    exact ⟨t, u, e3⟩
  have frl : H1 hB.objs.size = none := I2.hok.fresh (Nat.le_refl _)
  have fra : ∀ a ∈ as, H1 a = none ∧ a ≠ hB.objs.size := fun a ha => ⟨I2.hok.fresh (Nat.le_of_lt (hG.above a ha)), Nat.ne_of_gt (hG.above a ha)⟩
  have ext : ∀ b, b < hB.objs.size → upd (layT H1 as m) hB.objs.size (.lst (as.map V.ref)) b = H1 b := fun b hb => by
    rw [upd_ne (Nat.ne_of_lt hb), layT_off as m fun z => Nat.lt_asymm hb (hG.above b z)]
  have vals : ∀ l : List Addr, Vals (l.map V.ref) (l.map Value.ref) := by
    intro l
    induction l with
    | nil => exact .nil
    | cons i l ih => exact .cons rfl ih
  have I4 := I2.lays (t' := tk) (H' := upd (layT H1 as m) hB.objs.size (.lst (as.map V.ref))) kp ext fun a o e hsz => ?_
  · refine ⟨.ref hB.objs.size, _, I4, rfl, q _ as _ frl las (fun b o e => ?_) upd_same fra fun i a y ha hy => ?_⟩
    · rw [upd_ne (ne_of_none e frl), layT_off as m fun z => by rw [(fra b z).1] at e; cases e]
      exact e
    · rw [upd_ne (fra a (List.mem_of_getElem? ha)).2]
      exact layT_at as m i a y asnd ha hy
  · by_cases ha : a = hB.objs.size
    · subst ha
      rw [upd_same] at e
      cases e
      refine ⟨by rw [List.length_map, las, ← hlm]; exact hz, acc.toList, c, by rw [hacc]; exact vals as, gl⟩
    · rw [upd_ne ha] at e
      by_cases hm : a ∈ as
      · obtain ⟨i, y, hi, hy, rfl⟩ := layT_some as m las asnd hm e
        obtain ⟨t, u, ho⟩ := hp i a y hi hy
        exact ⟨by show 2 ≤ sizeLine; decide, [.str (tx y.1) t, .int y.2 u], .cons ⟨t, rfl⟩ (.cons ⟨u, rfl⟩ .nil), pairObj y t u, ho, rfl, 0, rfl⟩
      · rw [layT_off as m hm, I2.hok.fresh hsz] at e
        cases e
theorem bpe_listI {o : Expr} {to : TE} {p apos cpos pos : Pos} (hc : X.calm = true) (hg : Gl X "list") (hm : X.mg "list" = none) (ho : Bx (PE X o to))
    (hbase : attributeBase o (Str.ofString "items") X.env (eval o X.env) = eval o X.env := by rfl) (hline : (apos.endLine == cpos.line) = true := by rfl)
    (he : starEach [.Call (.Attribute o (Str.ofString "items") apos) [] [] cpos] X.env = [(false, eval (.Call (.Attribute o (Str.ofString "items") apos) [] [] cpos) X.env)] := by rfl) :
    Bx (PE X (.Call (.Name (Str.ofString "list") p) [.Call (.Attribute o (Str.ofString "items") apos) [] [] cpos] [] pos) (tListI to)) := ⟨pe_listI hc hg hm ho.un hbase hline he⟩
end
def tDispT (tk tv : TE) : TE := fun σ H Q => ∀ p, H p = none → tk σ (upd H p (.dT [])) fun y H1 => tv σ H1 fun z H2 => H2 p = some (.dT []) ∧ ∃ b k, y = .ref b ∧ H2 b = some (.tup (k.map kV)) ∧ Q (.ref p) (upd H2 p (.dT (putK [] k z)))
section
variable {X : Cx}
theorem pe_dispT {pos : Pos} {k v : Expr} {tk tv : TE} (hu : X.A.units + 1 < cLine) (hk : PE X k tk) (hv : PE X v tv) : PE X (.Dict [some k] [v] pos) (tDispT tk tv) := by
  intro pins s σ H Q I q
  have hn := I.hok.fresh (Nat.le_refl s.heap.objs.size)
  have I1 := I.laid (a := s.heap.objs.size) (o := .dT []) (h' := s.heap.push { cls := .type "dict", data := .dict #[] }) (t' := s.toks) (fun _ _ q => Heap.get?_push_of_some _ q) (Nat.le_refl _) (dt_empty s.heap I.big)
  refine wpAny_Dict_any rfl rfl (by simp) (by simp) (pairTrees_cons_walk (thn (hk pins _ σ _ _ I1 (q _ hn)) fun kv s1 ⟨y, H1, I2, ry, q1⟩ => thn (hv pins s1 σ H1 _ I2 q1) fun vv s2 ⟨z, H2, I3, rz, e, b, ks, ey, eb, q2⟩ => pairTrees_nil_walk ?_))
  subst ey
  cases (show kv = Value.ref b from ry)
  unfold storeAll
  rw [List.forIn_cons]
  obtain ⟨hz, hd, xs, rel, dd⟩ := dt_of I3.hok e
  have hx : xs.length ≤ sizeLine := by rw [← Paired.length rel]; exact hz
  refine wpAny_bind (wpAny_bind (wpAny_dictSet_heap (hsz := hx) (knd := tupleKind (mixKind X.prog X.w)) (by show X.A.units < cLine; omega) (key_of I3.hok eb) dd fun h' dd' hs => wpAny_pure ?_))
  show wpAny _ _ (forIn [] PUnit.unit _) _ _ _
  rw [List.forIn_nil]
  refine wpAny_pure ?_
  obtain ⟨o, es, ep, hq, h2, h3, h4, _, h5⟩ := dd'
  refine ⟨.ref s.heap.objs.size, _, d_write (ob := .dT (putK [] ks z)) I3 (by rw [e]; exact True.intro) hs ⟨o, hq⟩ ⟨?_, hd, _, (rel.put ks eb rz).keeps fun c ys ec => ?_, o, es, ep, hq, h2, h3, h4, h5⟩, rfl, q2⟩
  · show 1 ≤ sizeLine
    decide
  · rw [upd_ne (ne_of ec e (fun z => nomatch z))]
    exact ec
theorem bpe_dispT {pos : Pos} {k v : Expr} {tk tv : TE} (hu : X.A.units + 1 < cLine) (hk : Bx (PE X k tk)) (hv : Bx (PE X v tv)) : Bx (PE X (.Dict [some k] [v] pos) (tDispT tk tv)) := ⟨pe_dispT hu hk.un hv.un⟩
end
end L2
set_option Elab.async false
set_option linter.all false
set_option maxRecDepth 100000
namespace L2
open PySem PySem.Spec PyProof.Rows
def goneF (t : Tie) (b : Bool) : Nm := if b = true then t.stop else t.start
def goneT (t : Tie) (b : Bool) : Nm := if b = true then t.start else t.stop
structure MvK (H0 H : Hp) (d : Addr) (n m : Nat) (good : Nm → Int → Nm → Prop) (kvs : List (Key × V)) : Prop where
  at_ : H d = some (.dK kvs)
  len : kvs.length ≤ n
  nd : (kvs.map (·.2)).Nodup
  row : ∀ p ∈ kvs, ∃ k l ys, p = (.inr (tx k), .ref l) ∧ H0 l = none ∧ H l = some (.lst ys) ∧ ys.length ≤ m ∧ ∀ y ∈ ys, ∃ b num to, y = .ref b ∧ H b = some (.tup [.int num, .str (tx to)]) ∧ good k num to
section
variable {H0 H H' : Hp} {d : Addr} {n m n' m' : Nat} {good : Nm → Int → Nm → Prop} {kvs : List (Key × V)}
theorem MvK.same (g : MvK H0 H d n m good kvs) (s : Same H H') : MvK H0 H' d n m good kvs :=
  ⟨s _ _ g.at_, g.len, g.nd, fun p hp => let ⟨k, l, ys, e, f, h, z, r⟩ := g.row p hp; ⟨k, l, ys, e, f, s _ _ h, z, fun y hy => let ⟨b, num, to, e1, e2, e3⟩ := r y hy; ⟨b, num, to, e1, s _ _ e2, e3⟩⟩⟩
theorem MvK.weak (g : MvK H0 H d n m good kvs) (hn : n ≤ n') (hm : m ≤ m') : MvK H0 H d n' m' good kvs :=
  ⟨g.at_, Nat.le_trans g.len hn, g.nd, fun p hp => let ⟨k, l, ys, e, f, h, z, r⟩ := g.row p hp; ⟨k, l, ys, e, f, h, Nat.le_trans z hm, r⟩⟩
theorem valV_mem {κ : Type} [DecidableEq κ] {k : κ} {v : V} : ∀ {kvs : List (κ × V)}, valV kvs k = some v → (k, v) ∈ kvs
  | [], h => by rw [valV_nil] at h; cases h
  | p :: r, h => by
    by_cases e : p.1 = k
    · rw [valV_pos e] at h
      cases h
      rw [← e]
      exact List.mem_cons_self
    · rw [valV_neg e] at h
      exact List.mem_cons_of_mem _ (valV_mem h)
theorem nd_inj {α β : Type} {f : α → β} : ∀ {l : List α}, (l.map f).Nodup → ∀ {x y : α}, x ∈ l → y ∈ l → f x = f y → x = y
  | [], _, _, _, h, _, _ => nomatch h
  | a :: l, hn, x, y, hx, hy, e => by
    rw [List.map_cons] at hn
    obtain ⟨h1, h2⟩ := List.nodup_cons.mp hn
    rcases List.mem_cons.mp hx with ex | hx
    · rcases List.mem_cons.mp hy with ey | hy
      · rw [ex, ey]
      · rw [ex] at e
        exact absurd (List.mem_map.mpr ⟨y, hy, e.symm⟩) h1
    · rcases List.mem_cons.mp hy with ey | hy
      · rw [ey] at e
        exact absurd (List.mem_map.mpr ⟨x, hx, e⟩) h1
      · exact nd_inj h2 hx hy e
theorem MvK.there {k : Nm} {v : V} (g : MvK H0 H d n m good kvs) (hv : valV kvs (.inr (tx k)) = some v) : ∃ l ys, v = .ref l ∧ H0 l = none ∧ H l = some (.lst ys) ∧ ys.length ≤ m ∧ ∀ y ∈ ys, ∃ b num to, y = .ref b ∧ H b = some (.tup [.int num, .str (tx to)]) ∧ good k num to := by
  obtain ⟨k', l, ys, e, f, h, z, r⟩ := g.row _ (valV_mem hv)
  injection e with e1 e2
  injection e1 with e1
  cases tx_inj.mp e1
  exact ⟨l, ys, e2, f, h, z, r⟩
theorem MvK.grow {k : Nm} {num : Int} {to : Nm} {b l : Addr} {ys : List V} (g : MvK H0 H d n m good kvs) (hv : valV kvs (.inr (tx k)) = some (.ref l)) (hl : H l = some (.lst ys)) (hb : H b = some (.tup [.int num, .str (tx to)])) (ok : good k num to) :
    MvK H0 (upd H l (.lst (ys ++ [.ref b]))) d n (m + 1) good kvs := by
  have ntup : ∀ c (xs : List V), H c = some (.tup xs) → upd H l (.lst (ys ++ [.ref b])) c = some (.tup xs) := fun c xs e => by
    rw [upd_ne (ne_of e hl (fun z => nomatch z))]
    exact e
  refine ⟨by rw [upd_ne (ne_of g.at_ hl (fun z => nomatch z))]; exact g.at_, g.len, g.nd, fun p hp => ?_⟩
  obtain ⟨k', l', ys', e, f, h, z, r⟩ := g.row p hp
  by_cases hll : l' = l
  · subst hll
    have ep : p = (.inr (tx k), .ref l') := nd_inj g.nd hp (valV_mem hv) (by rw [e])
    rw [e] at ep
    injection ep with e1 _
    injection e1 with e1
    cases tx_inj.mp e1
    rw [hl] at h
    cases h
    refine ⟨_, l', _, e, f, upd_same, by rw [List.length_append]; exact Nat.succ_le_succ z, fun y hy => ?_⟩
    rcases List.mem_append.mp hy with hy | hy
    · obtain ⟨c, nm, t, e1, e2, e3⟩ := r y hy
      exact ⟨c, nm, t, e1, ntup _ _ e2, e3⟩
    · exact ⟨b, num, to, List.mem_singleton.mp hy, ntup _ _ hb, ok⟩
  · refine ⟨k', l', ys', e, f, by rw [upd_ne hll]; exact h, Nat.le_succ_of_le z, fun y hy => ?_⟩
    obtain ⟨c, nm, t, e1, e2, e3⟩ := r y hy
    exact ⟨c, nm, t, e1, ntup _ _ e2, e3⟩
theorem MvK.put {k : Nm} {l : Addr} (g : MvK H0 H d n m good kvs) (hv : valV kvs (.inr (tx k)) = none) (f : H0 l = none) (hl : H l = some (.lst [])) (new : ∀ p ∈ kvs, p.2 ≠ .ref l) :
    MvK H0 (upd H d (.dK (putK kvs (.inr (tx k)) (.ref l)))) d (n + 1) m good (putK kvs (.inr (tx k)) (.ref l)) := by
  have keep : ∀ c (o : HO), (∀ z, o ≠ .dK z) → H c = some o → upd H d (.dK (putK kvs (.inr (tx k)) (.ref l))) c = some o := fun c o no e => by
    rw [upd_ne (ne_of e g.at_ (no _))]
    exact e
  rw [putK_new _ hv] at keep ⊢
  refine ⟨upd_same, by rw [List.length_append]; exact Nat.succ_le_succ g.len, ?_, fun p hp => ?_⟩
  · rw [List.map_append, List.nodup_append]
    refine ⟨g.nd, by simp, fun a ha b hb z => ?_⟩
    obtain ⟨p, hp, rfl⟩ := List.mem_map.mp ha
    have : b = .ref l := by simpa using hb
    exact new p hp (z.trans this)
  · rcases List.mem_append.mp hp with hp | hp
    · obtain ⟨k', l', ys', e, f', h, z, r⟩ := g.row p hp
      refine ⟨k', l', ys', e, f', keep _ _ (fun z => nofun) h, z, fun y hy => ?_⟩
      obtain ⟨c, nm, t, e1, e2, e3⟩ := r y hy
      exact ⟨c, nm, t, e1, keep _ _ (fun z => nofun) e2, e3⟩
    · exact ⟨k, l, [], List.mem_singleton.mp hp, f, keep _ _ (fun z => nofun) hl, Nat.zero_le _, fun y hy => nomatch hy⟩
end
end L2
set_option Elab.async false
set_option linter.all false
set_option maxRecDepth 100000
namespace L2
open PySem PySem.Spec PyProof.Rows
structure En where
  th : Nm
  rm : Int
  far : Int
  num : Int
  bef : Int
  deriving DecidableEq
def enV (e : En) : List V := [.str (tx e.th), .int e.rm, .int e.far, .int e.num, .int e.bef]
def EntsAt (H : Hp) (a : Addr) (es : List En) : Prop := ∃ as : List Addr, H a = some (.lst (as.map V.ref)) ∧ All2 (fun x e => H x = some (.tup (enV e))) as es
theorem EntsAt.same {H H' : Hp} {a : Addr} {es : List En} (h : EntsAt H a es) (s : Same H H') : EntsAt H' a es := by
  obtain ⟨as, e, al⟩ := h
  exact ⟨as, s _ _ e, al.imp fun _ _ r => s _ _ r⟩
theorem EntsAt.keep {H H' : Hp} {a : Addr} {es : List En} (h : EntsAt H a es) (k1 : ∀ xs, H a = some (.lst xs) → H' a = some (.lst xs)) (k2 : ∀ b xs, H b = some (.tup xs) → H' b = some (.tup xs)) : EntsAt H' a es := by
  obtain ⟨as, e, al⟩ := h
  exact ⟨as, k1 _ e, al.imp fun _ _ r => k2 _ _ r⟩
theorem ents_push {H : Hp} {q p : Addr} {as : List Addr} {es : List En} {e : En} (hq : H q = some (.lst (as.map V.ref))) (al : All2 (fun x e => H x = some (.tup (enV e))) as es) (hp : H p = some (.tup (enV e))) :
    EntsAt (upd H q (.lst (as.map V.ref ++ [.ref p]))) q (es ++ [e]) := by
  have ne : ∀ x (xs : List V), H x = some (.tup xs) → upd H q (.lst (as.map V.ref ++ [.ref p])) x = some (.tup xs) := fun x xs h => by
    rw [upd_ne (ne_of h hq (fun z => nomatch z))]
    exact h
  refine ⟨as ++ [p], by rw [upd_same, List.map_append]; rfl, All2.snoc (R := fun x e => upd H q (.lst (as.map V.ref ++ [.ref p])) x = some (.tup (enV e))) (ne _ _ hp) (al.imp fun _ _ r => ne _ _ r)⟩
theorem EntsAt.get {H : Hp} {a : Addr} {es : List En} {i : Nat} {e : En} (h : EntsAt H a es) (he : es[i]? = some e) : ∃ (xs : List V) (b : Addr), H a = some (.lst xs) ∧ xs.length = es.length ∧ xs[i]? = some (.ref b) ∧ H b = some (.tup (enV e)) := by
  obtain ⟨as, ha, al⟩ := h
  obtain ⟨b, hb, r⟩ := al.at he
  exact ⟨_, b, ha, by rw [List.length_map, al.len], by rw [List.getElem?_map, hb]; rfl, r⟩
def stOf (e : En) : Nm × Int := (e.th, e.rm)
def keyE (s : Nm × Int) : List Key := [.inr (tx s.1), .inl s.2]
theorem keyE_inj {s r : Nm × Int} (h : keyE s = keyE r) : s = r := by
  unfold keyE at h
  injection h with h1 h2
  injection h2 with h2 _
  injection h1 with h1
  injection h2 with h2
  exact Prod.ext (tx_inj.mp h1) h2
def seenK (es : List En) : List (List Key × V) := es.map fun e => (keyE (stOf e), .bl true)
theorem seen_some (es : List En) (s : Nm × Int) : (valV (seenK es) (keyE s)).isSome = decide (s ∈ es.map stOf) := by
  rw [← valV_any]
  unfold seenK
  rw [List.any_map, Bool.eq_iff_iff, List.any_eq_true, decide_eq_true_eq, List.mem_map]
  constructor
  · rintro ⟨e, he, h⟩
    exact ⟨e, he, keyE_inj (of_decide_eq_true h)⟩
  · rintro ⟨e, he, rfl⟩
    exact ⟨e, he, decide_eq_true rfl⟩
theorem seen_put {es : List En} {e : En} (h : stOf e ∉ es.map stOf) : putK (seenK es) (keyE (stOf e)) (.bl true) = seenK (es ++ [e]) := by
  have : valV (seenK es) (keyE (stOf e)) = none := by
    have h1 := seen_some es (stOf e)
    rw [decide_eq_false h] at h1
    cases q : valV (seenK es) (keyE (stOf e)) with
    | none => rfl
    | some v => rw [q] at h1; cases h1
  rw [putK_new _ this]
  unfold seenK
  rw [List.map_append]
  rfl
structure BookOk (mks : List Mrk) (good : Bool → Nm → Int → Nm → Prop) (st : Nm) (es : List En) : Prop where
  fst : es[0]? = some ⟨st, 0, 0, -1, -1⟩
  nxt : ∀ k e, es[k + 1]? = some e → ∃ (j : Nat) (f : En) (mk : Mrk), j ≤ k ∧ e.bef = (j : Int) ∧ es[j]? = some f ∧ e.far = f.far + 1 ∧ 1 ≤ e.rm ∧ mks[(e.rm - 1).toNat]? = some mk ∧ good mk.back f.th e.num e.th
theorem BookOk.rm {mks : List Mrk} {good : Bool → Nm → Int → Nm → Prop} {st : Nm} {es : List En} {k : Nat} {e : En} (b : BookOk mks good st es) (h : es[k]? = some e) : 0 ≤ e.rm ∧ e.rm ≤ mks.length := by
  cases k with
  | zero =>
    rw [b.fst] at h
    cases h
    exact ⟨Int.le_refl _, Int.natCast_nonneg _⟩
  | succ k =>
    obtain ⟨j, f, mk, _, _, _, _, h1, h2, _⟩ := b.nxt k e h
    have := (List.getElem?_eq_some_iff.mp h2).1
    omega
theorem BookOk.one {mks : List Mrk} {good : Bool → Nm → Int → Nm → Prop} {st : Nm} : BookOk mks good st [⟨st, 0, 0, -1, -1⟩] := ⟨rfl, fun k e h => by simp at h⟩
theorem BookOk.push {mks : List Mrk} {good : Bool → Nm → Int → Nm → Prop} {st : Nm} {es : List En} {e f : En} {j : Nat} {mk : Mrk} (b : BookOk mks good st es) (hb : e.bef = (j : Int)) (hj : es[j]? = some f) (hf : e.far = f.far + 1) (h1 : 1 ≤ e.rm) (hm : mks[(e.rm - 1).toNat]? = some mk) (hg : good mk.back f.th e.num e.th) :
    BookOk mks good st (es ++ [e]) := by
  have jl := (List.getElem?_eq_some_iff.mp hj).1
  refine ⟨by rw [List.getElem?_append_left (by omega)]; exact b.fst, fun k x hx => ?_⟩
  by_cases hk : k + 1 < es.length
  · rw [List.getElem?_append_left hk] at hx
    obtain ⟨j', f', mk', g1, g2, g3, g4⟩ := b.nxt k x hx
    exact ⟨j', f', mk', g1, g2, by rw [List.getElem?_append_left (by omega)]; exact g3, g4⟩
  · rw [List.getElem?_append_right (by omega)] at hx
    have z : k + 1 - es.length = 0 := by
      have := (List.getElem?_eq_some_iff.mp hx).1
      simp at this
      omega
    rw [z] at hx
    cases hx
    exact ⟨j, f, mk, by omega, hb, by rw [List.getElem?_append_left jl]; exact hj, hf, h1, hm, hg⟩
theorem states_few {es : List En} {ts : List Nm} {n : Nat} (nd : (es.map stOf).Nodup) (hs : ∀ e ∈ es, e.th ∈ ts ∧ 0 ≤ e.rm ∧ e.rm ≤ n) : es.length ≤ ts.length * (n + 1) := by
  have := nd_len (es.map stOf) (ts.flatMap fun t => (List.range (n + 1)).map fun (r : Nat) => (t, (r : Int))) nd fun x hx => by
    obtain ⟨e, he, rfl⟩ := List.mem_map.mp hx
    obtain ⟨h1, h2, h3⟩ := hs e he
    refine List.mem_flatMap.mpr ⟨e.th, h1, List.mem_map.mpr ⟨e.rm.toNat, List.mem_range.mpr (by omega), ?_⟩⟩
    unfold stOf
    rw [Int.toNat_of_nonneg h2]
  rw [List.length_map, List.length_flatMap] at this
  simp only [List.length_map, List.length_range] at this
  have sm : ∀ l : List Nm, (l.map fun _ => n + 1).sum = l.length * (n + 1) := by
    intro l
    induction l with
    | nil => simp
    | cons a l ih => rw [List.map_cons, List.sum_cons, ih, List.length_cons, Nat.succ_mul]; omega
  rw [sm] at this
  exact this
theorem comp_D {α : Type} {J : It} {H1 : Hp} {fr : List Nat} {σ : St} {te : TE} {Q : VK} {cs : List α} {g : α → V} (T : Tells J H1 (cs.map g)) (R : Addr → Hp → α → V → Prop) (mono : ∀ D c v H H', Same H H' → R D H c v → R D H' c v) (hz : cs.length ≤ sizeLine)
    (he : ∀ D c H2 ys Q2, c ∈ cs → Same H1 H2 → H2 D = some (.lst ys) → (∀ v H3, Same H2 H3 → R D H3 c v → Q2 v H3) → te (stB1 (g c) fr σ) H2 Q2)
    (off : ∀ H c v D ys zs, H D = some (.lst ys) → R D H c v → R D (upd H D (.lst zs)) c v)
    (hQ : ∀ D H2 ys, H1 D = none → Same H1 H2 → H2 D = some (.lst ys) → All2 (R D H2) cs ys → Q (.ref D) H2) : CompR J H1 fr σ tYes te Q := by
  intro D hD
  have hlen : (cs.map g).length = cs.length := List.length_map ..
  refine ⟨fun i m ys H2 => m = cs.length - i ∧ i ≤ cs.length ∧ All2 (R D H2) (cs.take i) ys ∧ Same H1 H2 ∧ H2 D = some (.lst ys), ⟨_, rfl, Nat.zero_le _, .nil, Same.new hD, upd_same⟩, ?_⟩
  rintro i m ys H2 ⟨rfl, hi, a2, s2, d2⟩
  by_cases hlt : i < cs.length
  · refine .inr ⟨T.go i H2 (by rw [hlen]; exact hlt) s2, fun x H3 y => ?_⟩
    obtain ⟨rfl, hx⟩ := T.yld i H2 x H3 s2 (by rw [hlen]; exact hlt) y
    rw [List.getElem?_map] at hx
    cases hc : cs[i]? with
    | none => rw [hc] at hx; cases hx
    | some c =>
      rw [hc] at hx
      obtain rfl : g c = x := Option.some.inj hx
      have hm : c ∈ cs := List.mem_of_getElem? hc
      unfold tYes
      dsimp only
      rw [if_pos rfl]
      refine he D c H3 _ _ hm s2 d2 fun v H5 s5 r5 => ⟨s5 _ _ d2, ?_, _, ?_, rfl, hlt, ?_, (s2.trans s5).upd_new hD, upd_same⟩
      · have := a2.len
        rw [List.length_take] at this
        omega
      · omega
      · rw [take_get hc]
        exact All2.snoc (R := R D _) (off _ _ _ _ _ _ (s5 _ _ d2) r5) ((a2.imp fun a b r => mono D a b _ _ s5 r).imp fun a b r => off _ _ _ _ _ _ (s5 _ _ d2) r)
  · obtain rfl : i = cs.length := by omega
    exact .inl ⟨by have := T.stop H2 s2; rw [hlen] at this; exact this, hQ D H2 ys hD s2 d2 (by rw [List.take_length] at a2; exact a2)⟩
theorem MvK.off {Hb H : Hp} {d D : Addr} {n m : Nat} {good : Nm → Int → Nm → Prop} {kvs : List (Key × V)} {ys zs : List V} (g : MvK Hb H d n m good kvs) (hD : H D = some (.lst ys)) (hb : Hb D ≠ none) : MvK Hb (upd H D (.lst zs)) d n m good kvs := by
  refine ⟨by rw [upd_ne (ne_of g.at_ hD (fun z => nomatch z))]; exact g.at_, g.len, g.nd, fun p hp => ?_⟩
  obtain ⟨k, l, us, e, f, h, z, r⟩ := g.row p hp
  refine ⟨k, l, us, e, f, by rw [upd_ne (fun q => hb (by rw [← q]; exact f))]; exact h, z, fun y hy => ?_⟩
  obtain ⟨b, num, to, e1, e2, e3⟩ := r y hy
  exact ⟨b, num, to, e1, by rw [upd_ne (ne_of e2 hD (fun z => nomatch z))]; exact e2, e3⟩
structure BkAt (B H : Hp) (qe qs : Addr) (mks : List Mrk) (good : Bool → Nm → Int → Nm → Prop) (st : Nm) (ts : List Nm) (es : List En) : Prop where
  old : Same B H
  ents : EntsAt H qe es
  seen : H qs = some (.dT (seenK es))
  ok : BookOk mks good st es
  nd : (es.map stOf).Nodup
  th : ∀ e ∈ es, e.th ∈ ts
section
variable {B H H' : Hp} {qe qs : Addr} {mks : List Mrk} {good : Bool → Nm → Int → Nm → Prop} {st : Nm} {ts : List Nm} {es : List En}
theorem BkAt.same (h : BkAt B H qe qs mks good st ts es) (s : Same H H') : BkAt B H' qe qs mks good st ts es := ⟨h.old.trans s, h.ents.same s, s _ _ h.seen, h.ok, h.nd, h.th⟩
theorem BkAt.few (h : BkAt B H qe qs mks good st ts es) (lt : ts.length ≤ 100) (lm : mks.length ≤ 24) : es.length ≤ 2500 := by
  have h1 := states_few h.nd fun e he => by
    obtain ⟨k, hk⟩ := List.mem_iff_getElem?.mp he
    exact ⟨h.th e he, h.ok.rm hk⟩
  have h2 : ts.length * (mks.length + 1) ≤ 100 * 25 := Nat.mul_le_mul lt (by omega)
  omega
theorem BkAt.put {e f : En} {j : Nat} {mk : Mrk} (h : BkAt B H qe qs mks good st ts es) (new : stOf e ∉ es.map stOf) (fe : B qe = none) (fs : B qs = none) (hb : e.bef = (j : Int)) (hj : es[j]? = some f) (hf : e.far = f.far + 1) (h1 : 1 ≤ e.rm) (hm : mks[(e.rm - 1).toNat]? = some mk) (hg : good mk.back f.th e.num e.th) (hth : e.th ∈ ts)
    {b : Addr} (hnb : upd H qs (.dT (putK (seenK es) (keyE (stOf e)) (.bl true))) b = none) :
    ∃ xs, upd (upd H qs (.dT (putK (seenK es) (keyE (stOf e)) (.bl true)))) b (.tup (enV e)) qe = some (.lst xs) ∧ xs.length = es.length ∧
      BkAt B (upd (upd (upd H qs (.dT (putK (seenK es) (keyE (stOf e)) (.bl true)))) b (.tup (enV e))) qe (.lst (xs ++ [.ref b]))) qe qs mks good st ts (es ++ [e]) := by
  rw [seen_put new] at hnb ⊢
  obtain ⟨as, ha, al⟩ := h.ents
  have qn : qe ≠ qs := ne_of ha h.seen (fun z => nomatch z)
  have k1 : ∀ c (o : HO), (∀ z, o ≠ .dT z) → H c = some o → upd (upd H qs (.dT (seenK (es ++ [e])))) b (.tup (enV e)) c = some o := fun c o no hc => by
    have c1 : upd H qs (.dT (seenK (es ++ [e]))) c = some o := by
      rw [upd_ne (ne_of hc h.seen (no _))]
      exact hc
    rw [upd_ne (ne_of_none c1 hnb)]
    exact c1
  have ha2 := k1 qe _ (fun z q => by cases q) ha
  have al2 : All2 (fun x e' => upd (upd H qs (.dT (seenK (es ++ [e])))) b (.tup (enV e)) x = some (.tup (enV e'))) as es := al.imp fun x e' r => k1 x _ (fun z q => by cases q) r
  have sb : qs ≠ b := fun z => by rw [← z, upd_same] at hnb; cases hnb
  refine ⟨_, ha2, by rw [List.length_map, al.len], ((h.old.upd_new fs).trans (Same.new hnb)).upd_new fe, ents_push ha2 al2 upd_same, ?_, h.ok.push hb hj hf h1 hm hg, ?_, fun x hx => ?_⟩
  · rw [upd_ne (Ne.symm qn), upd_ne sb, upd_same]
  · rw [List.map_append, List.nodup_append]
    refine ⟨h.nd, by simp, fun a ha b hb z => new ?_⟩
    have : b = stOf e := by simpa using hb
    rw [← this, ← z]
    exact ha
  · rcases List.mem_append.mp hx with hx | hx
    · exact h.th x hx
    · rw [List.mem_singleton.mp hx]
      exact hth
end
def plOf (σ : St) : Nat := match σ[6]? with
  | some (some (V.int n)) => n.toNat
  | _ => 0
theorem FolAt.get {H : Hp} {a : Addr} {fs : List (List Int)} {i : Nat} {l : List Int} (h : FolAt H a fs) (hl : fs[i]? = some l) : ∃ (xs : List V) (b : Addr), H a = some (.lst xs) ∧ xs[i]? = some (.ref b) ∧ H b = some (.lst (l.map V.int)) := by
  obtain ⟨as, ha, al⟩ := h
  obtain ⟨b, hb, r⟩ := al.at hl
  exact ⟨_, b, ha, by rw [List.getElem?_map, hb]; rfl, r⟩
end L2
set_option Elab.async false
set_option linter.all false
set_option maxRecDepth 100000
namespace L2
open PySem PySem.Spec PyProof.Rows
theorem while_at {c : TT} {tb : TS} {D : Ends} {σ : St} {H : Hp} (Pv : Nat → St → Hp → Prop) (m0 : Nat) (h0 : Pv m0 σ H)
    (hs : ∀ m σ H, Pv m σ H → c σ H fun b H1 => if b = true then tb { D with nx := fun σ' H' => ∃ m', m' < m ∧ Pv m' σ' H', ct := fun σ' H' => ∃ m', m' < m ∧ Pv m' σ' H', bk := D.nx } σ H1 else D.nx σ H1)
    (mono : ∀ σ H Q Q', (∀ b H1, Q b H1 → Q' b H1) → c σ H Q → c σ H Q') : tWhile c tb D σ H := by
  refine ⟨Pv, ⟨m0, h0⟩, fun m σ H p => mono σ H _ _ (fun b H1 q => ?_) (hs m σ H p)⟩
  cases b with
  | true => exact ⟨_, fun σ' H' z => z, q⟩
  | false => exact q
def lineC (es : List En) : Nat → Nat → List Nat
  | 0, _ => []
  | n + 1, k => if k = 0 then [] else k :: lineC es n ((es[k]?.map En.bef).getD 0).toNat
theorem lineC_zero (es : List En) (n : Nat) : lineC es n 0 = [] := by
  cases n with
  | zero => rfl
  | succ n => unfold lineC; rw [if_pos rfl]
section
variable {mks : List Mrk} {good : Bool → Nm → Int → Nm → Prop} {st : Nm} {es : List En}
theorem BookOk.bef {k : Nat} {e : En} (b : BookOk mks good st es) (he : es[k + 1]? = some e) : ∃ j : Nat, e.bef = (j : Int) ∧ j ≤ k ∧ ((es[k + 1]?.map En.bef).getD 0).toNat = j := by
  obtain ⟨j, f, mk, h1, h2, _⟩ := b.nxt k e he
  refine ⟨j, h2, h1, ?_⟩
  rw [he]
  show (e.bef).toNat = j
  rw [h2]
  rfl
theorem lineC_any (b : BookOk mks good st es) : ∀ (n m k : Nat), k ≤ n → k ≤ m → k < es.length → lineC es n k = lineC es m k
  | 0, m, k, h1, _, _ => by
    obtain rfl : k = 0 := by omega
    rw [lineC_zero, lineC_zero]
  | n + 1, m, 0, _, _, _ => by rw [lineC_zero, lineC_zero]
  | n + 1, 0, k + 1, _, h, _ => absurd h (by omega)
  | n + 1, m + 1, k + 1, h1, h2, h3 => by
    obtain ⟨j, _, hj, ej⟩ := b.bef (show es[k + 1]? = some es[k + 1] by simp)
    unfold lineC
    rw [if_neg (Nat.succ_ne_zero k), if_neg (Nat.succ_ne_zero k), ej, lineC_any b n m j (by omega) (by omega) (by omega)]
theorem lineC_step (b : BookOk mks good st es) {k j : Nat} {e : En} (he : es[k + 1]? = some e) (hj : e.bef = (j : Int)) : lineC es (k + 1) (k + 1) = (k + 1) :: lineC es j j := by
  have hk := (List.getElem?_eq_some_iff.mp he).1
  obtain ⟨j', h1, h2, h3⟩ := b.bef he
  obtain rfl : j' = j := by omega
  show (if k + 1 = 0 then [] else (k + 1) :: lineC es k ((es[k + 1]?.map En.bef).getD 0).toNat) = _
  rw [if_neg (Nat.succ_ne_zero k), h3, lineC_any b k j' j' h2 (Nat.le_refl _) (by omega)]
theorem lineC_len : ∀ (n k : Nat), (lineC es n k).length ≤ n
  | 0, _ => Nat.le_refl _
  | n + 1, k => by
    unfold lineC
    split
    · exact Nat.zero_le _
    · exact Nat.succ_le_succ (lineC_len n _)
end
def stepC (mks : List Mrk) (es : List En) (k : Nat) : Int × Bool := ((es[k]?.map En.num).getD 0, ((es[k]?.bind fun e => mks[(e.rm - 1).toNat]?).map Mrk.back).getD false)
def WaysAt (H : Hp) (a : Addr) (ws : List (Int × Bool)) : Prop := ∃ as : List Addr, H a = some (.lst (as.map V.ref)) ∧ All2 (fun x w => H x = some (.tup [.int w.1, .bl w.2])) as ws
theorem ways_push {H : Hp} {q p : Addr} {as : List Addr} {ws : List (Int × Bool)} {w : Int × Bool} (hq : H q = some (.lst (as.map V.ref))) (al : All2 (fun x w => H x = some (.tup [.int w.1, .bl w.2])) as ws) (hp : H p = some (.tup [.int w.1, .bl w.2])) :
    WaysAt (upd H q (.lst (as.map V.ref ++ [.ref p]))) q (ws ++ [w]) := by
  have ne : ∀ x (xs : List V), H x = some (.tup xs) → upd H q (.lst (as.map V.ref ++ [.ref p])) x = some (.tup xs) := fun x xs h => by
    rw [upd_ne (ne_of h hq (fun z => nomatch z))]
    exact h
  exact ⟨as ++ [p], by rw [upd_same, List.map_append]; rfl, All2.snoc (R := fun x (w : Int × Bool) => upd H q (.lst (as.map V.ref ++ [.ref p])) x = some (.tup [.int w.1, .bl w.2])) (ne _ _ hp) (al.imp fun _ _ r => ne _ _ r)⟩
theorem ways_rev {H : Hp} {q : Addr} {as : List Addr} {ws : List (Int × Bool)} (hq : H q = some (.lst (as.map V.ref))) (al : All2 (fun x w => H x = some (.tup [.int w.1, .bl w.2])) as ws) : WaysAt (upd H q (.lst (as.map V.ref).reverse)) q ws.reverse := by
  refine ⟨as.reverse, by rw [upd_same, List.map_reverse], All2.imp (fun x w r => ?_) al.rev⟩
  rw [upd_ne (ne_of r hq (fun z => nomatch z))]
  exact r
def endsC (ends : List Bool) : List En → Nat → List (Nm × Int) → List (Nm × Int)
  | [], _, m => m
  | e :: es, k, m => endsC ends es (k + 1) (if (ends[e.rm.toNat]?).getD false = true ∧ e.th ∉ m.map (·.1) then m ++ [(e.th, (k : Int))] else m)
theorem endsC_snoc (ends : List Bool) (e : En) : ∀ (es : List En) (k : Nat) (m : List (Nm × Int)), endsC ends (es ++ [e]) k m = (if (ends[e.rm.toNat]?).getD false = true ∧ e.th ∉ (endsC ends es k m).map (·.1) then endsC ends es k m ++ [(e.th, ((k + es.length : Nat) : Int))] else endsC ends es k m)
  | [], k, m => rfl
  | x :: es, k, m => by
    show endsC ends (es ++ [e]) (k + 1) _ = _
    rw [endsC_snoc ends e es]
    rw [show k + 1 + es.length = k + (x :: es).length by rw [List.length_cons]; omega]
    rfl
def PairsAt (H : Hp) (a : Addr) (m : List (Nm × Int)) : Prop := ∃ as : List Addr, H a = some (.lst (as.map V.ref)) ∧ All2 (fun x y => H x = some (.tup [.str (tx y.1), .int y.2])) as m
theorem endsC_len (ends : List Bool) : ∀ (es : List En) (k : Nat) (m : List (Nm × Int)), (endsC ends es k m).length ≤ m.length + es.length
  | [], _, m => Nat.le_refl _
  | e :: es, k, m => by
    have h := endsC_len ends es (k + 1) (if (ends[e.rm.toNat]?).getD false = true ∧ e.th ∉ m.map (·.1) then m ++ [(e.th, (k : Int))] else m)
    show (endsC ends es (k + 1) _).length ≤ _
    refine Nat.le_trans h ?_
    split
    · rw [List.length_append, List.length_cons, List.length_cons, List.length_nil]
      omega
    · rw [List.length_cons]
      omega
theorem nums_put {m : List (Nm × Int)} {k : Nm} {v : Int} (h : k ∉ m.map (·.1)) : valV (kvNums m) (.inr (tx k)) = none ∧ putK (kvNums m) (.inr (tx k)) (.int v) = kvNums (m ++ [(k, v)]) := by
  have h1 : valV (kvNums m) (.inr (tx k)) = none := by
    have h2 := nums_isSome (l := k) (m := m)
    rw [decide_eq_false h] at h2
    cases q : valV (kvNums m) (.inr (tx k)) with
    | none => rfl
    | some v => rw [q] at h2; cases h2
  refine ⟨h1, ?_⟩
  rw [putK_new _ h1]
  unfold kvNums
  rw [List.map_append]
  rfl
theorem all2_of {α β : Type} {R : α → β → Prop} : ∀ (as : List α) (bs : List β), as.length = bs.length → (∀ (i : Nat) (a : α) (b : β), as[i]? = some a → bs[i]? = some b → R a b) → All2 R as bs
  | [], [], _, _ => .nil
  | [], _ :: _, h, _ => by cases h
  | _ :: _, [], h, _ => by cases h
  | a :: as, b :: bs, h, r => .cons (r 0 a b rfl rfl) (all2_of as bs (Nat.succ.inj h) fun i x y hx hy => r (i + 1) x y hx hy)
end L2
set_option Elab.async false
set_option linter.all false
set_option maxRecDepth 100000
namespace L2
open PySem PySem.Spec PyProof.Rows
theorem lri_len : typeLookup (.type "list_reverseiterator") "__len__" = pure none := am_miss_of_fast (by kernel_rfl)
theorem lri_hint : typeLookup (.type "list_reverseiterator") "__length_hint__" = pure (some (.builtin "list_reverseiterator.__length_hint__")) := by rw [typeLookup_type, builtinLookup_eq_fast]; kernel_rfl
section
variable {prog : Program} {w : World} {A : Around} {E : Value → Shared → Prop} {s : Shared} {I l S : Addr} {items : Array Value}
theorem ext_rev {R : Result → Shared → Prop} (hh : A.handled = none) (hne : l ≠ I) (hit : s.heap.IsRevIter I l ((items.size : Int) - 1)) (hl : s.heap.IsList l items) (hn : items.size ≤ sizeLine) (res : Value) (c0 : Nat) (hS : s.heap.get? S = some { cls := .type "list", data := .seq #[] c0 }) (hSI : S ≠ I) (hSl : S ≠ l)
    (hR : ∀ h' tk acc' c', (∀ b o, b ≠ S → b ≠ I → s.heap.get? b = some o → h'.get? b = some o) → h'.get? S = some { cls := .type "list", dict := none, data := .seq acc' c', slots := #[] } → ItemsOf (fun i v => items[items.size - 1 - i]? = some v) acc' items.size → R (.ok (.ret res)) { s with heap := h', toks := tk }) :
    wpAny (model prog w) A.in1 (Builtin.List.listExtendWith (.ref S) (.ref I) res) (fun fin s' => match fin with | .done f => R (.ok f) s' | .again c' => c'.quiet = true ∧ codeAny (model prog w) A c' R s') (fun e s' => R (.error e) s') s := by
  have W := (Walks.listRev (prog := prog) (w := w) (A := A.in1) hh I l hne items).toS
  unfold Builtin.List.listExtendWith
  refine wpAny_bind (wpAny_typeOf hit.typeIs ?_)
  rw [if_neg (by rw [show Builtin.List.listSameRef (.ref S) (.ref I) = false by simp [Builtin.List.listSameRef, hSI]]; decide)]
  refine wpAny_bind (wpAny_pyIter_revIter hit (wpAny_bind (wpAny_holding ?_)))
  unfold Builtin.List.listLengthHint
  refine wpAny_bind (wpAny_specialOf hit.typeIs lri_len ?_)
  show wpAny _ A.in1 (specialOf (Value.ref I) (Str.ofString "__length_hint__") >>= _) _ _ _
  refine wpAny_bind (wpAny_specialOf hit.typeIs lri_hint ?_)
  generalize hid : ("list_reverseiterator.__length_hint__" : String) = id0
  wp_delta
  rw [show splitId id0 = some ("list_reverseiterator", "__length_hint__") from by subst hid; decide +kernel]
  subst hid
  refine wpAny_bind (wpAny_isInstance (b := true) hit.typeIs (by rw [isSubtype_type]; kernel_rfl) (wpAny_pure ?_))
  rw [if_neg (by decide)]
  refine wpAny_pure ⟨plainId_quiet PySem.F.plain_extend_loop _, codeAny_extend_loopS W hn S (by simp [hSI, hSl]) res items.size 0 _ #[] c0 rfl (Nat.zero_le _) ⟨Nat.zero_le _, by simpa using hit, hl⟩ hS (ItemsOf.nil _) fun s' acc' c' hm hS' hacc => ?_⟩
  rw [Moved.eq_with hm]
  exact hR s'.heap s'.toks acc' c' (fun b o h1 h2 e => hm.heap b o (by simp [h1, h2]) e) hS' hacc
theorem call_list_rev {Q : Value → Shared → Prop} (hh : A.handled = none) (hne : l ≠ I) (hit : s.heap.IsRevIter I l ((items.size : Int) - 1)) (hl : s.heap.IsList l items) (hn : items.size ≤ sizeLine)
    (hQ : ∀ h' tk acc' c', (∀ b o, b ≠ I → s.heap.get? b = some o → h'.get? b = some o) → h'.get? s.heap.objs.size = some { cls := .type "list", dict := none, data := .seq acc' c', slots := #[] } → ItemsOf (fun i v => items[items.size - 1 - i]? = some v) acc' items.size → Q (.ref s.heap.objs.size) { s with heap := h', toks := tk }) :
    wpAny (model prog w) A (call (.type "list") [.ref I]) Q E s := by
  refine callType_codes (Q₁ := fun obj s₁ => obj = .ref s.heap.objs.size ∧ s₁ = { s with heap := s.heap.push { cls := .type "list", data := .seq #[] } }) PySem.F.called_list (PySem.F.typeCall_list_1 _) PySem.F.entry_list_init (code_list_new _ ⟨rfl, rfl⟩) ?_
  rintro obj s₁ ⟨rfl, rfl⟩
  have hS : (s.heap.push { cls := .type "list", data := .seq #[] }).get? s.heap.objs.size = some { cls := .type "list", data := .seq #[] } := Heap.get?_push_size _ rfl
  have hI : I < s.heap.objs.size := let ⟨_, ho, _⟩ := hit; Heap.lt_size ho
  have hL : l < s.heap.objs.size := let ⟨_, ho, _⟩ := hl; Heap.lt_size ho
  refine ⟨⟨_, hS, rfl⟩, PySem.F.args_list_init_2 _ _, ?_⟩
  show wpAny _ _ (do let old ← Builtin.List.listItems (.ref s.heap.objs.size); Builtin.List.listUpdate (.ref s.heap.objs.size) (fun _ => #[]); letGo old.toList.reverse; Builtin.List.listExtendWith (.ref s.heap.objs.size) (.ref I) .none) _ _ _
  unfold Builtin.List.listItems
  refine wpAny_bind (wpAny_bind (wpAny_seqItems hS rfl (wpAny_pure ?_)))
  show wpAny _ _ (updateSeq s.heap.objs.size (fun _ => #[]) >>= fun _ => letGo (#[] : Array Value).toList.reverse >>= fun _ => Builtin.List.listExtendWith (.ref s.heap.objs.size) (.ref I) .none) _ _ _
  refine wpAny_bind (wpAny_updateSeq hS rfl (wpAny_bind (wpAny_letGo ?_)))
  have oth : ∀ b o, s.heap.get? b = some o → ((s.heap.push { cls := .type "list", data := .seq #[] }).update s.heap.objs.size (Obj.mapSeq (fun _ => (#[] : Array Value)))).get? b = some o := fun b o e => (Heap.get?_update_other _ _ (Nat.ne_of_gt (Heap.lt_size e))).trans (Heap.get?_push_of_some _ e)
  have hS2 := Heap.get?_update_self (Obj.mapSeq (fun _ => (#[] : Array Value))) hS rfl
  refine ext_rev (A := A.in1) (l := l) (items := items) hh hne (hit.at fun o e => oth _ o e) (hl.at fun o e => oth _ o e) hn .none _ hS2 (Nat.ne_of_gt hI) (Nat.ne_of_gt hL) fun h' tk acc' c' hk hS' hacc => ⟨rfl, hQ h' tk acc' c' (fun b o h1 e => hk b o (Nat.ne_of_lt (Heap.lt_size e)) h1 (oth b o e)) hS' hacc⟩
end
def tListR (K : PySem.W.Frag) (ta : TA) : TE := fun σ H Q => ta σ H fun vs H1 => ∃ a xs, vs = [.ref a] ∧ SqL K H1 a xs ∧ ∀ l, H1 l = none → Q (.ref l) (upd H1 l (.lst xs.reverse))
section
variable {X : Cx}
theorem pe_listR {a : Expr} {ta : TA} {p p2 pos pos2 : Pos} (hc : X.calm = true) (hg : Gl X "list") (hm : X.mg "list" = none) (hg2 : Gl X "reversed") (hm2 : X.mg "reversed" = none) (ha : PA X [a] ta) (hs : starEach [a] X.env = [(false, eval a X.env)] := by rfl)
    (he : starEach [.Call (.Name "reversed" p2) [a] [] pos2] X.env = [(false, eval (.Call (.Name "reversed" p2) [a] [] pos2) X.env)] := by rfl) :
    PE X (.Call (.Name "list" p) [.Call (.Name "reversed" p2) [a] [] pos2] [] pos) (tListR X.K ta) := by
  intro pins s σ H Q I h
  refine Call_ (ld_blt I hg hm boot_list (PyProof.Rows.callWith_type1 ?_ he rfl))
  rw [he]
  refine Calls.spliced_cons (Call_ (ld_blt I hg2 hm2 boot_reversed (PyProof.Rows.callWith_type1 (thn (ha pos2 pins s σ H _ I h) fun us s1 ⟨vs, H1, I1, r1, q1⟩ => ?_) hs rfl)))
  obtain ⟨b, xs, rfl, hq, q⟩ := q1
  obtain ⟨u, rfl, ru⟩ := r1.one
  cases ru
  obtain ⟨its, rv, pl, hz⟩ := I1.list hq
  have hlen := rv.length
  refine call_reversed_list pl.isList (Calls.spliced_nil ?_)
  have kp : ∀ c o, s1.heap.get? c = some o → (s1.heap.push (revObj b ((its.toArray.size : Int) - 1))).get? c = some o := fun c o e => Heap.get?_push_of_some _ e
  have bl : b < s1.heap.objs.size := let ⟨_, ho, _⟩ := pl.isList; Heap.lt_size ho
  refine call_list_rev (items := its.toArray) (I.ok.hd hc) (Nat.ne_of_lt bl) ⟨_, Heap.get?_push_size _ rfl, rfl, rfl⟩ (pl.isList.at fun o e => kp _ o e) (by rw [List.size_toArray, ← hlen]; exact hz) fun h' tk acc c hk hS hacc => ?_
  have sz : (s1.heap.push (revObj b ((its.toArray.size : Int) - 1))).objs.size = s1.heap.objs.size + 1 := Heap.size_push ..
  rw [sz] at hS ⊢
  have fr : H1 (s1.heap.objs.size + 1) = none := I1.hok.fresh (Nat.le_succ _)
  refine ⟨.ref (s1.heap.objs.size + 1), _, I1.laid (t' := tk) (o := .lst xs.reverse) (fun c o e => hk c o (Nat.ne_of_lt (Heap.lt_size e)) (kp c o e)) (Nat.le_succ _) ⟨by rw [List.length_reverse]; exact hz, acc.toList, c, ?_, hS⟩, rfl, q _ fr⟩
  have ea : acc.toList = its.reverse := by
    refine List.ext_getElem? fun i => ?_
    rw [Array.getElem?_toList]
    by_cases hi : i < its.length
    · have h1 : acc[i]? = some (acc[i]'(by rw [hacc.1]; simpa using hi)) := by simp
      have h2 := hacc.2 i _ h1
      rw [h1, List.getElem?_reverse hi, ← h2]
      simp
    · rw [List.getElem?_eq_none (by rw [List.length_reverse]; omega)]
      exact Array.getElem?_eq_none (by rw [hacc.1, List.size_toArray]; omega)
  rw [ea]
  exact rv.reverse
theorem bpe_listR {a : Expr} {ta : TA} {p p2 pos pos2 : Pos} (hc : X.calm = true) (hg : Gl X "list") (hm : X.mg "list" = none) (hg2 : Gl X "reversed") (hm2 : X.mg "reversed" = none) (ha : Bx (PA X [a] ta)) (hs : starEach [a] X.env = [(false, eval a X.env)] := by rfl)
    (he : starEach [.Call (.Name (Str.ofString "reversed") p2) [a] [] pos2] X.env = [(false, eval (.Call (.Name (Str.ofString "reversed") p2) [a] [] pos2) X.env)] := by rfl) :
    Bx (PE X (.Call (.Name (Str.ofString "list") p) [.Call (.Name (Str.ofString "reversed") p2) [a] [] pos2] [] pos) (tListR X.K ta)) := ⟨pe_listR hc hg hm hg2 hm2 ha.un hs he⟩
end
end L2
set_option Elab.async false
set_option linter.all false
set_option maxRecDepth 100000
namespace L2
open PySem PySem.Spec PyProof.Rows
def pairD (y : Nm × Int) : PyData := .tuple [.str (tx y.1), .int y.2]
def entD (e : En) : PyData := .tuple [.str (tx e.th), .int e.rm, .int e.far, .int e.num, .int e.bef]
theorem PairsAt.same {H H' : Hp} {a : Addr} {m : List (Nm × Int)} (h : PairsAt H a m) (s : Same H H') : PairsAt H' a m := by
  obtain ⟨as, e, al⟩ := h
  exact ⟨as, s _ _ e, al.imp fun _ _ r => s _ _ r⟩
theorem WaysAt.same {H H' : Hp} {a : Addr} {m : List (Int × Bool)} (h : WaysAt H a m) (s : Same H H') : WaysAt H' a m := by
  obtain ⟨as, e, al⟩ := h
  exact ⟨as, s _ _ e, al.imp fun _ _ r => s _ _ r⟩
theorem PairsAt.dat {K : PySem.W.Frag} {H : Hp} {a : Addr} {m : List (Nm × Int)} (h : PairsAt H a m) : DatV K H (.ref a) (.list (m.map pairD)) := by
  obtain ⟨as, e, al⟩ := h
  exact .lst (SqL.of e) (datVs_of (f := pairD) (R := fun x y => H x = some (.tup [.str (tx y.1), .int y.2])) (fun x y r => .tup (SqT.of r) (.cons (.str _) (.cons (.int _) .nil))) al)
theorem EntsAt.dat {K : PySem.W.Frag} {H : Hp} {a : Addr} {es : List En} (h : EntsAt H a es) : DatV K H (.ref a) (.list (es.map entD)) := by
  obtain ⟨as, e, al⟩ := h
  exact .lst (SqL.of e) (datVs_of (f := entD) (R := fun x e => H x = some (.tup (enV e))) (fun x y r => .tup (SqT.of r) (.cons (.str _) (.cons (.int _) (.cons (.int _) (.cons (.int _) (.cons (.int _) .nil)))))) al)
theorem pairs_fit {m : List (Nm × Int)} (o : ∀ y ∈ m, okT y.1) : Fit 2 (.list (m.map pairD)) := by
  refine fit_list (fit_all fun d hd => ?_)
  obtain ⟨y, hy, rfl⟩ := List.mem_map.mp hd
  refine fit_tup (fit_all fun d hd => ?_)
  simp only [List.mem_cons, List.not_mem_nil, or_false] at hd
  rcases hd with rfl | rfl
  · exact fit_str (o y hy)
  · exact fit_int _
theorem ents_fit {es : List En} (o : ∀ e ∈ es, okT e.th) : Fit 2 (.list (es.map entD)) := by
  refine fit_list (fit_all fun d hd => ?_)
  obtain ⟨y, hy, rfl⟩ := List.mem_map.mp hd
  refine fit_tup (fit_all fun d hd => ?_)
  simp only [List.mem_cons, List.not_mem_nil, or_false] at hd
  rcases hd with rfl | rfl | rfl | rfl | rfl
  · exact fit_str (o y hy)
  all_goals exact fit_int _
theorem endsC_in (ends : List Bool) : ∀ (es : List En) (k : Nat) (m : List (Nm × Int)) (y : Nm × Int), y ∈ endsC ends es k m → y ∈ m ∨ ∃ e ∈ es, y.1 = e.th
  | [], _, m, y, h => .inl h
  | e :: es, k, m, y, h => by
    rcases endsC_in ends es (k + 1) _ y h with h | ⟨e', he', h⟩
    · split at h
      · rcases List.mem_append.mp h with h | h
        · exact .inl h
        · rw [List.mem_singleton.mp h]
          exact .inr ⟨e, List.mem_cons_self, rfl⟩
      · exact .inl h
    · exact .inr ⟨e', List.mem_cons_of_mem _ he', h⟩
section
variable {mks : List Mrk} {good : Bool → Nm → Int → Nm → Prop} {st : Nm} {es : List En}
theorem BookOk.far (b : BookOk mks good st es) : ∀ (k : Nat) (e : En), es[k]? = some e → e.far = ((lineC es k k).length : Int) := by
  intro k
  induction k using Nat.strongRecOn with
  | _ k ih =>
    intro e he
    cases k with
    | zero =>
      rw [b.fst] at he
      cases he
      rfl
    | succ k =>
      obtain ⟨j, f, mk, h1, h2, h3, h4, _⟩ := b.nxt k e he
      rw [lineC_step b he h2, h4, ih j (by omega) f h3, List.length_cons]
      omega
def Chain (es : List En) : Nat → List Nat → Nat → Prop
  | m, [], k => m = k
  | m, x :: xs, k => (∃ y e, x = y + 1 ∧ es[x]? = some e ∧ e.bef = (m : Int)) ∧ Chain es x xs k
theorem Chain.snoc {k j : Nat} {e : En} (he : es[k + 1]? = some e) (hj : e.bef = (j : Int)) : ∀ {m : Nat} {xs : List Nat}, Chain es m xs j → Chain es m (xs ++ [k + 1]) (k + 1)
  | m, [], h => ⟨⟨k, e, rfl, he, by rw [hj, show m = j from h]⟩, rfl⟩
  | m, x :: xs, h => ⟨h.1, Chain.snoc he hj h.2⟩
theorem BookOk.chain (b : BookOk mks good st es) : ∀ k : Nat, k < es.length → Chain es 0 (lineC es k k).reverse k := by
  intro k
  induction k using Nat.strongRecOn with
  | _ k ih =>
    intro hk
    cases k with
    | zero => exact rfl
    | succ k =>
      have he : es[k + 1]? = some es[k + 1] := by simp
      obtain ⟨j, f, mk, h1, h2, _⟩ := b.nxt k _ he
      rw [lineC_step b he h2, List.reverse_cons]
      exact Chain.snoc he h2 (ih j (by omega) (by omega))
end
theorem pairs_push {H : Hp} {q p : Addr} {as : List Addr} {ws : List (Nm × Int)} {w : Nm × Int} (hq : H q = some (.lst (as.map V.ref))) (al : All2 (fun x w => H x = some (.tup [.str (tx w.1), .int w.2])) as ws) (hp : H p = some (.tup [.str (tx w.1), .int w.2])) :
    PairsAt (upd H q (.lst (as.map V.ref ++ [.ref p]))) q (ws ++ [w]) := by
  have ne : ∀ x (xs : List V), H x = some (.tup xs) → upd H q (.lst (as.map V.ref ++ [.ref p])) x = some (.tup xs) := fun x xs h => by
    rw [upd_ne (ne_of h hq (fun z => nomatch z))]
    exact h
  exact ⟨as ++ [p], by rw [upd_same, List.map_append]; rfl, All2.snoc (R := fun x (w : Nm × Int) => upd H q (.lst (as.map V.ref ++ [.ref p])) x = some (.tup [.str (tx w.1), .int w.2])) (ne _ _ hp) (al.imp fun _ _ r => ne _ _ r)⟩
theorem BookOk.mono {mks : List Mrk} {good good' : Bool → Nm → Int → Nm → Prop} {st : Nm} {es : List En} (b : BookOk mks good st es) (h : ∀ x k n t, good x k n t → good' x k n t) : BookOk mks good' st es :=
  ⟨b.fst, fun k e he => let ⟨j, f, mq, h1, h2, h3, h4, h5, h6, h7⟩ := b.nxt k e he; ⟨j, f, mq, h1, h2, h3, h4, h5, h6, h _ _ _ _ h7⟩⟩
end L2
set_option Elab.async false
set_option linter.all false
set_option maxRecDepth 100000
set_option maxHeartbeats 4000000
namespace K30
open PySem L2
def top (i : Nat) : Stmt := PySem.Challenge.pw_tieseek_k30_ways_and_ends_in_a_book.main.body.getD i (.Pass ⟨0, 0, 0, 0⟩)
abbrev s_good_name : Stmt := top 12
abbrev s_few_figures : Stmt := top 13
abbrev s_weight_meets : Stmt := top 19
abbrev s_fits : Stmt := top 20
abbrev s_gone_step : Stmt := top 22
abbrev s_gone_from : Stmt := top 23
abbrev s_gone_to : Stmt := top 24
abbrev s_moves_by : Stmt := top 26
abbrev s_book : Stmt := top 27
abbrev s_way_in : Stmt := top 28
abbrev s_ends_in : Stmt := top 29
abbrev s_check_name : Stmt := top 33
abbrev s_check_number : Stmt := top 34
abbrev s_l_cell_at : Stmt := top 37
abbrev s_l_mixed : Stmt := top 38
abbrev s_l_names : Stmt := top 39
abbrev s_l_whole : Stmt := top 40
abbrev s_l_base : Stmt := top 41
abbrev s_l_number : Stmt := top 42
abbrev s_l_mark_by : Stmt := top 43
abbrev s_l_things : Stmt := top 44
abbrev s_l_web_by : Stmt := top 45
abbrev s_l_rooms_by : Stmt := top 46
abbrev s_l_made_by : Stmt := top 47
abbrev s_l_line : Stmt := top 48
abbrev s_l_led : Stmt := top 49
abbrev s_l_ends : Stmt := top 50
abbrev s_l_same : Stmt := top 51
abbrev s_law : Stmt := top 52
abbrev s_Web_init : Stmt := inClass (top 35) 0
abbrev s_Web_check_thing : Stmt := inClass (top 35) 1
abbrev s_Web_check_tie : Stmt := inClass (top 35) 2
abbrev s_Web_add_thing : Stmt := inClass (top 35) 3
abbrev s_Web_add_tie : Stmt := inClass (top 35) 7
abbrev s_Web_cut_tie : Stmt := inClass (top 35) 8
abbrev s_Web_has_thing : Stmt := inClass (top 35) 9
abbrev s_Web_things : Stmt := inClass (top 35) 10
abbrev s_Web_ties : Stmt := inClass (top 35) 13
abbrev s_Web_tie : Stmt := inClass (top 35) 14
def v_LETTERS : Str := "abcdefghijklmnopqrstuvwxyz"
def v_ANY_NAME : Str := "_"
theorem cs0 : Str.ofString "<" = tx [60] := by decide +kernel
theorem cs1 : Str.ofString ">" = tx [62] := by decide +kernel
theorem cs2 : Str.ofString "=" = tx [61] := by decide +kernel
theorem cs3 : Str.ofString "!" = tx [33] := by decide +kernel
theorem cs4 : Str.ofString "abcdefghijklmnopqrstuvwxyz" = tx [97, 98, 99, 100, 101, 102, 103, 104, 105, 106, 107, 108, 109, 110, 111, 112, 113, 114, 115, 116, 117, 118, 119, 120, 121, 122] := by decide +kernel
theorem cs5 : Str.ofString "" = tx [] := by decide +kernel
theorem cs6 : Str.ofString "mark" = tx [109, 97, 114, 107] := by decide +kernel
theorem cs7 : Str.ofString "_" = tx [95] := by decide +kernel
theorem cv_LETTERS : v_LETTERS = tx [97, 98, 99, 100, 101, 102, 103, 104, 105, 106, 107, 108, 109, 110, 111, 112, 113, 114, 115, 116, 117, 118, 119, 120, 121, 122] := by decide +kernel
theorem cv_ANY_NAME : v_ANY_NAME = tx [95] := by decide +kernel
local macro_rules | `(tactic| walk_at "rd") => `(tactic| simp only [L2.start, tVar, tC, tOp, tUn, tCB, tCons, tNil, tRet, tRetN, tDrop, tSeq, tNext, tBreak, tCont, tIfS, tTest, tB, tAnd, tOr, tNot, tAndV, tOrV, tNotV, tIf, tChain, tCall, tMeth, tMake, tTup, tLst, tAsg, gName, tSl, tPart, tNoPart, tBM, tBM0, rI, rI0, rU, List.map_cons, List.map_nil, List.length_cons, List.length_nil, List.replicate, List.cons_append, List.nil_append, List.append_nil, List.getElem?_cons_zero, List.getElem?_cons_succ, List.set_cons_zero, List.set_cons_succ, Option.some.injEq, V.int.injEq, V.str.injEq, V.bl.injEq, V.ref.injEq, V.ty.injEq, List.cons.injEq, and_true, true_and, exists_and_left, exists_eq_left', exists_eq_left, decide_eq_true_eq, Nat.sub_self, Nat.reduceSub, Nat.reduceAdd, tx_len, reduceCtorEq, false_and, exists_false, if_false, if_true, Bool.false_eq_true, and_assoc, stB1, Option.join, Option.bind_some, id_eq, rEq, rNe, scal, cxOf_K, tBetw, tBetwT, rStarts, rFind, Bool.not_eq_true', decide_eq_false_iff_not, Bool.not_true, Bool.not_false, not_true_eq_false, not_false_eq_true, tNever, tIsN, tNotN, decide_true, decide_false, rTo, rFr, tx_list, tx_app, starts1, tx_inj, CDiv, CPow, tyV_str, cxH_K, Int.reduceLT, Int.reduceLE, Int.reducePow, Nat.reduceLT, Nat.reduceLeDiff, Int.reduceToNat, Int.reduceNeg, Nat.reducePow, tRaise, xSeq, rIsX, rIsV, tFld, sFld, tDGet, tDIn, tDNotIn, sDPut, sDDel, tDNewK, tDGet1, tDPop1, rAppend, tTry, rMulS, rCount, rIndex, rRemove, rEqD, rNeD, Dthaw, tLstC, rCat, rCatK, rDictP, rEqN, rRep, gTup, gCons, gNil, tDisp, tPairs, tDGet2, tDSetD, tDispT, tListI, tListR, rReverse, tRepl, cs0, cs1, cs2, cs3, cs4, cs5, cs6, cs7, cv_LETTERS, cv_ANY_NAME, gSub, rSetL])
local macro_rules | `(tactic| walk_at "rs") => `(tactic| simp only [L2.start, List.map_cons, List.map_nil, List.length_cons, List.length_nil, List.replicate, List.cons_append, List.nil_append, List.append_nil, Nat.sub_self, Nat.reduceSub, Nat.reduceAdd, cxOf_K, cxH_K])
local macro_rules | `(tactic| walk_at "rg") => `(tactic| simp only [gName, List.set_cons_zero, List.set_cons_succ])
structure Ad where
  a_good_name : Addr
  d_good_name : FuncData
  a_few_figures : Addr
  d_few_figures : FuncData
  a_weight_meets : Addr
  d_weight_meets : FuncData
  a_fits : Addr
  d_fits : FuncData
  a_gone_step : Addr
  d_gone_step : FuncData
  a_gone_from : Addr
  d_gone_from : FuncData
  a_gone_to : Addr
  d_gone_to : FuncData
  a_moves_by : Addr
  d_moves_by : FuncData
  a_book : Addr
  d_book : FuncData
  a_way_in : Addr
  d_way_in : FuncData
  a_ends_in : Addr
  d_ends_in : FuncData
  a_check_name : Addr
  d_check_name : FuncData
  a_check_number : Addr
  d_check_number : FuncData
  a_l_cell_at : Addr
  d_l_cell_at : FuncData
  a_l_mixed : Addr
  d_l_mixed : FuncData
  a_l_names : Addr
  d_l_names : FuncData
  a_l_whole : Addr
  d_l_whole : FuncData
  a_l_base : Addr
  d_l_base : FuncData
  a_l_number : Addr
  d_l_number : FuncData
  a_l_mark_by : Addr
  d_l_mark_by : FuncData
  a_l_things : Addr
  d_l_things : FuncData
  a_l_web_by : Addr
  d_l_web_by : FuncData
  a_l_rooms_by : Addr
  d_l_rooms_by : FuncData
  a_l_made_by : Addr
  d_l_made_by : FuncData
  a_l_line : Addr
  d_l_line : FuncData
  a_l_led : Addr
  d_l_led : FuncData
  a_l_ends : Addr
  d_l_ends : FuncData
  a_l_same : Addr
  d_l_same : FuncData
  a_Web_init : Addr
  d_Web_init : FuncData
  a_Web_check_thing : Addr
  d_Web_check_thing : FuncData
  a_Web_check_tie : Addr
  d_Web_check_tie : FuncData
  a_Web_add_thing : Addr
  d_Web_add_thing : FuncData
  a_Web_add_tie : Addr
  d_Web_add_tie : FuncData
  a_Web_cut_tie : Addr
  d_Web_cut_tie : FuncData
  a_Web_has_thing : Addr
  d_Web_has_thing : FuncData
  a_Web_things : Addr
  d_Web_things : FuncData
  a_Web_ties : Addr
  d_Web_ties : FuncData
  a_Web_tie : Addr
  d_Web_tie : FuncData
  c_SeekError : Addr
  c_NoName : Addr
  c_NoNumber : Addr
  c_NoThing : Addr
  c_NoTie : Addr
  c_Twice : Addr
  c_Full : Addr
  c_Web : Addr
abbrev Ad.cs (t : Ad) : List Addr := [t.c_NoName, t.c_NoNumber, t.c_NoThing, t.c_NoTie, t.c_Twice, t.c_Full]
structure Txt (K : PySem.W.Frag) (mg : Str → Option Value) (t : Ad) : Prop where
  good_name : DefOk K mg "good_name" s_good_name ["text"] t.a_good_name t.d_good_name
  few_figures : DefOk K mg "few_figures" s_few_figures ["number"] t.a_few_figures t.d_few_figures
  weight_meets : DefOk K mg "weight_meets" s_weight_meets ["weight", "sign", "number"] t.a_weight_meets t.d_weight_meets
  fits : DefOk K mg "fits" s_fits ["mark", "step"] t.a_fits t.d_fits
  gone_step : DefOk K mg "gone_step" s_gone_step ["tie", "back"] t.a_gone_step t.d_gone_step
  gone_from : DefOk K mg "gone_from" s_gone_from ["tie", "back"] t.a_gone_from t.d_gone_from
  gone_to : DefOk K mg "gone_to" s_gone_to ["tie", "back"] t.a_gone_to t.d_gone_to
  moves_by : DefOk K mg "moves_by" s_moves_by ["web", "mark"] t.a_moves_by t.d_moves_by
  book : DefOk K mg "book" s_book ["web", "made", "start"] t.a_book t.d_book
  way_in : DefOk K mg "way_in" s_way_in ["made", "entries", "place"] t.a_way_in t.d_way_in
  ends_in : DefOk K mg "ends_in" s_ends_in ["made", "entries"] t.a_ends_in t.d_ends_in
  check_name : DefOk K mg "check_name" s_check_name ["name"] t.a_check_name t.d_check_name
  check_number : DefOk K mg "check_number" s_check_number ["number"] t.a_check_number t.d_check_number
  l_cell_at : DefOk K mg "_law_cell_at" s_l_cell_at ["script", "k"] t.a_l_cell_at t.d_l_cell_at
  l_mixed : DefOk K mg "_law_mixed" s_l_mixed ["cell"] t.a_l_mixed t.d_l_mixed
  l_names : DefOk K mg "_law_names" s_l_names ["cell"] t.a_l_names t.d_l_names
  l_whole : DefOk K mg "_law_whole" s_l_whole ["found"] t.a_l_whole t.d_l_whole
  l_base : DefOk K mg "_law_base" s_l_base ["cell"] t.a_l_base t.d_l_base
  l_number : DefOk K mg "_law_number" s_l_number ["cell", "turn", "base"] t.a_l_number t.d_l_number
  l_mark_by : DefOk K mg "_law_mark_by" s_l_mark_by ["cell", "names", "base"] t.a_l_mark_by t.d_l_mark_by
  l_things : DefOk K mg "_law_things" s_l_things ["cell", "many"] t.a_l_things t.d_l_things
  l_web_by : DefOk K mg "_law_web_by" s_l_web_by ["cells", "things", "names", "base"] t.a_l_web_by t.d_l_web_by
  l_rooms_by : DefOk K mg "_law_rooms_by" s_l_rooms_by ["cell", "many", "mixed"] t.a_l_rooms_by t.d_l_rooms_by
  l_made_by : DefOk K mg "_law_made_by" s_l_made_by ["script", "many", "mixed", "names", "base"] t.a_l_made_by t.d_l_made_by
  l_line : DefOk K mg "_law_line" s_l_line ["entries", "place"] t.a_l_line t.d_l_line
  l_led : DefOk K mg "_law_led" s_l_led ["way", "entries", "place", "made", "ties"] t.a_l_led t.d_l_led
  l_ends : DefOk K mg "_law_ends" s_l_ends ["entries", "made"] t.a_l_ends t.d_l_ends
  l_same : DefOk K mg "_law_same" s_l_same ["found", "due"] t.a_l_same t.d_l_same
  Web_init : MethOk K t.c_Web "__init__" "Web.__init__" s_Web_init ["self"] t.a_Web_init t.d_Web_init
  Web_check_thing : MethOk K t.c_Web "check_thing" "Web.check_thing" s_Web_check_thing ["self", "name"] t.a_Web_check_thing t.d_Web_check_thing
  Web_check_tie : MethOk K t.c_Web "check_tie" "Web.check_tie" s_Web_check_tie ["self", "number"] t.a_Web_check_tie t.d_Web_check_tie
  Web_add_thing : MethOk K t.c_Web "add_thing" "Web.add_thing" s_Web_add_thing ["self", "name"] t.a_Web_add_thing t.d_Web_add_thing
  Web_add_tie : MethOkD K t.c_Web "add_tie" "Web.add_tie" s_Web_add_tie ["self", "start", "name", "end", "weight"] [.int 0] t.a_Web_add_tie t.d_Web_add_tie
  Web_cut_tie : MethOk K t.c_Web "cut_tie" "Web.cut_tie" s_Web_cut_tie ["self", "number"] t.a_Web_cut_tie t.d_Web_cut_tie
  Web_has_thing : MethOk K t.c_Web "has_thing" "Web.has_thing" s_Web_has_thing ["self", "name"] t.a_Web_has_thing t.d_Web_has_thing
  Web_things : MethOk K t.c_Web "things" "Web.things" s_Web_things ["self"] t.a_Web_things t.d_Web_things
  Web_ties : MethOk K t.c_Web "ties" "Web.ties" s_Web_ties ["self"] t.a_Web_ties t.d_Web_ties
  Web_tie : MethOk K t.c_Web "tie" "Web.tie" s_Web_tie ["self", "number"] t.a_Web_tie t.d_Web_tie
  c_LETTERS : ∃ u, mg "LETTERS" = some u ∧ RelV (.str v_LETTERS) u
  c_MOST_LETTERS : ∃ u, mg "MOST_LETTERS" = some u ∧ RelV (.int 12) u
  c_ANY_NAME : ∃ u, mg "ANY_NAME" = some u ∧ RelV (.str v_ANY_NAME) u
  c_MARKS : ∃ u, mg "MARKS" = some u ∧ RelV (.int 0) u
  c_FOLLOWS : ∃ u, mg "FOLLOWS" = some u ∧ RelV (.int 1) u
  c_ENDS : ∃ u, mg "ENDS" = some u ∧ RelV (.int 2) u
  c_MOST_THINGS : ∃ u, mg "MOST_THINGS" = some u ∧ RelV (.int 100) u
  c_MOST_TIES : ∃ u, mg "MOST_TIES" = some u ∧ RelV (.int 400) u
  b_len : mg "len" = none
  b_isinstance : mg "isinstance" = none
  b_bool : mg "bool" = none
  b_int : mg "int" = none
  b_range : mg "range" = none
  b_list : mg "list" = none
  b_str : mg "str" = none
  b_ValueError : mg "ValueError" = none
  b_tuple : mg "tuple" = none
  b_reversed : mg "reversed" = none
  b_abs : mg "abs" = none
  b_all : mg "all" = none
  b_enumerate : mg "enumerate" = none
  g_SeekError : mg "SeekError" = some (.ref t.c_SeekError)
  g_NoName : mg "NoName" = some (.ref t.c_NoName)
  g_NoNumber : mg "NoNumber" = some (.ref t.c_NoNumber)
  g_NoThing : mg "NoThing" = some (.ref t.c_NoThing)
  g_NoTie : mg "NoTie" = some (.ref t.c_NoTie)
  g_Twice : mg "Twice" = some (.ref t.c_Twice)
  g_Full : mg "Full" = some (.ref t.c_Full)
  g_Web : mg "Web" = some (.ref t.c_Web)
  xs : XSet K t.c_SeekError t.cs
  o_Web : Cls K t.c_Web
  mk_Web : Mk K t.c_Web t.a_Web_init
  na_kept_values : NoAttr K t.c_Web "kept_values"
  na_kept_ties : NoAttr K t.c_Web "kept_ties"
  na_coming_number : NoAttr K t.c_Web "coming_number"
theorem Txt.in_NoName {K : PySem.W.Frag} {mg : Str → Option Value} {t : Ad} (_ : Txt K mg t) : t.c_NoName ∈ t.cs := by simp [Ad.cs]
theorem Txt.xc_NoName {K : PySem.W.Frag} {mg : Str → Option Value} {t : Ad} (T : Txt K mg t) : XCls K mg "NoName" t.c_NoName := T.xs.cls T.in_NoName T.g_NoName
theorem Txt.in_NoNumber {K : PySem.W.Frag} {mg : Str → Option Value} {t : Ad} (_ : Txt K mg t) : t.c_NoNumber ∈ t.cs := by simp [Ad.cs]
theorem Txt.xc_NoNumber {K : PySem.W.Frag} {mg : Str → Option Value} {t : Ad} (T : Txt K mg t) : XCls K mg "NoNumber" t.c_NoNumber := T.xs.cls T.in_NoNumber T.g_NoNumber
theorem Txt.in_NoThing {K : PySem.W.Frag} {mg : Str → Option Value} {t : Ad} (_ : Txt K mg t) : t.c_NoThing ∈ t.cs := by simp [Ad.cs]
theorem Txt.xc_NoThing {K : PySem.W.Frag} {mg : Str → Option Value} {t : Ad} (T : Txt K mg t) : XCls K mg "NoThing" t.c_NoThing := T.xs.cls T.in_NoThing T.g_NoThing
theorem Txt.in_NoTie {K : PySem.W.Frag} {mg : Str → Option Value} {t : Ad} (_ : Txt K mg t) : t.c_NoTie ∈ t.cs := by simp [Ad.cs]
theorem Txt.xc_NoTie {K : PySem.W.Frag} {mg : Str → Option Value} {t : Ad} (T : Txt K mg t) : XCls K mg "NoTie" t.c_NoTie := T.xs.cls T.in_NoTie T.g_NoTie
theorem Txt.in_Twice {K : PySem.W.Frag} {mg : Str → Option Value} {t : Ad} (_ : Txt K mg t) : t.c_Twice ∈ t.cs := by simp [Ad.cs]
theorem Txt.xc_Twice {K : PySem.W.Frag} {mg : Str → Option Value} {t : Ad} (T : Txt K mg t) : XCls K mg "Twice" t.c_Twice := T.xs.cls T.in_Twice T.g_Twice
theorem Txt.in_Full {K : PySem.W.Frag} {mg : Str → Option Value} {t : Ad} (_ : Txt K mg t) : t.c_Full ∈ t.cs := by simp [Ad.cs]
theorem Txt.xc_Full {K : PySem.W.Frag} {mg : Str → Option Value} {t : Ad} (T : Txt K mg t) : XCls K mg "Full" t.c_Full := T.xs.cls T.in_Full T.g_Full
def Ad.cl (t : Ad) : Rf → Addr
  | .noName => t.c_NoName | .noNumber => t.c_NoNumber | .noThing => t.c_NoThing | .noKey => t.c_SeekError | .noTie => t.c_NoTie | .twice => t.c_Twice | .stillTied => t.c_SeekError | .full => t.c_Full
def sp_good_name : Sp := fun vs H Q _ => ∃ l, vs = [.str (tx l)] ∧ l.length ≤ sizeLine ∧ ∀ H', Same H H' → Q (.bl (goodC l)) H'
def sp_check_name (t : Ad) : Sp := fun vs H Q E => ∃ l, vs = [.str (tx l)] ∧ l.length ≤ sizeLine ∧ ∀ H', Same H H' → if goodC l = false then E (.ref t.c_NoName) none H' else Q .non H'
def sp_Web_init (t : Ad) : Sp := fun vs H Q _ => ∃ p dx, vs = [.ref p] ∧ H p = some (.ins t.c_Web dx []) ∧
  ∀ H' W, WebAt t.c_Web H' p W → W.vals = [] → W.ties = [] → W.next = 0 → (∀ b o, b ≠ p → H b = some o → H' b = some o) → (∀ b ∈ W.own p, b = p ∨ H b = none) → Q .non H'
def sp_Web_check_thing (t : Ad) : Sp := fun vs H Q E => ∃ p W l, vs = [.ref p, .str (tx l)] ∧ WebAt t.c_Web H p W ∧ if l ∈ W.vals.map (·.1) then Q .non H else E (.ref t.c_NoThing) none H
def told (t : Ad) (p : Addr) (W : WS) (H : Hp) (Q : VK) (E : XK) (v : V) : Except Rf WA → Prop
  | .error r => ∀ H', Same H H' → E (.ref (t.cl r)) none H'
  | .ok A => ∀ H' W', WebAt t.c_Web H' p W' → W'.abs = A → Step H (W.own p) H' (W'.own p) → Q v H'
def sp_Web_add_thing (t : Ad) : Sp := fun vs H Q E => ∃ p W l, vs = [.ref p, .str (tx l)] ∧ WebAt t.c_Web H p W ∧ l.length ≤ sizeLine ∧ told t p W H Q E .non (W.abs.addThing l)
def sp_Web_drop_thing (t : Ad) : Sp := fun vs H Q E => ∃ p W l, vs = [.ref p, .str (tx l)] ∧ WebAt t.c_Web H p W ∧ told t p W H Q E .non (W.abs.dropThing l)
def sp_Web_has_thing (t : Ad) : Sp := fun vs H Q _ => ∃ p W l, vs = [.ref p, .str (tx l)] ∧ WebAt t.c_Web H p W ∧ Q (.bl (decide (l ∈ W.vals.map (·.1)))) H
def sp_Web_things (t : Ad) : Sp := fun vs H Q _ => ∃ p W, vs = [.ref p] ∧ WebAt t.c_Web H p W ∧ ∀ a, H a = none → Q (.ref a) (upd H a (.lst ((W.vals.map (·.1)).map fun z => .str (tx z))))
def sp_Web_at (t : Ad) (f : Tie → Nm) : Sp := fun vs H Q E => ∃ p W l, vs = [.ref p, .str (tx l)] ∧ WebAt t.c_Web H p W ∧
  if l ∈ W.vals.map (·.1) then ∀ a H', H a = none → Same H H' → H' a = some (.lst ((W.abs.at_ f l).map V.int)) → Q (.ref a) H' else E (.ref t.c_NoThing) none H
def sp_few_figures : Sp := fun vs H Q _ => ∃ n : Int, vs = [.int n] ∧ Q (.bl (decide (n.natAbs < 10 ^ 60))) H
def sp_check_number (t : Ad) : Sp := fun vs H Q E => ∃ n : Int, vs = [.int n] ∧ if n.natAbs < 10 ^ 60 then Q .non H else E (.ref t.c_NoNumber) none H
def sp_Web_check_tie (t : Ad) : Sp := fun vs H Q E => ∃ p W n, vs = [.ref p, .int n] ∧ WebAt t.c_Web H p W ∧ if n ∈ W.ties.map (·.1) then Q .non H else E (.ref t.c_NoTie) none H
def sp_Web_cut_tie (t : Ad) : Sp := fun vs H Q E => ∃ p W n, vs = [.ref p, .int n] ∧ WebAt t.c_Web H p W ∧ told t p W H Q E .non (W.abs.cutTie n)
def sp_Web_add_tie (t : Ad) : Sp := fun vs H Q E => ∃ p W s n e w, vs = [.ref p, .str (tx s), .str (tx n), .str (tx e), .int w] ∧ WebAt t.c_Web H p W ∧ (∀ x ∈ W.ties.map (·.1), x < W.next) ∧ n.length ≤ sizeLine ∧ told t p W H Q E (.int W.next) (W.abs.addTie s n e w)
def sp_Web_ties (t : Ad) : Sp := fun vs H Q _ => ∃ p W, vs = [.ref p] ∧ WebAt t.c_Web H p W ∧ ∀ a, H a = none → Q (.ref a) (upd H a (.lst ((W.ties.map (·.1)).map V.int)))
def sp_Web_tie (t : Ad) : Sp := fun vs H Q E => ∃ p W n, vs = [.ref p, .int n] ∧ WebAt t.c_Web H p W ∧ if n ∈ W.ties.map (·.1) then ∀ a tie, (n, a, tie) ∈ W.ties → Q (.ref a) H else E (.ref t.c_NoTie) none H
def GoodN (l : List Nat) : Prop := 1 ≤ l.length ∧ l.length ≤ 12 ∧ ∀ x ∈ l, x ∈ abc
def NamesAt (H : Hp) (p : Addr) (ns : List (List Nat)) : Prop := H p = some (.lst (ns.map fun l => .str (tx l))) ∧ ns.length = 4 ∧ ∀ l ∈ ns, GoodN l
def halfB (n : Int) : Prop := n.natAbs ≤ 500000000000000000000000000000000000000000000000000000000000
structure StpW (s : Stp) : Prop where
  nm : GoodN s.nm
  wt : s.wt.natAbs < 10 ^ 60
def sp_l_cell_at (K : PySem.W.Frag) : Sp := fun vs H Q _ => ∃ (a : Addr) (ns : List Int) (k : Int), vs = [.ref a, .int k] ∧ SqL K H a (ns.map V.int) ∧ 0 ≤ k ∧ ∀ c, Q (.int c) H
def sp_l_mixed : Sp := fun vs H Q _ => ∃ c, vs = [.int c] ∧ ∀ m : Int, 0 ≤ m → m < 2147483629 → Q (.int m) H
def sp_l_names : Sp := fun vs H Q _ => ∃ c, vs = [.int c] ∧ ∀ p H' ns, H p = none → Same H H' → NamesAt H' p ns → Q (.ref p) H'
def sp_l_base : Sp := fun vs H Q _ => ∃ c, vs = [.int c] ∧ ∀ n : Int, halfB n → Q (.int n) H
def sp_l_number : Sp := fun vs H Q _ => ∃ c t b, vs = [.int c, .int t, .int b] ∧ halfB b ∧ ∀ n : Int, n.natAbs < 10 ^ 60 → Q (.int n) H
def sp_l_mark_by : Sp := fun vs H Q _ => ∃ c a ns b, vs = [.int c, .ref a, .int b] ∧ NamesAt H a ns ∧ halfB b ∧ ∀ m p H', MrkW m → H p = none → Same H H' → H' p = some (.tup (mkV m)) → Q (.ref p) H'
def sp_weight_meets : Sp := fun vs H Q _ => ∃ w sg n, vs = [.int w, .str (tx sg), .int n] ∧ Q (.bl (meetC w sg n)) H
def sp_fits : Sp := fun vs H Q _ => ∃ a b m sp, vs = [.ref a, .ref b] ∧ H a = some (.tup (mkV m)) ∧ H b = some (.tup (stV sp)) ∧ Q (.bl (fitC m sp)) H
def sp_l_whole : Sp := fun vs H Q _ => ∃ n : Int, vs = [.int n] ∧ Q (.bl true) H
theorem good_of {l : Nm} (h : GoodN l) : goodC l = true := by
  unfold goodC
  rw [Bool.and_eq_true, decide_eq_true_eq, List.all_eq_true]
  exact ⟨⟨h.1, h.2.1⟩, fun x hx => decide_eq_true (h.2.2 x hx)⟩
def sp_l_things : Sp := fun vs H Q _ => ∃ (c n : Int), vs = [.int c, .int n] ∧ 0 ≤ n ∧ n ≤ 12 ∧ ∀ q H' (ls : List Nm), H q = none → Same H H' → H' q = some (.lst (ls.map fun l => .str (tx l))) → ls.length = n.toNat → ls.Nodup → (∀ l ∈ ls, GoodN l) → Q (.ref q) H'
structure Made (t : Ad) (H0 H : Hp) (pw pt : Addr) (W : WS) (rs : List (Int × Addr × Tie)) (ts : List Nm) : Prop where
  web : WebAt t.c_Web H pw W
  rows : RowsAt H pt rs
  own : ∀ b ∈ W.own pw, H0 b = none
  pn : H0 pt = none
  po : pt ∉ W.own pw
  old : Same H0 H
  nms : W.abs.names = ts
  eq : plain rs = W.abs.ties
  ris : (rs.map (·.1)).Pairwise (· < ·)
  low : ∀ x ∈ rs.map (·.1), 0 ≤ x ∧ x < W.next
  tie : ∀ x ∈ rs, x.2.2.start ∈ ts ∧ x.2.2.stop ∈ ts ∧ TieOk x.2.2
  few : rs.length ≤ 63
theorem Made.same {t : Ad} {H0 H H' : Hp} {pw pt : Addr} {W : WS} {rs : List (Int × Addr × Tie)} {ts : List Nm} (n : Made t H0 H pw pt W rs ts) (s : Same H H') : Made t H0 H' pw pt W rs ts := ⟨n.web.same s, n.rows.same s, n.own, n.pn, n.po, n.old.trans s, n.nms, n.eq, n.ris, n.low, n.tie, n.few⟩
theorem Made.goes {t : Ad} {H0 H H2 : Hp} {pw pt : Addr} {W W2 : WS} {rs rs2 : List (Int × Addr × Tie)} {ts : List Nm} (n : Made t H0 H pw pt W rs ts) (s : L2.Step H (W.own pw) H2 (W2.own pw)) (w2 : WebAt t.c_Web H2 pw W2) (tups : ∀ x ∈ rs2, H2 x.2.1 = some (.tup (tieV x.2.2))) (nms : W2.abs.names = ts) (eq : L2.plain rs2 = W2.abs.ties) (ris : (rs2.map (·.1)).Pairwise (· < ·)) (low : ∀ x ∈ rs2.map (·.1), 0 ≤ x ∧ x < W2.next)
    (tie : ∀ x ∈ rs2, x.2.2.start ∈ ts ∧ x.2.2.stop ∈ ts ∧ TieOk x.2.2) (few : rs2.length ≤ 63) : Made t H0 (upd H2 pt (.dK (kvTies rs2))) pw pt W2 rs2 ts := by
  have p2 : H2 pt = some (.dK (kvTies rs)) := s.off _ _ n.po n.rows.at_
  have po2 : pt ∉ W2.own pw := s.apart n.po n.rows.at_
  have ntup : ∀ b (xs : List V), H2 b = some (.tup xs) → b ≠ pt := fun b xs e z => by
    rw [z, p2] at e
    cases e
  refine ⟨w2.keep (fun b o hb e => ?_) (fun b xs e => (upd_ne (ntup b xs e)).trans e), ⟨upd_same, fun x hx => (upd_ne (ntup _ _ (tups x hx))).trans (tups x hx)⟩, fun b hb => ?_, n.pn, po2, fun b o e => ?_, nms, eq, ris, low, tie, few⟩
  · rw [upd_ne (fun z => po2 (by rw [← z]; exact hb))]
    exact e
  · rcases s.own b hb with z | z
    · exact n.own b z
    · exact n.old.free z
  · rw [upd_ne (ne_of_none e n.pn)]
    exact s.off b o (fun z => (by rw [n.own b z] at e; cases e)) (n.old _ _ e)
def sp_l_web_by (t : Ad) : Sp := fun vs H Q _ => ∃ (lc lt ln : Addr) (b : Int) (cs : List Int) (ts : List Nm) (ns : List (List Nat)), vs = [.ref lc, .ref lt, .ref ln, .int b] ∧ H lc = some (.lst (cs.map V.int)) ∧ cs.length ≤ 63 ∧ H lt = some (.lst (ts.map fun l => .str (tx l))) ∧ ts ≠ [] ∧ ts.length ≤ 12 ∧ ts.Nodup ∧ (∀ l ∈ ts, GoodN l) ∧ NamesAt H ln ns ∧ halfB b ∧
  ∀ p pw pt H' W rs, Made t H H' pw pt W rs ts → H' p = some (.tup [.ref pw, .ref pt]) → H p = none → Q (.ref p) H'
def sp_gone_step : Sp := fun vs H Q _ => ∃ (a : Addr) (t : Tie) (b : Bool), vs = [.ref a, .bl b] ∧ H a = some (.tup (tieV t)) ∧ ∀ p, H p = none → Q (.ref p) (upd H p (.tup (stV ⟨t.name, t.weight, b⟩)))
def sp_gone_from : Sp := fun vs H Q _ => ∃ (a : Addr) (t : Tie) (b : Bool), vs = [.ref a, .bl b] ∧ H a = some (.tup (tieV t)) ∧ Q (.str (tx (goneF t b))) H
def sp_gone_to : Sp := fun vs H Q _ => ∃ (a : Addr) (t : Tie) (b : Bool), vs = [.ref a, .bl b] ∧ H a = some (.tup (tieV t)) ∧ Q (.str (tx (goneT t b))) H
def Goes (W : WS) (b : Bool) (k : Nm) (num : Int) (to : Nm) : Prop := ∃ a tie, (num, a, tie) ∈ W.ties ∧ goneF tie b = k ∧ goneT tie b = to
def sp_moves_by (t : Ad) : Sp := fun vs H Q _ => ∃ (p mk : Addr) (W : WS) (m : Mrk), vs = [.ref p, .ref mk] ∧ WebAt t.c_Web H p W ∧ W.ties.length ≤ 63 ∧ H mk = some (.tup (mkV m)) ∧ ∀ d H' kvs, H d = none → Same H H' → MvK H H' d 63 63 (Goes W m.back) kvs → Q (.ref d) H'
def sp_book (t : Ad) : Sp := fun vs H Q _ => ∃ (p a : Addr) (W : WS) (M : Mch) (st : Nm), vs = [.ref p, .ref a, .str (tx st)] ∧ WebAt t.c_Web H p W ∧ st ∈ W.vals.map (·.1) ∧ W.ties.length ≤ 63 ∧ (∀ x ∈ W.ties, x.2.2.start ∈ W.vals.map (·.1) ∧ x.2.2.stop ∈ W.vals.map (·.1)) ∧ MchAt H a M ∧ MchOk M ∧
  ∀ q H' es, H q = none → Same H H' → EntsAt H' q es → BookOk M.mks (Goes W) st es → es.length ≤ 2500 → (∀ e ∈ es, e.th ∈ W.vals.map (·.1)) → Q (.ref q) H'
def sp_way_in : Sp := fun vs H Q _ => ∃ (a q : Addr) (M : Mch) (st : Nm) (good : Bool → Nm → Int → Nm → Prop) (es : List En) (k : Nat), vs = [.ref a, .ref q, .int k] ∧ MchAt H a M ∧ MchOk M ∧ EntsAt H q es ∧ BookOk M.mks good st es ∧ es.length ≤ 2500 ∧ k < es.length ∧
  ∀ l H', H l = none → Same H H' → WaysAt H' l ((lineC es es.length k).map (stepC M.mks es)).reverse → Q (.ref l) H'
def sp_ends_in : Sp := fun vs H Q _ => ∃ (a q : Addr) (M : Mch) (st : Nm) (good : Bool → Nm → Int → Nm → Prop) (es : List En), vs = [.ref a, .ref q] ∧ MchAt H a M ∧ MchOk M ∧ EntsAt H q es ∧ BookOk M.mks good st es ∧ es.length ≤ 2500 ∧
  ∀ l H', H l = none → Same H H' → PairsAt H' l (endsC M.ends es 0 []) → Q (.ref l) H'
def sp_l_rooms_by : Sp := fun vs H Q _ => ∃ (c n : Int) (b : Bool), vs = [.int c, .int n, .bl b] ∧ 0 ≤ n ∧ n ≤ 50 ∧ ∀ q H' (l : List Int), H q = none → Same H H' → H' q = some (.lst (l.map V.int)) → (∀ r ∈ l, 1 ≤ r ∧ r ≤ n) → l.length ≤ 100 → Q (.ref q) H'
def sp_l_made_by (K : PySem.W.Frag) : Sp := fun vs H Q _ => ∃ (sc nm : Addr) (cs : List Int) (n : Int) (b : Bool) (ns : List (List Nat)) (bs : Int), vs = [.ref sc, .int n, .bl b, .ref nm, .int bs] ∧ SqL K H sc (cs.map V.int) ∧ 1 ≤ n ∧ n ≤ 24 ∧ NamesAt H nm ns ∧ halfB bs ∧ ∀ p H' M, H p = none → Same H H' → MchAt H' p M → MchOk M → Q (.ref p) H'
def lineI (es : List En) (k : Nat) : List V := (lineC es es.length k).reverse.map fun (n : Nat) => V.int n
def sp_l_line : Sp := fun vs H Q _ => ∃ (q : Addr) (mks : List Mrk) (good : Bool → Nm → Int → Nm → Prop) (st : Nm) (es : List En) (k : Nat), vs = [.ref q, .int k] ∧ EntsAt H q es ∧ BookOk mks good st es ∧ es.length ≤ 2500 ∧ k < es.length ∧ ∀ l H', H l = none → Same H H' → H' l = some (.lst (lineI es k)) → Q (.ref l) H'
def GoesR (rs : List (Int × Addr × Tie)) (b : Bool) (k : Nm) (num : Int) (to : Nm) : Prop := ∃ a tie, (num, a, tie) ∈ rs ∧ goneF tie b = k ∧ goneT tie b = to
def sp_l_led : Sp := fun vs H Q _ => ∃ (wl q a pt : Addr) (M : Mch) (st : Nm) (es : List En) (k : Nat) (rs : List (Int × Addr × Tie)), vs = [.ref wl, .ref q, .int k, .ref a, .ref pt] ∧ WaysAt H wl ((lineC es es.length k).map (stepC M.mks es)).reverse ∧ EntsAt H q es ∧ BookOk M.mks (GoesR rs) st es ∧ es.length ≤ 2500 ∧ k < es.length ∧ MchAt H a M ∧ MchOk M ∧ RowsAt H pt rs ∧ (rs.map (·.1)).Nodup ∧ ∀ H', Same H H' → Q (.bl true) H'
def sp_l_ends : Sp := fun vs H Q _ => ∃ (q a : Addr) (M : Mch) (st : Nm) (good : Bool → Nm → Int → Nm → Prop) (es : List En), vs = [.ref q, .ref a] ∧ EntsAt H q es ∧ BookOk M.mks good st es ∧ es.length ≤ 2500 ∧ MchAt H a M ∧ MchOk M ∧ ∀ l H', H l = none → Same H H' → PairsAt H' l (endsC M.ends es 0 []) → Q (.ref l) H'
def sp_l_same : Sp := fun vs H Q _ => ∃ (a b : Addr) (m : List (Nm × Int)), vs = [.ref a, .ref b] ∧ PairsAt H a m ∧ PairsAt H b m ∧ (∀ y ∈ m, okT y.1) ∧ Q (.bl true) H
section
variable {P : Program} {w : World} {K : PySem.W.Frag} {mg : Str → Option Value} {base : Heap} {t : Ad}
theorem sc_good_name : FnScope ["text"] ["text"] (defScope s_good_name) := ⟨rfl, rfl, rfl, by decide +kernel, rfl, by decide +kernel, by decide +kernel⟩
theorem ok_good_name (T : Txt K mg t) : FnOk P w K mg base (CX1 P w) 1 t.a_good_name t.d_good_name ["text"] (sp_good_name) := by
  refine T.good_name.fn.okN sc_good_name (fun vs H Q E h => ?_) (fun cdv A outer s H vs Q E hr h => ?_)
  · obtain ⟨l, rfl, hz, k⟩ := h
    rfl
  · obtain ⟨l, rfl, hz, k⟩ := h
    refine ⟨_, Bx.un (bpss_one (bps_ret (bpe_and (bpe_betw bpe_int (bpe_callB call_len_str (by rfl) T.b_len PySem.boot_len (bpa_cons (bpv 0) bpa_nil)) (bpe_const T.c_MOST_LETTERS)) (bpe_one (bpe_callB (call_all rfl) (by rfl) T.b_all PyProof.Rows.boot_all (bpa_cons (bpe_comp rfl (N := ["sign"]) (fr := []) (CSc.of (by kernel_rfl)) (bpi_str (bpv 0)) (fun _ _ _ _ _ => bpts_nil)
        (fun _ _ _ _ _ => (bpe_cmpR op_in1 (bpv 0) (bpe_const T.c_LETTERS) (by with_unfolding_all rfl)))) bpa_nil)))))), ?_⟩
    walk_at "rd"
    refine ⟨hz, ?_⟩
    split
    · rename_i h1
      have h1' : 1 ≤ l.length ∧ l.length ≤ 12 := by
        simp only [Bool.and_eq_true, decide_eq_true_eq] at h1
        omega
      refine rd_all (cs := abc) l rfl hz (fun c H2 Q2 _ h => ⟨_, rfl, c, rfl, _, rfl, by rw [tx_list]; exact h⟩) fun H2 s2 => ?_
      have e : goodC l = l.all fun c => decide (c ∈ abc) := by
        unfold goodC
        rw [decide_eq_true h1', Bool.true_and]
      rw [← e]
      exact k H2 s2
    · rename_i h1
      have e : goodC l = false := by
        unfold goodC
        rw [decide_eq_false (fun z => h1 (by simp only [Bool.and_eq_true, decide_eq_true_eq]; omega)), Bool.false_and]
      rw [← e]
      exact k H (Same.refl _)
theorem sc_check_name : FnScope ["name"] ["name"] (defScope s_check_name) := ⟨rfl, rfl, rfl, by decide +kernel, rfl, by decide +kernel, by decide +kernel⟩
theorem ok_check_name (T : Txt K mg t) : FnOk P w K mg base (CX1 P w) 2 t.a_check_name t.d_check_name ["name"] (sp_check_name t) := by
  have G_good_name := (ok_good_name (P := P) (w := w) (base := base) T).mono (show 1 ≤ 1 by decide)
  refine T.check_name.fn.okX sc_check_name (fun vs H Q E h => ?_) (fun cdv A outer s H vs Q E hr h => ?_)
  · obtain ⟨l, rfl, hz, k⟩ := h
    rfl
  · obtain ⟨l, rfl, hz, k⟩ := h
    refine ⟨_, Bx.un (bpss_one (bps_if (bpt_not (bpt_val (bpe_fnx T.good_name G_good_name hr pass1 (bpa_cons (bpv 0) bpa_nil))))
      (bpss_one (bps_raise (T.xc_NoName) raises1 rfl bpe_str))
      bpss_nil)), ?_⟩
    walk_at "rd"
    exact ⟨l, rfl, hz, fun H2 s2 => ⟨_, rfl, k H2 s2⟩⟩
theorem sc_Web_init : FnScope ["self"] ["self"] (defScope s_Web_init) := ⟨rfl, rfl, rfl, by decide +kernel, rfl, by decide +kernel, by decide +kernel⟩
theorem ok_Web_init (T : Txt K mg t) : FnOk P w K mg base (CX1 P w) 1 t.a_Web_init t.d_Web_init ["self"] (sp_Web_init t) := by
  refine T.Web_init.fn.okN sc_Web_init (fun vs H Q E h => ?_) (fun cdv A outer s H vs Q E hr h => ?_)
  · obtain ⟨p, dx, rfl, hp, k⟩ := h
    rfl
  · obtain ⟨p, dx, rfl, hp, k⟩ := h
    refine ⟨_, Bx.un (bpss_cons (bps_fld (bpv 0) bpe_dnewK)
      (bpss_cons (bps_fld (bpv 0) bpe_dnewK)
      (bpss_one (bps_fld (bpv 0) bpe_int)))), ?_⟩
    walk_at "rd"
    intro d1 h1
    have n1 : p ≠ d1 := ne_of_none hp h1
    refine ⟨_, _, _, by rw [upd_ne n1]; exact hp, T.o_Web, T.na_kept_values, by simp, fun d2 h2 => ?_⟩
    have n2 : d2 ≠ p := fun z => by
      rw [z, upd_same] at h2
      cases h2
    rw [upd_ne n2] at h2
    have n3 : d2 ≠ d1 := fun z => by
      rw [z, upd_same] at h2
      cases h2
    rw [upd_ne n3] at h2
    refine ⟨_, _, _, by rw [upd_ne n2.symm]; exact upd_same, T.o_Web, T.na_kept_ties, Nat.lt_of_le_of_lt (length_putF _ _ _) (by decide), _, _, _, upd_same, T.o_Web, T.na_coming_number, Nat.lt_of_le_of_lt (Nat.le_trans (length_putF _ _ _) (Nat.succ_le_succ (length_putF _ _ _))) (by decide), ?_⟩
    refine k _ ⟨dx, d1, d2, [], [], 0⟩ ⟨upd_same, ?_, ?_, fun x hx => absurd hx (by simp), fun x hx => absurd hx (by simp), ?_, by simp, by simp, by simp, by simp⟩ rfl rfl rfl (fun b o hb e => ?_) fun b hb => ?_
    · show upd _ p _ d1 = _
      rw [upd_ne n1.symm, upd_ne n1.symm, upd_ne n3.symm, upd_ne n1.symm, upd_same]
      rfl
    · show upd _ p _ d2 = _
      rw [upd_ne n2, upd_ne n2, upd_same]
      rfl
    · simpa using n3.symm
    · rw [upd_ne hb, upd_ne hb, upd_ne (ne_of_none e h2), upd_ne hb, upd_ne (ne_of_none e h1)]
      exact e
    · simp only [WS.own, List.mem_cons, List.map_nil, List.not_mem_nil, or_false] at hb
      rcases hb with rfl | rfl | rfl
      · exact .inl rfl
      · exact .inr h1
      · exact .inr h2
theorem sc_Web_check_thing : FnScope ["self", "name"] ["self", "name"] (defScope s_Web_check_thing) := ⟨rfl, rfl, rfl, by decide +kernel, rfl, by decide +kernel, by decide +kernel⟩
theorem ok_Web_check_thing (T : Txt K mg t) : FnOk P w K mg base (CX1 P w) 1 t.a_Web_check_thing t.d_Web_check_thing ["self", "name"] (sp_Web_check_thing t) := by
  refine T.Web_check_thing.fn.okX sc_Web_check_thing (fun vs H Q E h => ?_) (fun cdv A outer s H vs Q E hr h => ?_)
  · obtain ⟨p, W, l, rfl, hw, k⟩ := h
    rfl
  · obtain ⟨p, W, l, rfl, hw, k⟩ := h
    refine ⟨_, Bx.un (bpss_one (bps_if (bpt_cmp (bpc_dnotin (hu_of hr) (bpv 1) (bpe_fldA (bpv 0))))
      (bpss_one (bps_raise (T.xc_NoThing) raises1 rfl bpe_str))
      bpss_nil)), ?_⟩
    walk_at "rd"
    refine ⟨_, _, _, hw.obj, T.o_Web, T.na_kept_values, _, rfl, _, rfl, _, DGet.k (k := .inr (tx l)) hw.val, ?_⟩
    rw [vals_isSome]
    by_cases h : l ∈ W.vals.map (·.1)
    · rw [if_pos h] at k
      rw [decide_eq_true h]
      exact k
    · rw [if_neg h] at k
      rw [decide_eq_false h]
      exact k
theorem sc_Web_add_thing : FnScope ["self", "name"] ["self", "name"] (defScope s_Web_add_thing) := ⟨rfl, rfl, rfl, by decide +kernel, rfl, by decide +kernel, by decide +kernel⟩
theorem ok_Web_add_thing (T : Txt K mg t) : FnOk P w K mg base (CX1 P w) 3 t.a_Web_add_thing t.d_Web_add_thing ["self", "name"] (sp_Web_add_thing t) := by
  have G_check_name := (ok_check_name (P := P) (w := w) (base := base) T).mono (show 2 ≤ 2 by decide)
  refine T.Web_add_thing.fn.okX sc_Web_add_thing (fun vs H Q E h => ?_) (fun cdv A outer s H vs Q E hr h => ?_)
  · obtain ⟨p, W, l, rfl, hw, hz, k⟩ := h
    rfl
  · obtain ⟨p, W, l, rfl, hw, hz, k⟩ := h
    refine ⟨_, Bx.un (bpss_cons (bps_expr (bpe_fnx T.check_name G_check_name hr pass1 (bpa_cons (bpv 1) bpa_nil)))
      (bpss_cons (bps_if (bpt_cmp (bpc_din (hu_of hr) (bpv 1) (bpe_fldA (bpv 0))))
      (bpss_one (bps_raise (T.xc_Twice) raises1 rfl bpe_str))
      bpss_nil)
      (bpss_cons (bps_if (bpt_cmpR op_ge (bpe_callB call_lenD (by rfl) T.b_len PySem.boot_len (bpa_cons (bpe_fldA (bpv 0)) bpa_nil)) (bpe_const T.c_MOST_THINGS) (nomark _))
      (bpss_one (bps_raise (T.xc_Full) raises1 rfl bpe_str))
      bpss_nil)
      (bpss_one (bps_dput (hu_of hr) (bpe_fldA (bpv 0)) (bpv 1) bpe_dnewK))))), ?_⟩
    walk_at "rd"
    refine ⟨l, rfl, hz, fun H1 s1 => ?_⟩
    unfold WA.addThing at k
    rw [names_abs] at k
    cases hg : goodC l with
    | false =>
      rw [if_pos hg] at k
      exact k H1 s1
    | true =>
      rw [if_neg (by rw [hg]; simp)] at k
      have w1 := hw.same s1
      refine ⟨_, _, _, w1.obj, T.o_Web, T.na_kept_values, _, rfl, _, rfl, _, DGet.k (k := .inr (tx l)) w1.val, ?_⟩
      rw [vals_isSome]
      by_cases h : l ∈ W.vals.map (·.1)
      · rw [if_pos h] at k
        rw [decide_eq_true h, if_pos rfl]
        exact k H1 s1
      · rw [if_neg h] at k
        rw [decide_eq_false h, if_neg Bool.false_ne_true]
        refine ⟨_, _, _, w1.obj, T.o_Web, T.na_kept_values, _, rfl, _, rfl, _, w1.val, ?_⟩
        have el : W.abs.things.length = W.vals.length := by
          unfold WS.abs
          rw [List.length_map]
        have el2 : (kvVals W.vals).length = W.vals.length := by
          unfold kvVals
          rw [List.length_map]
        rw [el] at k
        rw [el2]
        by_cases h100 : 100 ≤ W.vals.length
        · rw [if_pos h100] at k
          rw [if_pos (by omega)]
          exact k H1 s1
        · rw [if_neg h100] at k
          rw [if_neg (by omega)]
          intro d hd
          have nd : p ≠ d := ne_of_none w1.obj hd
          have ndv : W.dv ≠ d := ne_of_none w1.val hd
          refine ⟨_, _, _, by rw [upd_ne nd]; exact w1.obj, T.o_Web, T.na_kept_values, _, rfl, _, rfl, _, DPut.k (k := .inr (tx l)) (by rw [upd_ne ndv]; exact w1.val) (by rw [el2]; exact Nat.lt_of_lt_of_le (show W.vals.length < 100 by omega) (sz_of (by decide))), ?_⟩
          obtain ⟨w2, st⟩ := w1.added hd h (by omega)
          refine k _ _ w2 ?_ ((Step.same s1).trans st)
          unfold WS.abs
          simp only [List.map_append, List.map_cons, List.map_nil]
theorem sc_Web_has_thing : FnScope ["self", "name"] ["self", "name"] (defScope s_Web_has_thing) := ⟨rfl, rfl, rfl, by decide +kernel, rfl, by decide +kernel, by decide +kernel⟩
theorem ok_Web_has_thing (T : Txt K mg t) : FnOk P w K mg base (CX1 P w) 1 t.a_Web_has_thing t.d_Web_has_thing ["self", "name"] (sp_Web_has_thing t) := by
  refine T.Web_has_thing.fn.okN sc_Web_has_thing (fun vs H Q E h => ?_) (fun cdv A outer s H vs Q E hr h => ?_)
  · obtain ⟨p, W, l, rfl, hw, k⟩ := h
    rfl
  · obtain ⟨p, W, l, rfl, hw, k⟩ := h
    refine ⟨_, Bx.un (bpss_one (bps_ret (bpe_cmp (bpc_din (hu_of hr) (bpv 1) (bpe_fldA (bpv 0)))))), ?_⟩
    walk_at "rd"
    refine ⟨_, _, _, hw.obj, T.o_Web, T.na_kept_values, _, rfl, _, rfl, _, DGet.k (k := .inr (tx l)) hw.val, ?_⟩
    rw [vals_isSome]
    exact k
theorem sc_few_figures : FnScope ["number"] ["number"] (defScope s_few_figures) := ⟨rfl, rfl, rfl, by decide +kernel, rfl, by decide +kernel, by decide +kernel⟩
theorem ok_few_figures (T : Txt K mg t) : FnOk P w K mg base (CX1 P w) 1 t.a_few_figures t.d_few_figures ["number"] (sp_few_figures) := by
  refine T.few_figures.fn.okN sc_few_figures (fun vs H Q E h => ?_) (fun cdv A outer s H vs Q E hr h => ?_)
  · obtain ⟨n, rfl, k⟩ := h
    rfl
  · obtain ⟨n, rfl, k⟩ := h
    refine ⟨_, Bx.un (bpss_one (bps_ret (bpe_cmpR op_lt (bpe_callB call_abs (by rfl) T.b_abs PyProof.Rows.boot_abs (bpa_cons (bpv 0) bpa_nil)) (bpe_op op_pow bpe_int bpe_int) (nomark _)))), ?_⟩
    walk_at "rd"
    have big : (10 : Nat) ^ 60 = 1000000000000000000000000000000000000000000000000000000000000 := by decide
    have e : decide ((if n < 0 then -n else n) < (1000000000000000000000000000000000000000000000000000000000000 : Int)) = decide (n.natAbs < 10 ^ 60) := by
      rw [decide_eq_decide, big]
      split <;> omega
    rw [e]
    exact ⟨by decide, k⟩
theorem sc_check_number : FnScope ["number"] ["number"] (defScope s_check_number) := ⟨rfl, rfl, rfl, by decide +kernel, rfl, by decide +kernel, by decide +kernel⟩
theorem ok_check_number (T : Txt K mg t) : FnOk P w K mg base (CX1 P w) 2 t.a_check_number t.d_check_number ["number"] (sp_check_number t) := by
  have G_few_figures := (ok_few_figures (P := P) (w := w) (base := base) T).mono (show 1 ≤ 1 by decide)
  refine T.check_number.fn.okX sc_check_number (fun vs H Q E h => ?_) (fun cdv A outer s H vs Q E hr h => ?_)
  · obtain ⟨n, rfl, k⟩ := h
    rfl
  · obtain ⟨n, rfl, k⟩ := h
    refine ⟨_, Bx.un (bpss_one (bps_if (bpt_not (bpt_val (bpe_fnx T.few_figures G_few_figures hr pass1 (bpa_cons (bpv 0) bpa_nil))))
      (bpss_one (bps_raise (T.xc_NoNumber) raises1 rfl bpe_str))
      bpss_nil)), ?_⟩
    walk_at "rd"
    refine ⟨n, rfl, _, rfl, ?_⟩
    by_cases h : n.natAbs < 10 ^ 60
    · rw [if_pos h] at k
      exact ite_F (by rw [decide_eq_true h]; decide) k
    · rw [if_neg h] at k
      exact ite_T (decide_eq_false h) k
theorem sc_Web_check_tie : FnScope ["self", "number"] ["self", "number"] (defScope s_Web_check_tie) := ⟨rfl, rfl, rfl, by decide +kernel, rfl, by decide +kernel, by decide +kernel⟩
theorem ok_Web_check_tie (T : Txt K mg t) : FnOk P w K mg base (CX1 P w) 1 t.a_Web_check_tie t.d_Web_check_tie ["self", "number"] (sp_Web_check_tie t) := by
  refine T.Web_check_tie.fn.okX sc_Web_check_tie (fun vs H Q E h => ?_) (fun cdv A outer s H vs Q E hr h => ?_)
  · obtain ⟨p, W, n, rfl, hw, k⟩ := h
    rfl
  · obtain ⟨p, W, n, rfl, hw, k⟩ := h
    refine ⟨_, Bx.un (bpss_one (bps_if (bpt_cmp (bpc_dnotin (hu_of hr) (bpv 1) (bpe_fldA (bpv 0))))
      (bpss_one (bps_raise (T.xc_NoTie) raises1 rfl bpe_str))
      bpss_nil)), ?_⟩
    walk_at "rd"
    refine ⟨_, _, _, hw.obj, T.o_Web, T.na_kept_ties, _, rfl, _, rfl, _, DGet.k (k := .inl n) hw.tie, ?_⟩
    rw [ties_isSome]
    by_cases h : n ∈ W.ties.map (·.1)
    · rw [if_pos h] at k
      rw [decide_eq_true h]
      exact k
    · rw [if_neg h] at k
      rw [decide_eq_false h]
      exact k
theorem sc_Web_cut_tie : FnScope ["self", "number"] ["self", "number"] (defScope s_Web_cut_tie) := ⟨rfl, rfl, rfl, by decide +kernel, rfl, by decide +kernel, by decide +kernel⟩
theorem ok_Web_cut_tie (T : Txt K mg t) : FnOk P w K mg base (CX1 P w) 2 t.a_Web_cut_tie t.d_Web_cut_tie ["self", "number"] (sp_Web_cut_tie t) := by
  have G_Web_check_tie := (ok_Web_check_tie (P := P) (w := w) (base := base) T).mono (show 1 ≤ 1 by decide)
  refine T.Web_cut_tie.fn.okX sc_Web_cut_tie (fun vs H Q E h => ?_) (fun cdv A outer s H vs Q E hr h => ?_)
  · obtain ⟨p, W, n, rfl, hw, k⟩ := h
    rfl
  · obtain ⟨p, W, n, rfl, hw, k⟩ := h
    refine ⟨_, Bx.un (bpss_cons (bps_expr (bpe_mx (bpv 0) T.o_Web T.Web_check_tie G_Web_check_tie hr pass1 (bpa_cons (bpv 1) bpa_nil)))
      (bpss_one (bps_expr (bpe_dpop1 (bpe_fldA (bpv 0)) (bpv 1))))), ?_⟩
    walk_at "rd"
    refine ⟨_, _, hw.obj, rfl, p, W, n, rfl, hw, ?_⟩
    have ea : W.abs.ties.map (·.1) = W.ties.map (·.1) := by
      unfold WS.abs
      rw [List.map_map]
      rfl
    unfold WA.cutTie at k
    rw [ea] at k
    by_cases h : n ∈ W.ties.map (·.1)
    · rw [if_neg (fun z => z h)] at k
      rw [if_pos h]
      have ks : (valV (kvTies W.ties) (.inl n)).isSome = true := by
        rw [ties_isSome, decide_eq_true h]
      obtain ⟨v, hv⟩ := Option.isSome_iff_exists.mp ks
      refine ⟨_, _, _, hw.obj, T.o_Web, T.na_kept_ties, _, rfl, _, rfl, .inl ⟨_, .inl hw.tie⟩, _, hw.tie, .inl n, rfl, _, hv, ?_⟩
      obtain ⟨w3, st⟩ := hw.cut (n := n)
      refine k _ _ w3 ?_ st
      unfold WS.abs
      simp only [List.filter_map]
      rfl
    · rw [if_pos h] at k
      rw [if_neg h]
      exact k H (Same.refl _)
theorem sc_Web_add_tie : FnScope ["self", "start", "name", "end", "weight", "number"] ["self", "start", "name", "end", "weight"] (defScope s_Web_add_tie) := ⟨rfl, rfl, rfl, by decide +kernel, rfl, by decide +kernel, by decide +kernel⟩
theorem ok_Web_add_tie (T : Txt K mg t) : FnOk P w K mg base (CX1 P w) 3 t.a_Web_add_tie t.d_Web_add_tie ["self", "start", "name", "end", "weight"] (sp_Web_add_tie t) := by
  have G_Web_check_thing := (ok_Web_check_thing (P := P) (w := w) (base := base) T).mono (show 1 ≤ 2 by decide)
  have G_check_name := (ok_check_name (P := P) (w := w) (base := base) T).mono (show 2 ≤ 2 by decide)
  have G_check_number := (ok_check_number (P := P) (w := w) (base := base) T).mono (show 2 ≤ 2 by decide)
  refine T.Web_add_tie.fn.okX sc_Web_add_tie (fun vs H Q E h => ?_) (fun cdv A outer s H vs Q E hr h => ?_)
  · obtain ⟨p, W, s, n, e, wt, rfl, hw, low, hz, k⟩ := h
    rfl
  · obtain ⟨p, W, s, n, e, wt, rfl, hw, low, hz, k⟩ := h
    refine ⟨_, Bx.un (bpss_cons (bps_expr (bpe_mx (bpv 0) T.o_Web T.Web_check_thing G_Web_check_thing hr pass1 (bpa_cons (bpv 1) bpa_nil)))
      (bpss_cons (bps_expr (bpe_mx (bpv 0) T.o_Web T.Web_check_thing G_Web_check_thing hr pass1 (bpa_cons (bpv 3) bpa_nil)))
      (bpss_cons (bps_expr (bpe_fnx T.check_name G_check_name hr pass1 (bpa_cons (bpv 2) bpa_nil)))
      (bpss_cons (bps_expr (bpe_fnx T.check_number G_check_number hr pass1 (bpa_cons (bpv 4) bpa_nil)))
      (bpss_cons (bps_if (bpt_cmpR op_ge (bpe_callB call_lenD (by rfl) T.b_len PySem.boot_len (bpa_cons (bpe_fldA (bpv 0)) bpa_nil)) (bpe_const T.c_MOST_TIES) (nomark _))
      (bpss_one (bps_raise (T.xc_Full) raises1 rfl bpe_str))
      bpss_nil)
      (bpss_cons (bps_set (i := 5) sc_Web_add_tie.nd rfl (by first | exact Or.inl rfl | exact Or.inr rfl) (bpe_fldA (bpv 0)))
      (bpss_cons (bps_dput (hu_of hr) (bpe_fldA (bpv 0)) (bpv 5) (bpe_tup (bpa_cons (bpv 1) (bpa_cons (bpv 2) (bpa_cons (bpv 3) (bpa_cons (bpv 4) bpa_nil))))))
      (bpss_cons (bps_fld (bpv 0) (bpe_op op_add (bpv 5) bpe_int))
      (bpss_one (bps_ret (bpv 5))))))))))), ?_⟩
    walk_at "rd"
    unfold WA.addTie at k
    rw [names_abs] at k
    refine ⟨_, _, hw.obj, rfl, p, W, s, rfl, hw, ?_⟩
    by_cases hs : s ∈ W.vals.map (·.1)
    · rw [if_pos hs]
      refine ⟨_, _, hw.obj, rfl, p, W, e, rfl, hw, ?_⟩
      by_cases he : e ∈ W.vals.map (·.1)
      · rw [if_pos he]
        rw [if_neg (fun z => z.elim (fun y => y hs) (fun y => y he))] at k
        refine ⟨n, rfl, hz, fun H1 s1 => ?_⟩
        cases hg : goodC n with
        | false =>
          rw [if_pos hg] at k
          exact k H1 s1
        | true =>
          rw [if_neg (by rw [hg]; simp)] at k
          rw [if_neg (by simp)]
          refine ⟨wt, rfl, ?_⟩
          by_cases hn : wt.natAbs < 10 ^ 60
          · rw [if_neg (by omega)] at k
            rw [if_pos hn]
            have w1 := hw.same s1
            have el : W.abs.ties.length = W.ties.length := by
              unfold WS.abs
              rw [List.length_map]
            have el2 : (kvTies W.ties).length = W.ties.length := by
              unfold kvTies
              rw [List.length_map]
            rw [el] at k
            refine ⟨_, _, _, w1.obj, T.o_Web, T.na_kept_ties, _, rfl, _, rfl, _, w1.tie, ?_⟩
            rw [el2]
            by_cases h400 : 400 ≤ W.ties.length
            · rw [if_pos h400] at k
              exact ite_T (by omega) (k H1 s1)
            · rw [if_neg h400] at k
              refine ite_F (by omega) ⟨_, _, _, w1.obj, T.o_Web, T.na_coming_number, _, rfl, ?_⟩
              refine ⟨by decide, fun a ha => ?_⟩
              have np : p ≠ a := ne_of_none w1.obj ha
              have nt : W.dt ≠ a := ne_of_none w1.tie ha
              have hl : W.next ∉ W.ties.map (·.1) := fun z => by
                have := low _ z
                omega
              obtain ⟨w2, st⟩ := w1.tied (t := ⟨s, n, e, wt⟩) ha hl (by omega)
              refine ⟨_, _, _, by rw [upd_ne np]; exact w1.obj, T.o_Web, T.na_kept_ties, _, rfl, _, rfl, _, DPut.k (k := .inl W.next) (by rw [upd_ne nt]; exact w1.tie) (by rw [el2]; exact Nat.lt_of_lt_of_le (show W.ties.length < 400 by omega) (sz_of (by decide))), _, rfl, _, _, _, by rw [upd_ne w1.pdt.symm, upd_ne np]; exact w1.obj, T.o_Web, T.na_coming_number, by show 3 < 1000; decide, ?_⟩
              rw [putF_next]
              refine k _ _ w2 ?_ ((Step.same s1).trans st)
              unfold WS.abs
              simp only [List.map_append, List.map_cons, List.map_nil]
          · rw [if_pos (by omega)] at k
            rw [if_neg hn]
            exact k H1 s1
      · rw [if_neg he]
        rw [if_pos (.inr he)] at k
        exact k H (Same.refl _)
    · rw [if_neg hs]
      rw [if_pos (.inl hs)] at k
      exact k H (Same.refl _)
theorem sc_Web_ties : FnScope ["self"] ["self"] (defScope s_Web_ties) := ⟨rfl, rfl, rfl, by decide +kernel, rfl, by decide +kernel, by decide +kernel⟩
theorem ok_Web_ties (T : Txt K mg t) : FnOk P w K mg base (CX1 P w) 1 t.a_Web_ties t.d_Web_ties ["self"] (sp_Web_ties t) := by
  refine T.Web_ties.fn.okN sc_Web_ties (fun vs H Q E h => ?_) (fun cdv A outer s H vs Q E hr h => ?_)
  · obtain ⟨p, W, rfl, hw, k⟩ := h
    rfl
  · obtain ⟨p, W, rfl, hw, k⟩ := h
    refine ⟨_, Bx.un (bpss_one (bps_ret (bpe_callTy (call_list_dict rfl) (by rfl) T.b_list PyProof.Rows.boot_list (bpa_cons (bpe_fldA (bpv 0)) bpa_nil)))), ?_⟩
    walk_at "rd"
    refine ⟨_, _, _, hw.obj, T.o_Web, T.na_kept_ties, _, rfl, _, rfl, _, .inl hw.tie, fun a ha => ?_⟩
    have e : (kvTies W.ties).map (fun kv => kV kv.1) = (W.ties.map (·.1)).map V.int := by
      unfold kvTies
      rw [List.map_map, List.map_map]
      rfl
    rw [e]
    exact k a ha
theorem sc_Web_tie : FnScope ["self", "number"] ["self", "number"] (defScope s_Web_tie) := ⟨rfl, rfl, rfl, by decide +kernel, rfl, by decide +kernel, by decide +kernel⟩
theorem ok_Web_tie (T : Txt K mg t) : FnOk P w K mg base (CX1 P w) 2 t.a_Web_tie t.d_Web_tie ["self", "number"] (sp_Web_tie t) := by
  have G_Web_check_tie := (ok_Web_check_tie (P := P) (w := w) (base := base) T).mono (show 1 ≤ 1 by decide)
  refine T.Web_tie.fn.okX sc_Web_tie (fun vs H Q E h => ?_) (fun cdv A outer s H vs Q E hr h => ?_)
  · obtain ⟨p, W, n, rfl, hw, k⟩ := h
    rfl
  · obtain ⟨p, W, n, rfl, hw, k⟩ := h
    refine ⟨_, Bx.un (bpss_cons (bps_expr (bpe_mx (bpv 0) T.o_Web T.Web_check_tie G_Web_check_tie hr pass1 (bpa_cons (bpv 1) bpa_nil)))
      (bpss_one (bps_ret (bpe_dgetA (hu_of hr) (bpe_fldA (bpv 0)) (bpv 1))))), ?_⟩
    walk_at "rd"
    refine ⟨_, _, hw.obj, rfl, p, W, n, rfl, hw, ?_⟩
    by_cases h : n ∈ W.ties.map (·.1)
    · rw [if_pos h] at k ⊢
      obtain ⟨⟨n', a, tie⟩, hx, e⟩ := List.mem_map.mp h
      have e' : n' = n := e
      subst e'
      exact ⟨_, _, _, hw.obj, T.o_Web, T.na_kept_ties, _, rfl, _, rfl, _, get_tie (.inl hw.tie) hw.nums hx, k a tie hx⟩
    · rw [if_neg h] at k ⊢
      exact k
theorem sc_l_cell_at : FnScope ["script", "k"] ["script", "k"] (defScope s_l_cell_at) := ⟨rfl, rfl, rfl, by decide +kernel, rfl, by decide +kernel, by decide +kernel⟩
theorem ok_l_cell_at (T : Txt K mg t) : FnOk P w K mg base (CX1 P w) 1 t.a_l_cell_at t.d_l_cell_at ["script", "k"] (sp_l_cell_at K) := by
  refine T.l_cell_at.fn.okN sc_l_cell_at (fun vs H Q E h => ?_) (fun cdv A outer s H vs Q E hr h => ?_)
  · obtain ⟨a, ns, k0, rfl, hs, h0, k⟩ := h
    rfl
  · obtain ⟨a, ns, k0, rfl, hs, h0, k⟩ := h
    refine ⟨_, Bx.un (bpss_cons (bps_if (bpt_cmpR op_lt (bpv 1) (bpe_callB call_len_seq (by rfl) T.b_len PySem.boot_len (bpa_cons (bpv 0) bpa_nil)) (nomark _))
      (bpss_one (bps_ret (bpe_ixA ix_list (bpv 0) (bpv 1))))
      bpss_nil)
      (bpss_one (bps_ret bpe_int))), ?_⟩
    walk_at "rd"
    refine ⟨_, .inl hs, ?_⟩
    rw [List.length_map]
    split
    · rename_i h
      obtain ⟨v, e1, e2⟩ := atI_in (xs := ns.map V.int) h0 (by rw [List.length_map]; exact h)
      obtain ⟨z, _, rfl⟩ := map_get e2
      exact ⟨a, _, _, _, rfl, rfl, hs, e1, k z⟩
    · exact k 0
theorem sc_l_mixed : FnScope ["cell"] ["cell"] (defScope s_l_mixed) := ⟨rfl, rfl, rfl, by decide +kernel, rfl, by decide +kernel, by decide +kernel⟩
theorem ok_l_mixed (T : Txt K mg t) : FnOk P w K mg base (CX1 P w) 1 t.a_l_mixed t.d_l_mixed ["cell"] (sp_l_mixed) := by
  refine T.l_mixed.fn.okN sc_l_mixed (fun vs H Q E h => ?_) (fun cdv A outer s H vs Q E hr h => ?_)
  · obtain ⟨c, rfl, k⟩ := h
    rfl
  · obtain ⟨c, rfl, k⟩ := h
    refine ⟨_, Bx.un (bpss_one (bps_ret (bpe_op op_mod (bpe_op op_add (bpe_op op_mul (bpe_op op_mod (bpv 0) (bpe_op op_pow bpe_int bpe_int)) bpe_int) bpe_int) bpe_int))), ?_⟩
    walk_at "rd"
    refine ⟨by decide, .inr ⟨by decide, by decide⟩, ?_⟩
    generalize c % 1000000000000000000000000000000000000000000000000000000000000 * 48271 + 12345 = z
    exact k _ (by omega) (by omega)
theorem sc_l_names : FnScope ["cell", "letters", "spread", "size", "base", "at", "names", "turn", "row"] ["cell"] (defScope s_l_names) := ⟨rfl, rfl, rfl, by decide +kernel, rfl, by decide +kernel, by decide +kernel⟩
theorem ok_l_names (T : Txt K mg t) : FnOk P w K mg base (CX1 P w) 1 t.a_l_names t.d_l_names ["cell"] (sp_l_names) := by
  refine T.l_names.fn.okN sc_l_names (fun vs H Q E h => ?_) (fun cdv A outer s H vs Q E hr h => ?_)
  · obtain ⟨c, rfl, k⟩ := h
    rfl
  · obtain ⟨c, rfl, k⟩ := h
    refine ⟨_, Bx.un (bpss_cons (bps_set (i := 1) sc_l_names.nd rfl (by first | exact Or.inl rfl | exact Or.inr rfl) bpe_str)
      (bpss_cons (bps_set (i := 2) sc_l_names.nd rfl (by first | exact Or.inl rfl | exact Or.inr rfl) (bpe_op op_mod (bpv 0) (bpe_op op_pow bpe_int bpe_int)))
      (bpss_cons (bps_set (i := 3) sc_l_names.nd rfl (by first | exact Or.inl rfl | exact Or.inr rfl) (bpe_op op_add bpe_int (bpe_op op_mod (bpv 2) bpe_int)))
      (bpss_cons (bps_setC (i := 4) sc_l_names.nd rfl (by first | exact Or.inl rfl | exact Or.inr rfl) rfl (N := ["k", "spread"]) (fr := [2]) (CSc.of (by kernel_rfl)) (bpi_range1 rfl T.b_range (bpa_cons (bpv 3) bpa_nil)) (fun _ _ _ _ _ => bpts_nil)
        (fun _ _ _ _ _ => (bpe_op op_mod (bpe_op op_add (bpe_op op_fdiv (bpv 1) bpe_int) (bpe_op op_mul (bpe_op op_mod (bpe_op op_fdiv (bpv 1) bpe_int) bpe_int) (bpv 0))) bpe_int)))
      (bpss_cons (bps_set (i := 5) sc_l_names.nd rfl (by first | exact Or.inl rfl | exact Or.inr rfl) (bpe_op op_mod (bpe_op op_fdiv (bpv 2) bpe_int) (bpv 3)))
      (bpss_cons (bps_set (i := 6) sc_l_names.nd rfl (by first | exact Or.inl rfl | exact Or.inr rfl) (bpe_lst bpa_nil))
      (bpss_cons (bps_for PassesOwn.never rfl (bpi_range1 rfl T.b_range (bpa_cons bpe_int bpa_nil)) (bpg_name (i := 7) sc_l_names.nd rfl (by first | exact Or.inl rfl | exact Or.inr rfl))
      (bpss_cons (bps_set (i := 8) sc_l_names.nd rfl (by first | exact Or.inl rfl | exact Or.inr rfl) (bpe_callTy call_list_of (by rfl) T.b_list PyProof.Rows.boot_list (bpa_cons (bpv 4) bpa_nil)))
      (bpss_cons (bps_asg (bpe_op op_mod (bpe_op op_add (bpe_ixA ix_list (bpv 4) (bpv 5)) (bpe_op op_mul (bpv 7) (bpe_op op_add bpe_int (bpe_op op_mod (bpe_op op_fdiv (bpv 2) bpe_int) bpe_int)))) bpe_int) (bpg_sub (bpv 8) (bpv 5) set_list))
      (bpss_one (bps_expr (bpe_bm PySem.F.plainAttrs_list PySem.F.slot_list_append PySem.F.type_list_append mt_append (bpv 6) (bpa_cons (bpe_bm PySem.F.plainAttrs_str PySem.F.slot_str_join PySem.F.type_str_join mt_join bpe_str (bpa_cons (bpe_comp rfl (N := ["k", "letters"]) (fr := [1]) (CSc.of (by kernel_rfl)) (bpi_list (bpv 8)) (fun _ _ _ _ _ => bpts_nil)
        (fun _ _ _ _ _ => (bpe_ixA ix_str (bpv 1) (bpv 0)))) bpa_nil)) bpa_nil)))))))
      (bpss_cons (bps_expr (bpe_bm PySem.F.plainAttrs_list PySem.F.slot_list_append PySem.F.type_list_append mt_append (bpv 6) (bpa_cons (bpe_op op_add_str (bpe_ixA ix_list (bpv 6) bpe_int) (bpe_ixA ix_str (bpv 1) (bpe_op op_mod (bpe_op op_fdiv (bpv 2) bpe_int) bpe_int))) bpa_nil)))
      (bpss_one (bps_ret (bpv 6))))))))))), ?_⟩
    walk_at "rs"
    refine seq_rule fun N hN => ?_
    walk_at "rd"
    refine hN _ _ ?_
    clear hN N
    refine seq_rule fun N hN => ?_
    walk_at "rd"
    refine ⟨by decide, hN _ _ ?_⟩
    clear hN N
    generalize c % 1000000000 = n
    refine seq_rule fun N hN => ?_
    walk_at "rd"
    refine hN _ _ ?_
    clear hN N
    obtain ⟨sz, hsz, z1, z2⟩ : ∃ sz : Int, 1 + n % 11 = sz ∧ 1 ≤ sz ∧ sz ≤ 11 := ⟨_, rfl, by omega, by omega⟩
    rw [hsz]
    refine seq_rule fun N hN => ?_
    walk_at "rd"
    refine ⟨_, rfl, _, rfl, by omega, by omega, comp_map (tells_range (n := sz.toNat)) (fun j => .int ((n / 121 + n / 3146 % 3 * (0 + (j : Int))) % 26)) (sz_of (by rw [List.length_range]; omega)) (fun j H2 Q2 _ _ h => ?_) fun bs H1 hbs s1 d1 => hN _ _ ?_⟩
    · walk_at "rd"
      exact ⟨.inl (by omega), h _ (Same.refl _)⟩
    clear hN N
    obtain ⟨js, e1, ljs, ojs⟩ : ∃ js : List Int, H1 bs = some (.lst (js.map V.int)) ∧ js.length = sz.toNat ∧ ∀ j ∈ js, 0 ≤ j ∧ j < 26 := by
      refine ⟨(List.range sz.toNat).map fun (j : Nat) => (n / 121 + n / 3146 % 3 * (0 + (j : Int))) % 26, by rw [List.map_map]; exact d1, by simp, fun j hj => ?_⟩
      obtain ⟨x, _, rfl⟩ := List.mem_map.mp hj
      omega
    clear d1
    refine seq_rule fun N hN => ?_
    walk_at "rd"
    refine ⟨by omega, hN _ _ ?_⟩
    clear hN N
    obtain ⟨at_, hat, a1, a2⟩ : ∃ at_ : Int, n / 11 % sz = at_ ∧ 0 ≤ at_ ∧ at_ < sz := ⟨_, rfl, Int.emod_nonneg _ (by omega), Int.emod_lt_of_pos _ (by omega)⟩
    rw [hat]
    clear hat hsz
    refine seq_rule fun N hN => ?_
    walk_at "rd"
    refine ⟨Nat.zero_le _, fun ps hps => hN _ _ ?_⟩
    clear hN N
    have n1 : Same H1 (upd H1 ps (.lst [])) := Same.new hps
    have e2 := n1 _ _ e1
    have s2 := s1.trans n1
    have hps0 := s1.free hps
    have nbp : bs ≠ ps := fun z => by rw [← z, e1] at hps; cases hps
    have p2 : upd H1 ps (.lst []) ps = some (.lst []) := upd_same
    generalize upd H1 ps (.lst []) = H2 at e2 s2 p2
    clear e1 n1
    refine seq_rule fun N hN => ?_
    refine ⟨_, rfl, by decide, by decide, for_range (n := 3) (lo := 0) (fun i σ H3 => ∃ v v' ls, σ = [some (.int c), some (.str (tx abc)), some (.int n), some (.int sz), some (.ref bs), some (.int at_), some (.ref ps), v, v'] ∧ Same H H3 ∧ H3 bs = some (.lst (js.map V.int)) ∧ H3 ps = some (.lst (ls.map fun l => .str (tx l))) ∧ ls.length = i ∧ ∀ l ∈ ls, l.length = sz.toNat ∧ ∀ x ∈ l, x ∈ abc)
      ⟨none, none, [], rfl, s2, e2, p2, rfl, fun l hl => nomatch hl⟩ ?_ ?_⟩
    · rintro i σ H3 hi ⟨v, v', ls, rfl, s3, b3, p3, ll, lo⟩
      clear hN
      refine seq_rule fun N2 hN => ?_
      walk_at "rg"
      walk_at "rd"
      refine ⟨_, .inl (SqL.of b3), fun r hr => hN _ _ ?_⟩
      clear hN N2
      have n4 : Same H3 (upd H3 r (.lst (js.map V.int))) := Same.new hr
      have r4 : upd H3 r (.lst (js.map V.int)) r = some (.lst (js.map V.int)) := upd_same
      have s4 := s3.trans n4
      have b4 := n4 _ _ b3
      have p4 := n4 _ _ p3
      have hr0 := s3.free hr
      have nbr : bs ≠ r := fun z => by rw [← z, b3] at hr; cases hr
      have npr : ps ≠ r := fun z => by rw [← z, p3] at hr; cases hr
      clear n4
      generalize upd H3 r (.lst (js.map V.int)) = H4 at r4 s4 b4 p4
      refine seq_rule fun N2 hN => ?_
      walk_at "rd"
      obtain ⟨v1, e1, e2'⟩ := atI_in (xs := js.map V.int) a1 (by rw [List.length_map, ljs]; omega)
      obtain ⟨z, hz, rfl⟩ := map_get e2'
      refine rd_ixL b4 e1 ⟨.inl (by omega), _, rfl, _, r4, _, ixN_nat a1 (by rw [List.length_map, ljs]; omega), hN _ _ ?_⟩
      clear hN N2
      rw [← List.map_set (f := V.int)]
      have hjs2 : ∀ j ∈ js.set at_.toNat ((z + (0 + (i : Int)) * (1 + n / 9438 % 12)) % 26), 0 ≤ j ∧ j < 26 := fun j hj => by
        rcases List.mem_or_eq_of_mem_set hj with h | h
        · exact ojs j h
        · omega
      have ljs2 : (js.set at_.toNat ((z + (0 + (i : Int)) * (1 + n / 9438 % 12)) % 26)).length = sz.toNat := by rw [List.length_set, ljs]
      generalize js.set at_.toNat ((z + (0 + (i : Int)) * (1 + n / 9438 % 12)) % 26) = js2 at hjs2 ljs2
      have s5 : Same H (upd H4 r (.lst (js2.map V.int))) := s4.upd_new hr0
      have r5 : upd H4 r (.lst (js2.map V.int)) r = some (.lst (js2.map V.int)) := upd_same
      have b5 : upd H4 r (.lst (js2.map V.int)) bs = some (.lst (js.map V.int)) := (upd_ne nbr).trans b4
      have p5 : upd H4 r (.lst (js2.map V.int)) ps = some (.lst (ls.map fun l => .str (tx l))) := (upd_ne npr).trans p4
      generalize upd H4 r (.lst (js2.map V.int)) = H5 at s5 r5 b5 p5
      walk_at "rd"
      refine ⟨tyV_lst (SqL.of p5), _, rfl, r, rfl, ⟨_, SqL.of r5⟩, comp_word (SqL.of r5) hjs2 (by omega) (fun j H6 Q6 h => ?_) fun D H6 hD s6 d6 => ⟨D, _, rfl, rfl, d6, by rw [word_sum]; omega, _, s6 _ _ p5, ?_, s5.trans s6 |>.upd_new hps0, (upd_ne nbp).trans (s6 _ _ b5), ls ++ [js2.map letC], ?_, ?_, fun l hl => ?_⟩⟩
      · walk_at "rd"
        exact h
      · rw [List.length_map, ll]
        exact Nat.lt_of_lt_of_le (show i < 3000 by omega) (sz_of (by decide))
      · rw [upd_same, List.map_append, word_flat]
        rfl
      · rw [List.length_append, ll]
        rfl
      · rcases List.mem_append.mp hl with h | h
        · exact lo l h
        · rw [List.mem_singleton.mp h]
          exact ⟨by rw [List.length_map, ljs2], word_abc js2⟩
    · rintro σ H3 ⟨v, v', ls, rfl, s3, b3, p3, ll, lo⟩
      refine hN _ _ ?_
      clear hN N
      refine seq_rule fun N hN => ?_
      walk_at "rd"
      obtain ⟨l0, lr, rfl⟩ : ∃ l0 lr, ls = l0 :: lr := by
        cases ls with
        | nil => cases ll
        | cons a b => exact ⟨a, b, rfl⟩
      obtain ⟨l1, l2⟩ := lo l0 (by simp)
      refine ⟨tyV_lst (SqL.of p3), rd_ixL (v := .str (tx l0)) p3 atI_zero (rd_sign (by decide) (by omega) (by show n / 31 % 26 < 26; omega) fun x hx => ⟨_, rfl, _, rfl, ?_, _, p3, ?_, hN _ _ ?_⟩)⟩
      · rw [tx_len, tx_len]
        exact sz_of (by simp only [List.length_cons, List.length_nil]; omega)
      · rw [List.length_map, ll]
        exact Nat.lt_of_lt_of_le (show 3 < 3000 by decide) (sz_of (by decide))
      clear hN N
      walk_at "rd"
      refine k ps _ ((l0 :: lr) ++ [l0 ++ [x]]) hps0 (s3.upd_new hps0) ⟨?_, ?_, fun l hl => ?_⟩
      · rw [upd_same, List.map_append]
        simp only [List.map_cons, List.map_nil, tx_app, List.cons_append]
      · rw [List.length_append, ll]
        rfl
      · rcases List.mem_append.mp hl with h | h
        · obtain ⟨h1, h2⟩ := lo l h
          exact ⟨by omega, by omega, h2⟩
        · rw [List.mem_singleton.mp h]
          refine ⟨by rw [List.length_append]; simp, by rw [List.length_append, l1]; simp only [List.length_cons, List.length_nil]; omega, fun y hy => ?_⟩
          rcases List.mem_append.mp hy with h | h
          · exact l2 y h
          · rw [List.mem_singleton.mp h]
            exact List.mem_of_getElem? hx
theorem sc_l_base : FnScope ["cell", "size"] ["cell"] (defScope s_l_base) := ⟨rfl, rfl, rfl, by decide +kernel, rfl, by decide +kernel, by decide +kernel⟩
theorem ok_l_base (T : Txt K mg t) : FnOk P w K mg base (CX1 P w) 1 t.a_l_base t.d_l_base ["cell"] (sp_l_base) := by
  refine T.l_base.fn.okN sc_l_base (fun vs H Q E h => ?_) (fun cdv A outer s H vs Q E hr h => ?_)
  · obtain ⟨c, rfl, k⟩ := h
    rfl
  · obtain ⟨c, rfl, k⟩ := h
    refine ⟨_, Bx.un (bpss_cons (bps_set (i := 1) sc_l_base.nd rfl (by first | exact Or.inl rfl | exact Or.inr rfl) (bpe_op op_mod (bpv 0) (bpe_op op_pow bpe_int bpe_int)))
      (bpss_cons (bps_if (bpt_cmpR op_eq (bpe_op op_mod (bpv 1) bpe_int) bpe_int (nomark _))
      (bpss_one (bps_ret (bpe_op op_sub bpe_int (bpe_op op_fdiv (bpv 1) bpe_int))))
      bpss_nil)
      (bpss_one (bps_ret (bpe_op op_fdiv (bpv 1) bpe_int))))), ?_⟩
    walk_at "rd"
    refine ⟨by decide, ?_⟩
    split <;> exact k _ (by unfold halfB; omega)
theorem sc_l_number : FnScope ["cell", "turn", "base"] ["cell", "turn", "base"] (defScope s_l_number) := ⟨rfl, rfl, rfl, by decide +kernel, rfl, by decide +kernel, by decide +kernel⟩
theorem ok_l_number (T : Txt K mg t) : FnOk P w K mg base (CX1 P w) 2 t.a_l_number t.d_l_number ["cell", "turn", "base"] (sp_l_number) := by
  have G_l_base := (ok_l_base (P := P) (w := w) (base := base) T).mono (show 1 ≤ 1 by decide)
  refine T.l_number.fn.okN sc_l_number (fun vs H Q E h => ?_) (fun cdv A outer s H vs Q E hr h => ?_)
  · obtain ⟨c, tu, b, rfl, hb, k⟩ := h
    rfl
  · obtain ⟨c, tu, b, rfl, hb, k⟩ := h
    refine ⟨_, Bx.un (bpss_cons (bps_if (bpt_cmpR op_eq (bpe_op op_mod (bpv 1) bpe_int) bpe_int (nomark _))
      (bpss_one (bps_ret (bpe_op op_sub (bpe_op op_add (bpv 2) (bpe_op op_mod (bpe_op op_fdiv (bpv 1) bpe_int) bpe_int)) bpe_int)))
      bpss_nil)
      (bpss_cons (bps_if (bpt_cmpR op_eq (bpe_op op_mod (bpv 1) bpe_int) bpe_int (nomark _))
      (bpss_one (bps_ret (bpe_op op_sub (bpe_op op_mod (bpe_op op_fdiv (bpv 1) bpe_int) bpe_int) bpe_int)))
      bpss_nil)
      (bpss_one (bps_ret (bpe_fnx T.l_base G_l_base hr pass0' (bpa_cons (bpv 0) bpa_nil)))))), ?_⟩
    walk_at "rd"
    have big : (10 : Nat) ^ 60 = 1000000000000000000000000000000000000000000000000000000000000 := by decide
    unfold halfB at hb
    refine ite_both (fun _ => k _ (by rw [big]; omega)) fun _ => ite_both (fun _ => k _ (by rw [big]; omega)) fun _ => ⟨_, rfl, fun n hn => k n ?_⟩
    unfold halfB at hn
    rw [big]
    omega
theorem sc_l_mark_by : FnScope ["cell", "names", "base", "turn", "sign", "number"] ["cell", "names", "base"] (defScope s_l_mark_by) := ⟨rfl, rfl, rfl, by decide +kernel, rfl, by decide +kernel, by decide +kernel⟩
theorem ok_l_mark_by (T : Txt K mg t) : FnOk P w K mg base (CX1 P w) 3 t.a_l_mark_by t.d_l_mark_by ["cell", "names", "base"] (sp_l_mark_by) := by
  have G_l_mixed := (ok_l_mixed (P := P) (w := w) (base := base) T).mono (show 1 ≤ 2 by decide)
  have G_l_number := (ok_l_number (P := P) (w := w) (base := base) T).mono (show 2 ≤ 2 by decide)
  refine T.l_mark_by.fn.okN sc_l_mark_by (fun vs H Q E h => ?_) (fun cdv A outer s H vs Q E hr h => ?_)
  · obtain ⟨c, a, ns, b, rfl, hn, hb, k⟩ := h
    rfl
  · obtain ⟨c, a, ns, b, rfl, hn, hb, k⟩ := h
    refine ⟨_, Bx.un (bpss_cons (bps_set (i := 3) sc_l_mark_by.nd rfl (by first | exact Or.inl rfl | exact Or.inr rfl) (bpe_op op_fdiv (bpe_fnx T.l_mixed G_l_mixed hr pass0' (bpa_cons (bpv 0) bpa_nil)) bpe_int))
      (bpss_cons (bps_set (i := 4) sc_l_mark_by.nd rfl (by first | exact Or.inl rfl | exact Or.inr rfl) (bpe_ixA ix_list bpe_lstS (bpe_op op_mod (bpe_op op_fdiv (bpv 3) bpe_int) bpe_int)))
      (bpss_cons (bps_set (i := 5) sc_l_mark_by.nd rfl (by first | exact Or.inl rfl | exact Or.inr rfl) bpe_int)
      (bpss_cons (bps_if (bpt_cmpR op_ne (bpv 4) bpe_str (nomark _))
      (bpss_one (bps_set (i := 5) sc_l_mark_by.nd rfl (by first | exact Or.inl rfl | exact Or.inr rfl) (bpe_fnx T.l_number G_l_number hr pass0' (bpa_cons (bpv 0) (bpa_cons (bpe_op op_fdiv (bpv 3) bpe_int) (bpa_cons (bpv 2) bpa_nil))))))
      bpss_nil)
      (bpss_one (bps_ret (bpe_tup (bpa_cons bpe_str (bpa_cons (bpe_ixA ix_list (bpe_op op_cat (bpv 1) (bpe_lst (bpa_cons bpe_str bpa_nil))) (bpe_op op_mod (bpv 3) bpe_int)) (bpa_cons (bpe_cmpR op_eq (bpe_op op_mod (bpe_op op_fdiv (bpv 3) bpe_int) bpe_int) bpe_int (nomark _)) (bpa_cons (bpv 4) (bpa_cons (bpv 5) bpa_nil)))))))))))), ?_⟩
    walk_at "rs"
    obtain ⟨hn1, hn2, hn3⟩ := hn
    refine seq_rule fun N hN => ?_
    walk_at "rd"
    refine ⟨_, rfl, fun m h0 h1 => ⟨_, rfl, hN _ _ ?_⟩⟩
    clear hN N
    obtain ⟨tu, htu⟩ : ∃ tu : Int, m / 8 = tu := ⟨_, rfl⟩
    rw [htu]
    refine seq_rule fun N hN => ?_
    walk_at "rd"
    refine ⟨by decide, fun p hp => rd_pick (by omega) (by show tu / 10 % 6 < 6; omega) fun v hv => hN _ _ ?_⟩
    clear hN N
    have pick : ∃ a, v = .str (tx a) ∧ a ∈ [[], [60], [62], [61], [33]] := by
      simp only [List.mem_cons, List.not_mem_nil, or_false] at hv
      rcases hv with rfl | rfl | rfl | rfl | rfl | rfl <;> exact ⟨_, rfl, by decide⟩
    obtain ⟨sg, rfl, hsg⟩ := pick
    have s1 := Same.new (o := .lst [V.str (tx []), V.str (tx []), V.str (tx [60]), V.str (tx [62]), V.str (tx [61]), V.str (tx [33])]) hp
    generalize upd H p (.lst [V.str (tx []), V.str (tx []), V.str (tx [60]), V.str (tx [62]), V.str (tx [61]), V.str (tx [33])]) = H1 at s1
    refine seq_rule fun N hN => ?_
    walk_at "rd"
    refine hN _ _ ?_
    clear hN N
    refine seq_rule fun N hN => ?_
    have hM : ∀ n : Int, n.natAbs < 10 ^ 60 → (sg = [] → n = 0) → N [some (.int c), some (.ref a), some (.int b), some (.int tu), some (.str (tx sg)), some (.int n)] H1 := by
      intro n hn h0
      refine hN _ _ ?_
      clear hN N
      walk_at "rd"
      refine ⟨by decide, fun q hq => ⟨_, (s1.upd_new (o := .lst [V.str (tx [95])]) (s1.free hq)) _ _ hn1, _, upd_same, by simp only [List.length_map, hn2]; decide, fun r hr => ?_⟩⟩
      obtain ⟨v, e1, e2⟩ := atI_in (xs := (ns.map fun l => V.str (tx l)) ++ [V.str (tx [95])]) (i := tu % 5) (by omega) (by simp only [List.length_append, List.length_map, hn2]; show tu % 5 < 5; omega)
      have pick : ∃ l, v = .str (tx l) ∧ (l = [95] ∨ GoodN l) := by
        have := List.mem_of_getElem? e2
        rcases List.mem_append.mp this with h | h
        · obtain ⟨l, hl, rfl⟩ := List.mem_map.mp h
          exact ⟨l, rfl, .inr (hn3 l hl)⟩
        · rw [List.mem_singleton.mp h]
          exact ⟨[95], rfl, .inl rfl⟩
      obtain ⟨l, rfl, hl⟩ := pick
      have s2 := (Same.new (o := .lst [V.str (tx [95])]) hq).upd_new (o := .lst ((ns.map fun l => V.str (tx l)) ++ [V.str (tx [95])])) ((Same.new (o := .lst [V.str (tx [95])]) hq).free hr)
      refine rd_ixL upd_same e1 ⟨by decide, fun p3 h3 => ?_⟩
      have s3 := s2.upd_new (o := .tup (mkV ⟨l, decide (tu / 5 % 2 = 1), sg, n⟩)) (s2.free h3)
      exact k ⟨l, _, sg, n⟩ p3 _ ⟨hl, hsg, hn, h0⟩ (s1.free (s2.free h3)) (s1.trans s3) upd_same
    walk_at "rd"
    refine ite_both (fun h => ?_) fun h => ?_
    · exact ⟨_, _, _, rfl, hb, fun n hn => hM n hn fun z => absurd z h⟩
    · exact hM 0 (by decide) fun _ => rfl
theorem sc_weight_meets : FnScope ["weight", "sign", "number"] ["weight", "sign", "number"] (defScope s_weight_meets) := ⟨rfl, rfl, rfl, by decide +kernel, rfl, by decide +kernel, by decide +kernel⟩
theorem ok_weight_meets (T : Txt K mg t) : FnOk P w K mg base (CX1 P w) 1 t.a_weight_meets t.d_weight_meets ["weight", "sign", "number"] (sp_weight_meets) := by
  refine T.weight_meets.fn.okN sc_weight_meets (fun vs H Q E h => ?_) (fun cdv A outer s H vs Q E hr h => ?_)
  · obtain ⟨wt, sg, n, rfl, k⟩ := h
    rfl
  · obtain ⟨wt, sg, n, rfl, k⟩ := h
    refine ⟨_, Bx.un (bpss_cons (bps_if (bpt_cmpR op_eq (bpv 1) bpe_str (nomark _))
      (bpss_one (bps_ret (bpe_cmpR op_lt (bpv 0) (bpv 2) (nomark _))))
      bpss_nil)
      (bpss_cons (bps_if (bpt_cmpR op_eq (bpv 1) bpe_str (nomark _))
      (bpss_one (bps_ret (bpe_cmpR op_gt (bpv 0) (bpv 2) (nomark _))))
      bpss_nil)
      (bpss_cons (bps_if (bpt_cmpR op_eq (bpv 1) bpe_str (nomark _))
      (bpss_one (bps_ret (bpe_cmpR op_eq (bpv 0) (bpv 2) (nomark _))))
      bpss_nil)
      (bpss_cons (bps_if (bpt_cmpR op_eq (bpv 1) bpe_str (nomark _))
      (bpss_one (bps_ret (bpe_cmpR op_ne (bpv 0) (bpv 2) (nomark _))))
      bpss_nil)
      (bpss_one (bps_ret bpe_bl)))))), ?_⟩
    walk_at "rd"
    unfold meetC at k
    refine ite_both (fun h => ?_) fun h => ?_
    · rw [if_pos h] at k
      exact k
    rw [if_neg h] at k
    refine ite_both (fun h => ?_) fun h => ?_
    · rw [if_pos h] at k
      exact k
    rw [if_neg h] at k
    refine ite_both (fun h => ?_) fun h => ?_
    · rw [if_pos h] at k
      exact k
    rw [if_neg h] at k
    refine ite_both (fun h => ?_) fun h => ?_
    · rw [if_pos h] at k
      exact k
    rw [if_neg h] at k
    exact k
theorem sc_fits : FnScope ["mark", "step"] ["mark", "step"] (defScope s_fits) := ⟨rfl, rfl, rfl, by decide +kernel, rfl, by decide +kernel, by decide +kernel⟩
theorem ok_fits (T : Txt K mg t) : FnOk P w K mg base (CX1 P w) 2 t.a_fits t.d_fits ["mark", "step"] (sp_fits) := by
  have G_weight_meets := (ok_weight_meets (P := P) (w := w) (base := base) T).mono (show 1 ≤ 1 by decide)
  refine T.fits.fn.okN sc_fits (fun vs H Q E h => ?_) (fun cdv A outer s H vs Q E hr h => ?_)
  · obtain ⟨a, b, m, sp, rfl, ha, hb, k⟩ := h
    rfl
  · obtain ⟨a, b, m, sp, rfl, ha, hb, k⟩ := h
    refine ⟨_, Bx.un (bpss_cons (bps_if (bpt_cmpR op_ne (bpe_ixA ix_tup (bpv 1) bpe_int) (bpe_ixA ix_tup (bpv 0) bpe_int) (nomark _))
      (bpss_one (bps_ret bpe_bl))
      bpss_nil)
      (bpss_cons (bps_if (bpw_and (bpt_cmpR op_ne (bpe_ixA ix_tup (bpv 0) bpe_int) (bpe_const T.c_ANY_NAME) (nomark _)) (bpw_and1 (bpt_cmpR op_ne (bpe_ixA ix_tup (bpv 0) bpe_int) (bpe_ixA ix_tup (bpv 1) bpe_int) (nomark _)))).bpt
      (bpss_one (bps_ret bpe_bl))
      bpss_nil)
      (bpss_one (bps_ret (bpe_fnx T.weight_meets G_weight_meets hr pass0' (bpa_cons (bpe_ixA ix_tup (bpv 1) bpe_int) (bpa_cons (bpe_ixA ix_tup (bpv 0) bpe_int) (bpa_cons (bpe_ixA ix_tup (bpv 0) bpe_int) bpa_nil)))))))), ?_⟩
    walk_at "rd"
    have last : ∀ (_ : sp.back = m.back) (_ : m.nm = [95] ∨ m.nm = sp.nm), rIxT K (V.ref b) (V.int 1) H fun x H1 => rIxT K (V.ref a) (V.int 3) H1 fun x_1 H1 => rIxT K (V.ref a) (V.int 4) H1 fun x_2 H1 => sp_weight_meets [x, x_1, x_2] H1 Q E0 := by
      intro h1 h2
      refine rd_ixT hb rfl (rd_ixT ha rfl (rd_ixT ha rfl ⟨_, _, _, rfl, ?_⟩))
      unfold fitC at k
      rw [decide_eq_true h1] at k
      rcases h2 with h2 | h2
      · rw [decide_eq_true h2] at k
        simpa using k
      · rw [decide_eq_true h2] at k
        simpa using k
    refine rd_ixT hb rfl (rd_ixT ha rfl ⟨rfl, ite_both (fun h => ?_) fun h => rd_ixT ha rfl ⟨rfl, ?_⟩⟩)
    · have h1 : ¬ sp.back = m.back := fun z => h (by rw [z])
      unfold fitC at k
      rw [decide_eq_false h1] at k
      exact k
    have h1 : sp.back = m.back := by
      have := Classical.not_not.mp h
      injection this
    refine ite_both (fun h2 => rd_ixT ha rfl (rd_ixT hb rfl ⟨rfl, ite_both (fun h3 => ?_) fun h3 => ?_⟩)) fun h2 => ?_
    · have n2 : ¬ m.nm = [95] := fun z => h2 (by rw [z])
      have n3 : ¬ m.nm = sp.nm := fun z => h3 (by rw [z])
      unfold fitC at k
      rw [decide_eq_true h1, decide_eq_false n2, decide_eq_false n3] at k
      exact k
    · have := Classical.not_not.mp h3
      exact last h1 (.inr (by injection this with z; exact tx_inj.mp z))
    · have := Classical.not_not.mp h2
      exact last h1 (.inl (by injection this with z; exact tx_inj.mp z))
theorem sc_l_whole : FnScope ["found"] ["found"] (defScope s_l_whole) := ⟨rfl, rfl, rfl, by decide +kernel, rfl, by decide +kernel, by decide +kernel⟩
theorem ok_l_whole (T : Txt K mg t) : FnOk P w K mg base (CX1 P w) 1 t.a_l_whole t.d_l_whole ["found"] (sp_l_whole) := by
  refine T.l_whole.fn.okN sc_l_whole (fun vs H Q E h => ?_) (fun cdv A outer s H vs Q E hr h => ?_)
  · obtain ⟨n, rfl, k⟩ := h
    rfl
  · obtain ⟨n, rfl, k⟩ := h
    refine ⟨_, Bx.un (bpss_one (bps_ret (bpe_and (bpe_callB call_isinst (by rfl) T.b_isinstance PyProof.Rows.boot_isinstance (bpa_cons (bpv 0) (bpa_cons (bpe_ty T.b_int PyProof.Rows.boot_int) bpa_nil))) (bpe_one (bpe_not (bpe_callB call_isinst (by rfl) T.b_isinstance PyProof.Rows.boot_isinstance (bpa_cons (bpv 0) (bpa_cons (bpe_ty T.b_bool PyProof.Rows.boot_bool) bpa_nil)))))))), ?_⟩
    walk_at "rd"
    exact ⟨_, .int _, _, kit_ii K, ite_T rfl ⟨_, .int _, _, kit_ib K, k⟩⟩
theorem sc_l_things : FnScope ["cell", "many", "letters", "spread", "size", "base", "at", "things", "turn", "row"] ["cell", "many"] (defScope s_l_things) := ⟨rfl, rfl, rfl, by decide +kernel, rfl, by decide +kernel, by decide +kernel⟩
theorem ok_l_things (T : Txt K mg t) : FnOk P w K mg base (CX1 P w) 1 t.a_l_things t.d_l_things ["cell", "many"] (sp_l_things) := by
  refine T.l_things.fn.okN sc_l_things (fun vs H Q E h => ?_) (fun cdv A outer s H vs Q E hr h => ?_)
  · obtain ⟨c, n, rfl, n0, n1, k⟩ := h
    rfl
  · obtain ⟨c, n, rfl, n0, n1, k⟩ := h
    refine ⟨_, Bx.un (bpss_cons (bps_set (i := 2) sc_l_things.nd rfl (by first | exact Or.inl rfl | exact Or.inr rfl) bpe_str)
      (bpss_cons (bps_set (i := 3) sc_l_things.nd rfl (by first | exact Or.inl rfl | exact Or.inr rfl) (bpe_op op_mod (bpv 0) (bpe_op op_pow bpe_int bpe_int)))
      (bpss_cons (bps_set (i := 4) sc_l_things.nd rfl (by first | exact Or.inl rfl | exact Or.inr rfl) (bpe_op op_add bpe_int (bpe_op op_mod (bpv 3) bpe_int)))
      (bpss_cons (bps_setC (i := 5) sc_l_things.nd rfl (by first | exact Or.inl rfl | exact Or.inr rfl) rfl (N := ["k", "spread"]) (fr := [3]) (CSc.of (by kernel_rfl)) (bpi_range1 rfl T.b_range (bpa_cons bpe_int bpa_nil)) (fun _ _ _ _ _ => bpts_nil)
        (fun _ _ _ _ _ => (bpe_op op_mod (bpe_op op_add (bpe_op op_fdiv (bpv 1) bpe_int) (bpe_op op_mul (bpe_op op_mod (bpe_op op_fdiv (bpv 1) bpe_int) bpe_int) (bpv 0))) bpe_int)))
      (bpss_cons (bps_set (i := 6) sc_l_things.nd rfl (by first | exact Or.inl rfl | exact Or.inr rfl) (bpe_op op_mod (bpe_op op_fdiv (bpv 3) bpe_int) (bpv 4)))
      (bpss_cons (bps_set (i := 7) sc_l_things.nd rfl (by first | exact Or.inl rfl | exact Or.inr rfl) (bpe_lst bpa_nil))
      (bpss_cons (bps_for PassesOwn.never rfl (bpi_range1 rfl T.b_range (bpa_cons (bpv 1) bpa_nil)) (bpg_name (i := 8) sc_l_things.nd rfl (by first | exact Or.inl rfl | exact Or.inr rfl))
      (bpss_cons (bps_set (i := 9) sc_l_things.nd rfl (by first | exact Or.inl rfl | exact Or.inr rfl) (bpe_slice sl_list (bpv 5) bpo_none (bpo_some (bpv 4))))
      (bpss_cons (bps_asg (bpe_op op_mod (bpe_op op_add (bpe_ixA ix_list (bpv 5) (bpv 6)) (bpe_op op_mul (bpv 8) (bpe_op op_add bpe_int (bpe_op op_mod (bpe_op op_fdiv (bpv 3) bpe_int) bpe_int)))) bpe_int) (bpg_sub (bpv 9) (bpv 6) set_list))
      (bpss_cons (bps_if (bpt_cmpR op_eq (bpe_op op_mod (bpv 3) bpe_int) bpe_int (nomark _))
      (bpss_one (bps_set (i := 9) sc_l_things.nd rfl (by first | exact Or.inl rfl | exact Or.inr rfl) (bpe_slice sl_list (bpv 5) bpo_none (bpo_some (bpe_op op_add (bpv 8) bpe_int)))))
      bpss_nil)
      (bpss_one (bps_expr (bpe_bm PySem.F.plainAttrs_list PySem.F.slot_list_append PySem.F.type_list_append mt_append (bpv 7) (bpa_cons (bpe_bm PySem.F.plainAttrs_str PySem.F.slot_str_join PySem.F.type_str_join mt_join bpe_str (bpa_cons (bpe_comp rfl (N := ["k", "letters"]) (fr := [2]) (CSc.of (by kernel_rfl)) (bpi_list (bpv 9)) (fun _ _ _ _ _ => bpts_nil)
        (fun _ _ _ _ _ => (bpe_ixA ix_str (bpv 1) (bpv 0)))) bpa_nil)) bpa_nil))))))))
      (bpss_one (bps_ret (bpv 7)))))))))), ?_⟩
    walk_at "rs"
    refine seq_rule fun N hN => ?_
    walk_at "rd"
    refine hN _ _ ?_
    clear hN N
    refine seq_rule fun N hN => ?_
    walk_at "rd"
    refine ⟨by decide, hN _ _ ?_⟩
    clear hN N
    generalize c % 1000000000 = sp
    refine seq_rule fun N hN => ?_
    walk_at "rd"
    refine hN _ _ ?_
    clear hN N
    obtain ⟨sz, hsz, z1, z2⟩ : ∃ sz : Int, 1 + sp % 12 = sz ∧ 1 ≤ sz ∧ sz ≤ 12 := ⟨_, rfl, by omega, by omega⟩
    rw [hsz]
    clear hsz
    refine seq_rule fun N hN => ?_
    walk_at "rd"
    refine ⟨_, rfl, by decide, by decide, comp_map (tells_range (n := 12)) (fun j => .int ((sp / 144 + sp / 3744 % 3 * (0 + (j : Int))) % 26)) (sz_of (by rw [List.length_range]; omega)) (fun j H2 Q2 _ _ h => ?_) fun bs H1 hbs s1 d1 => hN _ _ ?_⟩
    · walk_at "rd"
      exact ⟨.inl (by omega), h _ (Same.refl _)⟩
    clear hN N
    obtain ⟨js, e1, ljs, ojs⟩ : ∃ js : List Int, H1 bs = some (.lst (js.map V.int)) ∧ js.length = 12 ∧ ∀ j ∈ js, 0 ≤ j ∧ j < 26 := by
      refine ⟨(List.range 12).map fun (j : Nat) => (sp / 144 + sp / 3744 % 3 * (0 + (j : Int))) % 26, by rw [List.map_map]; exact d1, by simp, fun j hj => ?_⟩
      obtain ⟨x, _, rfl⟩ := List.mem_map.mp hj
      omega
    clear d1
    refine seq_rule fun N hN => ?_
    walk_at "rd"
    refine ⟨by omega, hN _ _ ?_⟩
    clear hN N
    obtain ⟨at_, hat, a1, a2⟩ : ∃ at_ : Int, sp / 12 % sz = at_ ∧ 0 ≤ at_ ∧ at_ < sz := ⟨_, rfl, Int.emod_nonneg _ (by omega), Int.emod_lt_of_pos _ (by omega)⟩
    rw [hat]
    clear hat
    refine seq_rule fun N hN => ?_
    walk_at "rd"
    refine ⟨Nat.zero_le _, fun ps hps => hN _ _ ?_⟩
    clear hN N
    have n1 : Same H1 (upd H1 ps (.lst [])) := Same.new hps
    have e2 := n1 _ _ e1
    have s2 := s1.trans n1
    have hps0 := s1.free hps
    have nbp : bs ≠ ps := fun z => by rw [← z, e1] at hps; cases hps
    have p2 : upd H1 ps (.lst []) ps = some (.lst []) := upd_same
    generalize upd H1 ps (.lst []) = H2 at e2 s2 p2
    clear e1 n1
    have d0 : 1 + sp / 11232 % 2 = 1 ∨ 1 + sp / 11232 % 2 = 2 := by omega
    obtain ⟨dl, hdl⟩ : ∃ dl : Int, 1 + sp / 11232 % 2 = dl := ⟨_, rfl⟩
    rw [hdl] at d0
    refine seq_rule fun N hN => ?_
    refine ⟨_, rfl, _, rfl, by omega, by omega, for_range (n := n.toNat) (lo := 0) (fun i σ H3 => ∃ v v', σ = [some (.int c), some (.int n), some (.str (tx abc)), some (.int sp), some (.int sz), some (.ref bs), some (.int at_), some (.ref ps), v, v'] ∧ Same H H3 ∧ H3 bs = some (.lst (js.map V.int)) ∧ H3 ps = some (.lst (((List.range i).map (thingC js sz at_ dl (sp % 5 = 4))).map fun l => .str (tx l))))
      ⟨none, none, rfl, s2, e2, p2⟩ ?_ ?_⟩
    · rintro i σ H3 hi ⟨v, v', rfl, s3, b3, p3⟩
      clear hN
      walk_at "rg"
      refine seq_rule fun N2 hN => ?_
      walk_at "rd"
      refine ⟨bs, _, rfl, SqL.of b3, fun r hr => hN _ _ ?_⟩
      clear hN N2
      rw [cut_to _ _ (by omega)]
      have n4 : Same H3 (upd H3 r (.lst ((js.take sz.toNat).map V.int))) := Same.new hr
      have r4 : upd H3 r (.lst ((js.take sz.toNat).map V.int)) r = some (.lst ((js.take sz.toNat).map V.int)) := upd_same
      have s4 := s3.trans n4
      have b4 := n4 _ _ b3
      have p4 := n4 _ _ p3
      have hr0 := s3.free hr
      have nbr : bs ≠ r := fun z => by rw [← z, b3] at hr; cases hr
      have npr : ps ≠ r := fun z => by rw [← z, p3] at hr; cases hr
      clear n4
      generalize upd H3 r (.lst ((js.take sz.toNat).map V.int)) = H4 at r4 s4 b4 p4
      refine seq_rule fun N2 hN => ?_
      walk_at "rd"
      have hz : js[at_.toNat]? = some (js.getD at_.toNat 0) := by
        have : at_.toNat < js.length := by omega
        rw [List.getD_eq_getElem?_getD, List.getElem?_eq_getElem this]
        rfl
      rw [hdl]
      refine rd_ixL b4 (v := .int (js.getD at_.toNat 0)) (at_get a1 (by rw [List.getElem?_map, hz]; rfl)) ⟨.inl (by omega), _, rfl, _, r4, _, ixN_nat a1 (by rw [List.length_map, List.length_take]; omega), hN _ _ ?_⟩
      clear hN N2
      rw [← List.map_set (f := V.int), Int.zero_add]
      have s5 : Same H (upd H4 r (.lst (((js.take sz.toNat).set at_.toNat ((js.getD at_.toNat 0 + (i : Int) * dl) % 26)).map V.int))) := s4.upd_new hr0
      have r5 : upd H4 r (.lst (((js.take sz.toNat).set at_.toNat ((js.getD at_.toNat 0 + (i : Int) * dl) % 26)).map V.int)) r = some (.lst (((js.take sz.toNat).set at_.toNat ((js.getD at_.toNat 0 + (i : Int) * dl) % 26)).map V.int)) := upd_same
      have b5 := (upd_ne (o := .lst (((js.take sz.toNat).set at_.toNat ((js.getD at_.toNat 0 + (i : Int) * dl) % 26)).map V.int)) nbr).trans b4
      have p5 := (upd_ne (o := .lst (((js.take sz.toNat).set at_.toNat ((js.getD at_.toNat 0 + (i : Int) * dl) % 26)).map V.int)) npr).trans p4
      generalize upd H4 r (.lst (((js.take sz.toNat).set at_.toNat ((js.getD at_.toNat 0 + (i : Int) * dl) % 26)).map V.int)) = H5 at s5 r5 b5 p5
      refine seq_rule fun N2 hN => ?_
      have hM : ∀ (r' : Addr) (kk : List Int) (H6 : Hp), Same H5 H6 → H6 r' = some (.lst (kk.map V.int)) → (∀ j ∈ kk, 0 ≤ j ∧ j < 26) → kk.length ≤ 12 → kk.map letC = thingC js sz at_ dl (sp % 5 = 4) i → N2 [some (.int c), some (.int n), some (.str (tx abc)), some (.int sp), some (.int sz), some (.ref bs), some (.int at_), some (.ref ps), some (.int (i : Int)), some (.ref r')] H6 := by
        intro r' kk H6 s6 r6 ok6 l6 e6
        refine hN _ _ ?_
        clear hN N2
        have p6 := s6 _ _ p5
        walk_at "rd"
        refine ⟨tyV_lst (SqL.of p6), _, rfl, r', rfl, ⟨_, SqL.of r6⟩, comp_word (SqL.of r6) ok6 (by omega) (fun j H7 Q7 h => ?_) fun D H7 hD s7 d7 => ⟨D, _, rfl, rfl, d7, by rw [word_sum]; omega, _, s7 _ _ p6, ?_, ((s5.trans s6).trans s7).upd_new hps0, (upd_ne nbp).trans (s7 _ _ (s6 _ _ b5)), ?_⟩⟩
        · walk_at "rd"
          exact h
        · rw [List.length_map, List.length_map, List.length_range]
          exact Nat.lt_of_lt_of_le (show i < 3000 by omega) (sz_of (by decide))
        · rw [upd_same, word_flat, e6, List.range_succ, List.map_append, List.map_append]
          rfl
      walk_at "rd"
      refine ite_both (fun h => ⟨bs, _, rfl, SqL.of b5, fun r2 hr2 => ?_⟩) fun h => ?_
      · rw [cut_to _ _ (by omega), show ((i : Int) + 1).toNat = i + 1 by omega]
        refine hM r2 (js.take (i + 1)) _ (Same.new hr2) upd_same (fun j hj => ojs j (List.mem_of_mem_take hj)) (by rw [List.length_take]; omega) ?_
        unfold thingC
        rw [if_pos h]
      · refine hM r _ H5 (Same.refl _) r5 (fun j hj => ?_) (by rw [List.length_set, List.length_take]; omega) ?_
        · rcases List.mem_or_eq_of_mem_set hj with z | z
          · exact ojs j (List.mem_of_mem_take z)
          · omega
        · unfold thingC
          rw [if_neg h]
    · rintro σ H3 ⟨v, v', rfl, s3, b3, p3⟩
      refine hN _ _ ?_
      walk_at "rd"
      refine k ps H3 _ hps0 s3 p3 (by rw [List.length_map, List.length_range]) (things_nd ljs z1 z2 a1 a2 d0 (by omega)) fun l hl => ?_
      obtain ⟨i, hi, rfl⟩ := List.mem_map.mp hl
      exact thing_good ljs z1 z2 (by have := List.mem_range.mp hi; omega)
theorem sc_l_web_by : FnScope ["cells", "things", "names", "base", "web", "thing", "ties", "many", "given", "cell", "turn", "number", "weight", "tie"] ["cells", "things", "names", "base"] (defScope s_l_web_by) := ⟨rfl, rfl, rfl, by decide +kernel, rfl, by decide +kernel, by decide +kernel⟩
theorem ok_l_web_by (T : Txt K mg t) : FnOk P w K mg base (CX1 P w) 5 t.a_l_web_by t.d_l_web_by ["cells", "things", "names", "base"] (sp_l_web_by t) := by
  have G_Web_init := (ok_Web_init (P := P) (w := w) (base := base) T).mono (show 1 ≤ 3 by decide)
  have G_Web_add_thing := (ok_Web_add_thing (P := P) (w := w) (base := base) T).mono (show 3 ≤ 4 by decide)
  have G_l_mixed := (ok_l_mixed (P := P) (w := w) (base := base) T).mono (show 1 ≤ 4 by decide)
  have G_Web_cut_tie := (ok_Web_cut_tie (P := P) (w := w) (base := base) T).mono (show 2 ≤ 4 by decide)
  have G_l_number := (ok_l_number (P := P) (w := w) (base := base) T).mono (show 2 ≤ 4 by decide)
  have G_Web_add_tie := (ok_Web_add_tie (P := P) (w := w) (base := base) T).mono (show 3 ≤ 4 by decide)
  refine T.l_web_by.fn.okN sc_l_web_by (fun vs H Q E h => ?_) (fun cdv A outer s H vs Q E hr h => ?_)
  · obtain ⟨lc, lt, ln, b, cs, ts, ns, rfl, hc, lcs, hlt, tne, t12, tnd, tgd, hn, hb, k⟩ := h
    rfl
  · obtain ⟨lc, lt, ln, b, cs, ts, ns, rfl, hc, lcs, hlt, tne, t12, tnd, tgd, hn, hb, k⟩ := h
    refine ⟨_, Bx.un (bpss_cons (bps_set (i := 4) sc_l_web_by.nd rfl (by first | exact Or.inl rfl | exact Or.inr rfl) (bpe_make0 T.mk_Web G_Web_init hr rfl T.g_Web T.Web_init.b .nil pass0'))
      (bpss_cons (bps_for PassesOwn.never rfl (bpi_list (bpv 1)) (bpg_name (i := 5) sc_l_web_by.nd rfl (by first | exact Or.inl rfl | exact Or.inr rfl))
      (bpss_one (bps_expr (bpe_mx (bpv 4) T.o_Web T.Web_add_thing G_Web_add_thing hr pass0' (bpa_cons (bpv 5) bpa_nil)))))
      (bpss_cons (bps_set (i := 6) sc_l_web_by.nd rfl (by first | exact Or.inl rfl | exact Or.inr rfl) bpe_dnewK)
      (bpss_cons (bps_set (i := 7) sc_l_web_by.nd rfl (by first | exact Or.inl rfl | exact Or.inr rfl) (bpe_callB call_len_seq (by rfl) T.b_len PySem.boot_len (bpa_cons (bpv 1) bpa_nil)))
      (bpss_cons (bps_set (i := 8) sc_l_web_by.nd rfl (by first | exact Or.inl rfl | exact Or.inr rfl) bpe_int)
      (bpss_cons (bps_for PassesOwn.never rfl (bpi_list (bpv 0)) (bpg_name (i := 9) sc_l_web_by.nd rfl (by first | exact Or.inl rfl | exact Or.inr rfl))
      (bpss_cons (bps_set (i := 10) sc_l_web_by.nd rfl (by first | exact Or.inl rfl | exact Or.inr rfl) (bpe_fnx T.l_mixed G_l_mixed hr pass0' (bpa_cons (bpv 9) bpa_nil)))
      (bpss_one (bps_if (bpw_and (bpt_cmpR op_eq (bpe_op op_mod (bpv 10) bpe_int) bpe_int (nomark _)) (bpw_and1 (bpt_cmpR op_gt (bpe_callB call_lenD (by rfl) T.b_len PySem.boot_len (bpa_cons (bpv 6) bpa_nil)) bpe_int (nomark _)))).bpt
      (bpss_cons (bps_set (i := 11) sc_l_web_by.nd rfl (by first | exact Or.inl rfl | exact Or.inr rfl) (bpe_ixA ix_list (bpe_callTy (call_list_dict rfl) (by rfl) T.b_list PyProof.Rows.boot_list (bpa_cons (bpv 6) bpa_nil)) (bpe_op op_mod (bpe_op op_fdiv (bpv 10) bpe_int) (bpe_callB call_lenD (by rfl) T.b_len PySem.boot_len (bpa_cons (bpv 6) bpa_nil)))))
      (bpss_cons (bps_expr (bpe_mx (bpv 4) T.o_Web T.Web_cut_tie G_Web_cut_tie hr pass0' (bpa_cons (bpv 11) bpa_nil)))
      (bpss_one (bps_expr (bpe_dpop1 (bpv 6) (bpv 11))))))
      (bpss_cons (bps_set (i := 10) sc_l_web_by.nd rfl (by first | exact Or.inl rfl | exact Or.inr rfl) (bpe_op op_fdiv (bpv 10) bpe_int))
      (bpss_cons (bps_set (i := 12) sc_l_web_by.nd rfl (by first | exact Or.inl rfl | exact Or.inr rfl) (bpe_fnx T.l_number G_l_number hr pass0' (bpa_cons (bpv 9) (bpa_cons (bpe_op op_fdiv (bpv 10) (bpe_op op_mul (bpe_op op_mul bpe_int (bpv 7)) (bpv 7))) (bpa_cons (bpv 3) bpa_nil)))))
      (bpss_cons (bps_set (i := 13) sc_l_web_by.nd rfl (by first | exact Or.inl rfl | exact Or.inr rfl) (bpe_tup (bpa_cons (bpe_ixA ix_list (bpv 1) (bpe_op op_mod (bpv 10) (bpv 7))) (bpa_cons (bpe_ixA ix_list (bpv 2) (bpe_op op_mod (bpe_op op_fdiv (bpv 10) (bpe_op op_mul (bpv 7) (bpv 7))) bpe_int)) (bpa_cons (bpe_ixA ix_list (bpv 1) (bpe_op op_mod (bpe_op op_fdiv (bpv 10) (bpv 7)) (bpv 7))) (bpa_cons (bpv 12) bpa_nil))))))
      (bpss_cons (bps_expr (bpe_mxF (bpv 4) T.o_Web T.Web_add_tie G_Web_add_tie hr pass0' (bpa_cons (bpe_ixA ix_tup (bpv 13) bpe_int) (bpa_cons (bpe_ixA ix_tup (bpv 13) bpe_int) (bpa_cons (bpe_ixA ix_tup (bpv 13) bpe_int) (bpa_cons (bpe_ixA ix_tup (bpv 13) bpe_int) bpa_nil))))))
      (bpss_cons (bps_dput (hu_of hr) (bpv 6) (bpv 8) (bpv 13))
      (bpss_one (bps_set (i := 8) sc_l_web_by.nd rfl (by first | exact Or.inl rfl | exact Or.inr rfl) (bpe_op op_add (bpv 8) bpe_int))))))))))))
      (bpss_one (bps_ret (bpe_tup (bpa_cons (bpv 4) (bpa_cons (bpv 6) bpa_nil))))))))))), ?_⟩
    walk_at "rs"
    refine seq_rule fun N hN => ?_
    walk_at "rd"
    intro pw dx hp hdx hne
    refine ⟨pw, dx, rfl, upd_same, fun H1 W0 w0 e1 e2 e3 off own => ⟨rfl, hN _ _ ?_⟩⟩
    clear hN N
    have mi1 : Mine H H1 (W0.own pw) := web_new hp hdx off own
    clear off own hp hdx hne dx
    refine seq_rule fun N hN => ?_
    refine ⟨_, rfl, lt, rfl, ⟨_, SqL.of (mi1.same _ _ hlt)⟩, for_list (K := K) (a := lt) (xs := ts.map fun l => V.str (tx l)) (fun i σ H2 => ∃ (v : Option V) (W : WS), σ = [some (.ref lc), some (.ref lt), some (.ref ln), some (.int b), some (.ref pw), v, none, none, none, none, none, none, none, none] ∧ WebAt t.c_Web H2 pw W ∧ Mine H H2 (W.own pw) ∧ W.abs = ⟨(ts.take i).map fun l => (l, []), [], 0⟩)
      ⟨none, W0, rfl, w0, mi1, by unfold WS.abs; rw [e1, e2, e3]; rfl⟩ (fun i σ H2 _ ⟨_, _, _, _, m2, _⟩ => SqL.of (m2.same _ _ hlt)) ?_ ?_⟩
    · rintro i y σ H2 hi ⟨v, W, rfl, w2, m2, ea⟩
      obtain ⟨l, hl, rfl⟩ := map_get hi
      have il : i < ts.length := (List.getElem?_eq_some_iff.mp hl).1
      have gl := tgd l (List.mem_of_getElem? hl)
      have gc : goodC l = true := good_of gl
      have nin : l ∉ (⟨(ts.take i).map fun l => (l, []), [], 0⟩ : WA).names := fun z => by
        unfold WA.names at z
        rw [List.map_map, show ((fun x : Nm × List (Nm × Int) => x.1) ∘ fun l => (l, [])) = id from rfl, List.map_id] at z
        have := List.nodup_append.mp (by rw [← List.take_append_drop i ts] at tnd; exact tnd)
        refine this.2.2 l z l ?_ rfl
        rw [List.drop_eq_getElem_cons il]
        have := (List.getElem?_eq_some_iff.mp hl).2
        rw [this]
        exact List.mem_cons_self
      walk_at "rg"
      walk_at "rd"
      refine ⟨_, _, w2.obj, rfl, pw, W, l, rfl, w2, sz_of (by have := gl.2.1; omega), ?_⟩
      unfold WA.addThing
      rw [ea, gc, if_neg (by decide), if_neg nin, if_neg (by show ¬ 100 ≤ ((ts.take i).map fun l => (l, ([] : List (Nm × Int)))).length; rw [List.length_map, List.length_take]; omega)]
      intro H3 W3 w3 e3' s3
      refine ⟨W3, w3, ?_, ?_⟩
      · have := m2.step s3 (fun b hb => hb)
        exact this.mono fun b hb => List.mem_append_left _ hb
      · rw [e3', take_get hl, List.map_append]
        rfl
    · rintro σ H2 ⟨v, W, rfl, w2, m2, ea⟩
      rw [List.length_map, List.take_length] at ea
      refine hN _ _ ?_
      clear hN N mi1 w0 e1 e2 e3
      refine seq_rule fun N hN => ?_
      walk_at "rd"
      intro pt hpt
      refine hN _ _ ?_
      clear hN N
      have n3 := Same.new (o := .dK []) hpt
      have p3 : upd H2 pt (.dK []) pt = some (.dK (kvTies [])) := upd_same
      generalize upd H2 pt (.dK []) = H3 at n3 p3
      have md : Made t H H3 pw pt W [] ts := by
        refine ⟨w2.same n3, ⟨p3, fun x hx => (by cases hx)⟩, m2.new, m2.fresh hpt, fun z => ?_, m2.same.trans n3, ?_, ?_, List.Pairwise.nil, fun x hx => (by cases hx), fun x hx => (by cases hx), by decide⟩
        · obtain ⟨o, e, _⟩ := w2.own_some z
          rw [hpt] at e
          cases e
        · rw [ea]
          unfold WA.names
          rw [List.map_map]
          exact List.map_id _
        · rw [ea]
          rfl
      have nx0 : W.next = 0 := by
        have := congrArg WA.next ea
        exact this
      clear ea p3 n3 hpt w2 m2
      refine seq_rule fun N hN => ?_
      walk_at "rd"
      refine ⟨_, .inl (SqL.of (md.old _ _ hlt)), hN _ _ ?_⟩
      clear hN N
      rw [List.length_map]
      refine seq_rule fun N hN => ?_
      walk_at "rd"
      refine hN _ _ ?_
      clear hN N
      have tl : 0 < ts.length := List.length_pos_iff.mpr tne
      refine seq_rule fun N hN => ?_
      refine ⟨_, rfl, lc, rfl, ⟨_, SqL.of (md.old _ _ hc)⟩, for_list (K := K) (a := lc) (xs := cs.map V.int) (fun i σ H4 => ∃ (v9 v10 v11 v12 v13 : Option V) (W : WS) (rs : List (Int × Addr × Tie)), σ = [some (.ref lc), some (.ref lt), some (.ref ln), some (.int b), some (.ref pw), v, some (.ref pt), some (.int (ts.length : Int)), some (.int W.next), v9, v10, v11, v12, v13] ∧ Made t H H4 pw pt W rs ts ∧ 0 ≤ W.next ∧ rs.length ≤ i)
        ⟨none, none, none, none, none, W, [], by rw [nx0], md, by omega, Nat.le_refl _⟩ (fun i σ H4 _ ⟨_, _, _, _, _, _, _, _, m4, _⟩ => SqL.of (m4.old _ _ hc)) ?_ ?_⟩
      · clear md nx0 hN
        rintro i y σ H4 hi ⟨v9, v10, v11, v12, v13, W, rs, rfl, m4, w0, rl⟩
        obtain ⟨c, hcc, rfl⟩ := map_get hi
        have il : i < cs.length := (List.getElem?_eq_some_iff.mp hcc).1
        walk_at "rg"
        refine seq_rule fun N2 hN => ?_
        walk_at "rd"
        refine ⟨_, rfl, fun tu t0 t1 => hN _ _ ?_⟩
        clear hN N2
        have lowW : ∀ x ∈ W.ties.map (·.1), x < W.next := fun x hx => by
          have e : L2.plain rs = W.abs.ties := m4.eq
          have : x ∈ (L2.plain rs).map (·.1) := by
            rw [e]
            unfold WS.abs
            rw [List.map_map]
            exact hx
          rw [plain_keys] at this
          exact (m4.low x this).2
        have wtl : W.abs.ties.length = rs.length := by
          rw [← m4.eq]
          unfold L2.plain
          rw [List.length_map]
        have nml : ∀ l ∈ ts, l ∈ W.abs.names := fun l hl => by rw [m4.nms]; exact hl
        walk_at "rd"
        refine by_else (fun els => ite_both (fun _ => ⟨_, m4.rows.at_, ite_both (fun hl0 => ?_) fun _ => els⟩) fun _ => els) ?_
        · refine ⟨_, .inl m4.rows.at_, fun l hl => ?_⟩
          rw [keys_rows]
          have n5 := Same.new (o := .lst ((rs.map (·.1)).map V.int)) hl
          have m5 := m4.same n5
          have l5 : upd H4 l (.lst ((rs.map (·.1)).map V.int)) l = some (.lst ((rs.map (·.1)).map V.int)) := upd_same
          generalize upd H4 l (.lst ((rs.map (·.1)).map V.int)) = H5 at n5 m5 l5
          have rpos : 0 < rs.length := by
            unfold kvTies at hl0
            rw [List.length_map] at hl0
            omega
          refine ⟨_, m5.rows.at_, by unfold kvTies; rw [List.length_map]; omega, ?_⟩
          have kl : (kvTies rs).length = rs.length := by unfold kvTies; rw [List.length_map]
          rw [kl]
          obtain ⟨u, e1, e2⟩ := atI_in (xs := (rs.map (·.1)).map V.int) (i := tu / 7 % (rs.length : Int)) (Int.emod_nonneg _ (by omega)) (by rw [List.length_map, List.length_map]; exact Int.emod_lt_of_pos _ (by omega))
          obtain ⟨x, hx, rfl⟩ := map_get e2
          have xin : x ∈ rs.map (·.1) := List.mem_of_getElem? hx
          have xW : x ∈ W.abs.ties.map (·.1) := by rw [← m5.eq, plain_keys]; exact xin
          refine rd_ixL l5 e1 ⟨_, _, m5.web.obj, rfl, pw, W, x, rfl, m5.web, ?_⟩
          unfold WA.cutTie
          rw [if_neg (fun z => z xW)]
          intro H6 W6 w6 ea6 s6
          have p6 : H6 pt = some (.dK (kvTies rs)) := s6.off _ _ m5.po m5.rows.at_
          have ks : (valV (kvTies rs) (.inl x)).isSome = true := by rw [ties_isSome, decide_eq_true xin]
          obtain ⟨vv, hvv⟩ := Option.isSome_iff_exists.mp ks
          refine ⟨.inl ⟨_, .inl p6⟩, _, p6, .inl x, rfl, vv, hvv, ?_⟩
          rw [dropK_ties]
          have nx6 : W6.next = W.next := by
            have := congrArg WA.next ea6
            exact this
          have sub : (rs.filter fun y => decide (y.1 ≠ x)).map (·.1) |>.Sublist (rs.map (·.1)) := List.filter_sublist.map _
          have flen : (rs.filter fun y => decide (y.1 ≠ x)).length ≤ rs.length := List.length_filter_le _ _
          refine ⟨_, _, _, _, _, W6, nx6.symm, rfl, rfl, rfl, rfl, rfl, rs.filter fun y => decide (y.1 ≠ x), m5.goes s6 w6 (fun y hy => s6.tup _ _ (m5.rows.tups y (List.mem_filter.mp hy).1)) ?_ ?_ (m5.ris.sublist sub) (fun y hy => ?_) (fun y hy => m5.tie y (List.mem_filter.mp hy).1) (by have := m5.few; omega), by omega, by omega⟩
          · rw [ea6]
            exact m5.nms
          · rw [ea6, rows_cut, m5.eq]
          · have := m5.low y (sub.subset hy)
            omega
        · have sq : 1 ≤ (ts.length : Int) * ts.length ∧ (ts.length : Int) * ts.length ≤ 144 := by
            have h1 : ts.length * ts.length ≤ 12 * 12 := Nat.mul_le_mul t12 t12
            have h2 : 1 * 1 ≤ ts.length * ts.length := Nat.mul_le_mul tl tl
            constructor
            · exact_mod_cast h2
            · exact_mod_cast h1
          have e4 : 4 * (ts.length : Int) * ts.length = 4 * ((ts.length : Int) * ts.length) := Int.mul_assoc ..
          have hn4 : NamesAt H4 ln ns := ⟨m4.old _ _ hn.1, hn.2⟩
          have hl4 := m4.old _ _ hlt
          have pick : ∀ j : Int, 0 ≤ j → j < ts.length → ∃ l ∈ ts, atI (ts.map fun l => V.str (tx l)) j = some (.str (tx l)) := fun j j0 j1 => by
            obtain ⟨u, e1, e2⟩ := atI_in (xs := ts.map fun l => V.str (tx l)) j0 (by rw [List.length_map]; exact j1)
            obtain ⟨l, hl, rfl⟩ := map_get e2
            exact ⟨l, List.mem_of_getElem? hl, e1⟩
          refine ⟨.inl (by decide), .inl ⟨by omega, by omega⟩, by rw [e4]; omega, by rw [e4]; omega, _, _, _, rfl, hb, fun wt hwt => ⟨by omega, ?_⟩⟩
          obtain ⟨l1, hl1, el1⟩ := pick (tu / 7 % (ts.length : Int)) (Int.emod_nonneg _ (by omega)) (Int.emod_lt_of_pos _ (by omega))
          obtain ⟨l2, hl2, el2⟩ := pick (tu / 7 / (ts.length : Int) % (ts.length : Int)) (Int.emod_nonneg _ (by omega)) (Int.emod_lt_of_pos _ (by omega))
          obtain ⟨u, e1, e2⟩ := atI_in (xs := ns.map fun l => V.str (tx l)) (i := tu / 7 / ((ts.length : Int) * ts.length) % 4) (by omega) (by rw [List.length_map, hn4.2.1]; omega)
          obtain ⟨n3, hn3, rfl⟩ := map_get e2
          have gn3 := hn4.2.2 n3 (List.mem_of_getElem? hn3)
          refine rd_ixL hl4 el1 ⟨.inl ⟨by omega, by omega⟩, by omega, by omega, rd_ixL hn4.1 e1 ⟨by omega, by omega, by omega, rd_ixL hl4 el2 ⟨by decide, fun p hp => ?_⟩⟩⟩
          have n5 := Same.new (o := .tup [.str (tx l1), .str (tx n3), .str (tx l2), .int wt]) hp
          have m5 := m4.same n5
          have p5 : upd H4 p (.tup [.str (tx l1), .str (tx n3), .str (tx l2), .int wt]) p = some (.tup (tieV ⟨l1, n3, l2, wt⟩)) := upd_same
          generalize upd H4 p (.tup [.str (tx l1), .str (tx n3), .str (tx l2), .int wt]) = H5 at n5 m5 p5
          refine ⟨_, _, m5.web.obj, rfl, rd_ixT p5 rfl (rd_ixT p5 rfl (rd_ixT p5 rfl (rd_ixT p5 rfl ⟨pw, W, l1, n3, l2, wt, rfl, m5.web, lowW, sz_of (by have := gn3.2.1; omega), ?_⟩)))⟩
          have fresh : W.next ∉ rs.map (·.1) := fun z => by
            have := (m5.low _ z).2
            omega
          unfold WA.addTie
          rw [if_neg (fun z => by rcases z with z | z; exact z (nml l1 hl1); exact z (nml l2 hl2)), good_of gn3, if_neg (by decide), if_neg (by omega), if_neg (by rw [wtl]; have := m5.few; omega)]
          intro H6 W6 w6 ea6 s6
          have p6 : H6 pt = some (.dK (kvTies rs)) := s6.off _ _ m5.po m5.rows.at_
          have nx6 : W6.next = W.next + 1 := by
            have := congrArg WA.next ea6
            exact this
          refine ⟨_, DPut.k (k := .inl W.next) p6 (by unfold kvTies; rw [List.length_map]; exact Nat.lt_of_lt_of_le (show rs.length < 3000 by have := m5.few; omega) (sz_of (by decide))), ?_⟩
          rw [rows_put (x := ⟨l1, n3, l2, wt⟩) fresh]
          have okl : ∀ l ∈ ts, okT l := fun l hl x hx => abc_ok ((tgd l hl).2.2 x hx)
          refine ⟨_, _, _, _, _, W6, nx6.symm, rfl, rfl, rfl, rfl, rfl, rs ++ [(W.next, p, ⟨l1, n3, l2, wt⟩)], m5.goes s6 w6 (fun y hy => ?_) ?_ ?_ ?_ (fun y hy => ?_) (fun y hy => ?_) (by rw [List.length_append]; simp only [List.length_cons, List.length_nil]; omega), by omega, by rw [List.length_append]; simp only [List.length_cons, List.length_nil]; omega⟩
          · rcases List.mem_append.mp hy with z | z
            · exact s6.tup _ _ (m5.rows.tups y z)
            · rw [List.mem_singleton.mp z]
              exact s6.tup _ _ p5
          · rw [ea6]
            exact m5.nms
          · rw [ea6, ← m5.eq]
            unfold L2.plain
            rw [List.map_append]
            rfl
          · rw [List.map_append, List.pairwise_append]
            refine ⟨m5.ris, by simp, fun x hx y hy => ?_⟩
            rw [show y = W.next by simpa using hy]
            exact (m5.low x hx).2
          · rw [List.map_append] at hy
            rcases List.mem_append.mp hy with z | z
            · have := m5.low y z
              omega
            · rw [show y = W.next by simpa using z]
              omega
          · rcases List.mem_append.mp hy with z | z
            · exact m5.tie y z
            · rw [List.mem_singleton.mp z]
              exact ⟨hl1, hl2, ⟨okl l1 hl1, fun x hx => abc_ok (gn3.2.2 x hx), okl l2 hl2⟩⟩
      · rintro σ H4 ⟨v9, v10, v11, v12, v13, W, rs, rfl, m4, w0, rl⟩
        refine hN _ _ ?_
        walk_at "rd"
        exact ⟨by decide, fun p hp => k p pw pt _ W rs (m4.same (Same.new hp)) upd_same (m4.old.free hp)⟩
theorem sc_gone_step : FnScope ["tie", "back"] ["tie", "back"] (defScope s_gone_step) := ⟨rfl, rfl, rfl, by decide +kernel, rfl, by decide +kernel, by decide +kernel⟩
theorem ok_gone_step (T : Txt K mg t) : FnOk P w K mg base (CX1 P w) 1 t.a_gone_step t.d_gone_step ["tie", "back"] (sp_gone_step) := by
  refine T.gone_step.fn.okN sc_gone_step (fun vs H Q E h => ?_) (fun cdv A outer s H vs Q E hr h => ?_)
  · obtain ⟨a, t, b, rfl, ha, k⟩ := h
    rfl
  · obtain ⟨a, t, b, rfl, ha, k⟩ := h
    refine ⟨_, Bx.un (bpss_one (bps_ret (bpe_tup (bpa_cons (bpe_ixA ix_tup (bpv 0) bpe_int) (bpa_cons (bpe_ixA ix_tup (bpv 0) bpe_int) (bpa_cons (bpv 1) bpa_nil)))))), ?_⟩
    walk_at "rd"
    exact rd_ixT ha rfl (rd_ixT ha rfl ⟨by decide, fun p hp => k p hp⟩)
theorem sc_gone_from : FnScope ["tie", "back"] ["tie", "back"] (defScope s_gone_from) := ⟨rfl, rfl, rfl, by decide +kernel, rfl, by decide +kernel, by decide +kernel⟩
theorem ok_gone_from (T : Txt K mg t) : FnOk P w K mg base (CX1 P w) 1 t.a_gone_from t.d_gone_from ["tie", "back"] (sp_gone_from) := by
  refine T.gone_from.fn.okN sc_gone_from (fun vs H Q E h => ?_) (fun cdv A outer s H vs Q E hr h => ?_)
  · obtain ⟨a, t, b, rfl, ha, k⟩ := h
    rfl
  · obtain ⟨a, t, b, rfl, ha, k⟩ := h
    refine ⟨_, Bx.un (bpss_one (bps_ret (bpe_ifExp (bpt_val (bpv 1)) (bpe_ixA ix_tup (bpv 0) bpe_int) (bpe_ixA ix_tup (bpv 0) bpe_int)))), ?_⟩
    walk_at "rd"
    unfold goneF at k
    cases b with
    | true => exact rd_ixT ha rfl k
    | false => exact rd_ixT ha rfl k
theorem sc_gone_to : FnScope ["tie", "back"] ["tie", "back"] (defScope s_gone_to) := ⟨rfl, rfl, rfl, by decide +kernel, rfl, by decide +kernel, by decide +kernel⟩
theorem ok_gone_to (T : Txt K mg t) : FnOk P w K mg base (CX1 P w) 1 t.a_gone_to t.d_gone_to ["tie", "back"] (sp_gone_to) := by
  refine T.gone_to.fn.okN sc_gone_to (fun vs H Q E h => ?_) (fun cdv A outer s H vs Q E hr h => ?_)
  · obtain ⟨a, t, b, rfl, ha, k⟩ := h
    rfl
  · obtain ⟨a, t, b, rfl, ha, k⟩ := h
    refine ⟨_, Bx.un (bpss_one (bps_ret (bpe_ifExp (bpt_val (bpv 1)) (bpe_ixA ix_tup (bpv 0) bpe_int) (bpe_ixA ix_tup (bpv 0) bpe_int)))), ?_⟩
    walk_at "rd"
    unfold goneT at k
    cases b with
    | true => exact rd_ixT ha rfl k
    | false => exact rd_ixT ha rfl k
theorem sc_moves_by : FnScope ["web", "mark", "back", "found", "number", "tie"] ["web", "mark"] (defScope s_moves_by) := ⟨rfl, rfl, rfl, by decide +kernel, rfl, by decide +kernel, by decide +kernel⟩
theorem ok_moves_by (T : Txt K mg t) : FnOk P w K mg base (CX1 P w) 3 t.a_moves_by t.d_moves_by ["web", "mark"] (sp_moves_by t) := by
  have G_Web_ties := (ok_Web_ties (P := P) (w := w) (base := base) T).mono (show 1 ≤ 2 by decide)
  have G_Web_tie := (ok_Web_tie (P := P) (w := w) (base := base) T).mono (show 2 ≤ 2 by decide)
  have G_fits := (ok_fits (P := P) (w := w) (base := base) T).mono (show 2 ≤ 2 by decide)
  have G_gone_step := (ok_gone_step (P := P) (w := w) (base := base) T).mono (show 1 ≤ 2 by decide)
  have G_gone_to := (ok_gone_to (P := P) (w := w) (base := base) T).mono (show 1 ≤ 2 by decide)
  have G_gone_from := (ok_gone_from (P := P) (w := w) (base := base) T).mono (show 1 ≤ 2 by decide)
  refine T.moves_by.fn.okN sc_moves_by (fun vs H Q E h => ?_) (fun cdv A outer s H vs Q E hr h => ?_)
  · obtain ⟨p, mk, W, m, rfl, w, few, hm, k⟩ := h
    rfl
  · obtain ⟨p, mk, W, m, rfl, w, few, hm, k⟩ := h
    refine ⟨_, Bx.un (bpss_cons (bps_set (i := 2) sc_moves_by.nd rfl (by first | exact Or.inl rfl | exact Or.inr rfl) (bpe_ixA ix_tup (bpv 1) bpe_int))
      (bpss_cons (bps_set (i := 3) sc_moves_by.nd rfl (by first | exact Or.inl rfl | exact Or.inr rfl) bpe_dnewK)
      (bpss_cons (bps_for PassesOwn.never rfl (bpi_list (bpe_mx0 (bpv 0) T.o_Web T.Web_ties G_Web_ties hr pass0')) (bpg_name (i := 4) sc_moves_by.nd rfl (by first | exact Or.inl rfl | exact Or.inr rfl))
      (bpss_cons (bps_set (i := 5) sc_moves_by.nd rfl (by first | exact Or.inl rfl | exact Or.inr rfl) (bpe_mx (bpv 0) T.o_Web T.Web_tie G_Web_tie hr pass0' (bpa_cons (bpv 4) bpa_nil)))
      (bpss_one (bps_if (bpt_val (bpe_fnx T.fits G_fits hr pass0' (bpa_cons (bpv 1) (bpa_cons (bpe_fnx T.gone_step G_gone_step hr pass0' (bpa_cons (bpv 5) (bpa_cons (bpv 2) bpa_nil))) bpa_nil))))
      (bpss_one (bps_expr (bpe_bm PySem.F.plainAttrs_list PySem.F.slot_list_append PySem.F.type_list_append mt_append (bpe_dsetd (bpv 3) (bpe_fnx T.gone_from G_gone_from hr pass0' (bpa_cons (bpv 5) (bpa_cons (bpv 2) bpa_nil))) (bpe_lst bpa_nil)) (bpa_cons (bpe_tup (bpa_cons (bpv 4) (bpa_cons (bpe_fnx T.gone_to G_gone_to hr pass0' (bpa_cons (bpv 5) (bpa_cons (bpv 2) bpa_nil))) bpa_nil))) bpa_nil))))
      bpss_nil))))
      (bpss_one (bps_ret (bpv 3)))))), ?_⟩
    walk_at "rs"
    refine seq_rule fun N hN => ?_
    walk_at "rd"
    refine rd_ixT hm rfl (hN _ _ ?_)
    clear hN N
    refine seq_rule fun N hN => ?_
    walk_at "rd"
    refine fun d hd => hN _ _ ?_
    clear hN N
    have g0 : MvK H (upd H d (.dK [])) d 0 0 (Goes W m.back) [] := ⟨upd_same, Nat.le_refl _, by simp, fun p hp => nomatch hp⟩
    have s0 : Same H (upd H d (.dK [])) := Same.new hd
    generalize upd H d (.dK []) = H1 at g0 s0
    refine seq_rule fun N hN => ?_
    have w1 := w.same s0
    refine ⟨_, rfl, _, _, _, rfl, w1.obj, rfl, p, W, rfl, w1, fun la hla => ⟨la, rfl, ⟨_, SqL.of upd_same⟩, for_list (xs := (W.ties.map (·.1)).map V.int) (fun i σ H2 => ∃ v v' kvs, σ = [some (.ref p), some (.ref mk), some (.bl m.back), some (.ref d), v, v'] ∧ Same H H2 ∧ H2 la = some (.lst ((W.ties.map (·.1)).map V.int)) ∧ MvK H H2 d i i (Goes W m.back) kvs ∧ ∀ p ∈ kvs, p.2 ≠ V.ref la)
      ⟨none, none, [], rfl, s0.upd_new (s0.free hla), upd_same, g0.same (Same.new hla), fun p hp => nomatch hp⟩ (fun i σ H2 _ ⟨v, v', kvs, _, _, l2, _⟩ => SqL.of l2) ?_ ?_⟩⟩
    · rintro i x σ H2 hx ⟨v, v', kvs, rfl, s2, l2, g2, o2⟩
      clear hN
      walk_at "rg"
      rw [List.getElem?_map, List.getElem?_map, Option.map_map] at hx
      obtain ⟨⟨num, a, tie⟩, hx2, rfl⟩ := Option.map_eq_some_iff.mp hx
      have mem := List.mem_of_getElem? hx2
      clear hx
      have w2 := w.same s2
      dsimp only [Function.comp]
      refine seq_rule fun N2 hN => ?_
      walk_at "rd"
      refine ⟨_, _, w2.obj, rfl, p, W, num, rfl, w2, ?_⟩
      rw [if_pos (List.mem_map.mpr ⟨_, mem, rfl⟩)]
      intro a' tie' mem'
      have e := nd_inj w.nums mem mem' rfl
      cases e
      refine hN _ _ ?_
      clear hN N2
      walk_at "rd"
      have ilt : i < 63 := Nat.lt_of_lt_of_le (List.getElem?_eq_some_iff.mp hx2).1 few
      refine ⟨a, tie, m.back, rfl, w2.tups _ mem, fun q hq => ?_⟩
      have n3 : Same H2 (upd H2 q (.tup (stV ⟨tie.name, tie.weight, m.back⟩))) := Same.new hq
      have q3 : upd H2 q (.tup (stV ⟨tie.name, tie.weight, m.back⟩)) q = some (.tup (stV ⟨tie.name, tie.weight, m.back⟩)) := upd_same
      have s3 := s2.trans n3
      have l3 := n3 _ _ l2
      have g3 := g2.same n3
      have a3 := n3 _ _ (w2.tups _ mem)
      generalize upd H2 q (.tup (stV ⟨tie.name, tie.weight, m.back⟩)) = H3 at n3 q3 s3 l3 g3 a3
      refine ⟨mk, q, m, _, rfl, s3 _ _ hm, q3, _, rfl, ite_both (fun _ => ?_) fun _ => ⟨s3, l3, kvs, g3.weak (Nat.le_succ _) (Nat.le_succ _), o2⟩⟩
      refine ⟨.inl ⟨_, .inl g3.at_⟩, a, tie, m.back, rfl, a3, Nat.zero_le _, fun l hl => ?_⟩
      have n4 : Same H3 (upd H3 l (.lst [])) := Same.new hl
      have q4 : upd H3 l (.lst []) l = some (.lst []) := upd_same
      have s4 := s3.trans n4
      have l4 := n4 _ _ l3
      have g4 := g3.same n4
      have a4 := n4 _ _ a3
      have new : ∀ p ∈ kvs, p.2 ≠ V.ref l := fun p hp z => by
        obtain ⟨k', l', ys, e, f, h, _⟩ := g3.row p hp
        rw [e] at z
        cases z
        rw [h] at hl
        cases hl
      have lne : la ≠ l := fun z => by rw [z, hl] at l3; cases l3
      have fl : H l = none := s3.free hl
      generalize upd H3 l (.lst []) = H4 at n4 q4 s4 l4 g4 a4
      have ok : Goes W m.back (goneF tie m.back) num (goneT tie m.back) := ⟨a, tie, mem, rfl, rfl⟩
      have last : ∀ (kvs : List (Key × V)) (n : Nat) (H5 : Hp) (l' : Addr) (ys : List V), Same H H5 → H5 la = some (.lst ((W.ties.map (·.1)).map V.int)) → MvK H H5 d n i (Goes W m.back) kvs → n ≤ i + 1 → valV kvs (.inr (tx (goneF tie m.back))) = some (.ref l') → H5 l' = some (.lst ys) → ys.length ≤ i → H l' = none → (∀ p ∈ kvs, p.2 ≠ V.ref la) → ∀ b, H5 b = none →
          ∃ x, upd H5 b (.tup [.int num, .str (tx (goneT tie m.back))]) l' = some (.lst x) ∧ x.length < sizeLine ∧ Same H (upd (upd H5 b (.tup [.int num, .str (tx (goneT tie m.back))])) l' (.lst (x ++ [.ref b]))) ∧ upd (upd H5 b (.tup [.int num, .str (tx (goneT tie m.back))])) l' (.lst (x ++ [.ref b])) la = some (.lst ((W.ties.map (·.1)).map V.int)) ∧
            ∃ kvs, MvK H (upd (upd H5 b (.tup [.int num, .str (tx (goneT tie m.back))])) l' (.lst (x ++ [.ref b]))) d (i + 1) (i + 1) (Goes W m.back) kvs ∧ ∀ p ∈ kvs, p.2 ≠ V.ref la := by
        intro kvs n H5 l' ys s5 l5 g5 hn hv h5 z5 f5 o5 b hb
        have n6 : Same H5 (upd H5 b (.tup [.int num, .str (tx (goneT tie m.back))])) := Same.new hb
        have q6 : upd H5 b (.tup [.int num, .str (tx (goneT tie m.back))]) b = some (.tup [.int num, .str (tx (goneT tie m.back))]) := upd_same
        generalize upd H5 b (.tup [.int num, .str (tx (goneT tie m.back))]) = H6 at n6 q6
        refine ⟨ys, n6 _ _ h5, Nat.lt_of_le_of_lt z5 (Nat.lt_of_lt_of_le (show i < 100 by omega) (sz_of (by decide))), (s5.trans n6).upd_new f5, ?_, kvs, ((g5.same n6).grow hv (n6 _ _ h5) q6 ok).weak hn (Nat.le_refl _), o5⟩
        rw [upd_ne (fun z => o5 _ (valV_mem hv) (by rw [z]))]
        exact n6 _ _ l5
      refine ⟨kvs, g4.at_, .inr (tx (goneF tie m.back)), rfl, Nat.lt_of_le_of_lt g4.len (Nat.lt_of_lt_of_le (show i < 100 by omega) (sz_of (by decide))), fun v hv => ?_, fun hv => ?_⟩
      · obtain ⟨l', ys, rfl, f', h', z', r'⟩ := g4.there hv
        exact ⟨tyV_lst (SqL.of h'), a, tie, m.back, rfl, a4, by decide, fun b hb => ⟨l', rfl, last kvs i H4 l' ys s4 l4 g4 (Nat.le_succ _) hv h' z' f' o2 b hb⟩⟩
      · have g5 := g4.put hv fl q4 new
        have dk : ∀ c (o : HO), (∀ z, o ≠ .dK z) → H4 c = some o → upd H4 d (.dK (putK kvs (.inr (tx (goneF tie m.back))) (.ref l))) c = some o := fun c o no e => by
          rw [upd_ne (ne_of e g4.at_ (no _))]
          exact e
        have h5 := dk l _ (fun z h => by cases h) q4
        refine ⟨tyV_lst (SqL.of h5), a, tie, m.back, rfl, dk _ _ (fun z h => by cases h) a4, by decide, fun b hb => last _ _ _ l [] (s4.upd_new hd) (dk _ _ (fun z h => by cases h) l4) g5 (Nat.le_refl _) (by rw [valV_put, if_pos rfl]) h5 (Nat.zero_le _) fl (fun p hp => ?_) b hb⟩
        rw [putK_new _ hv] at hp
        rcases List.mem_append.mp hp with hp | hp
        · exact o2 p hp
        · rw [List.mem_singleton.mp hp]
          exact fun z => lne (by cases z; rfl)
    · rintro σ H2 ⟨v, v', kvs, rfl, s2, l2, g2, o2⟩
      refine hN _ _ ?_
      walk_at "rd"
      rw [List.length_map, List.length_map] at g2
      exact k d H2 kvs hd s2 (g2.weak few few)
theorem sc_book : FnScope ["web", "made", "start", "moves", "entries", "seen", "place", "entry", "room", "number", "thing"] ["web", "made", "start"] (defScope s_book) := ⟨rfl, rfl, rfl, by decide +kernel, rfl, by decide +kernel, by decide +kernel⟩
theorem ok_book (T : Txt K mg t) : FnOk P w K mg base (CX1 P w) 4 t.a_book t.d_book ["web", "made", "start"] (sp_book t) := by
  have G_Web_has_thing := (ok_Web_has_thing (P := P) (w := w) (base := base) T).mono (show 1 ≤ 3 by decide)
  have G_moves_by := (ok_moves_by (P := P) (w := w) (base := base) T).mono (show 3 ≤ 3 by decide)
  refine T.book.fn.okN sc_book (fun vs H Q E h => ?_) (fun cdv A outer s H vs Q E hr h => ?_)
  · obtain ⟨p, a, W, M, st, rfl, w, hst, few, tin, hM, ok, k⟩ := h
    rfl
  · obtain ⟨p, a, W, M, st, rfl, w, hst, few, tin, hM, ok, k⟩ := h
    refine ⟨_, Bx.un (bpss_cons (bps_if (bpt_not (bpt_val (bpe_mx (bpv 0) T.o_Web T.Web_has_thing G_Web_has_thing hr pass0' (bpa_cons (bpv 2) bpa_nil))))
      (bpss_one bps_never)
      bpss_nil)
      (bpss_cons (bps_setC (i := 3) sc_book.nd rfl (by first | exact Or.inl rfl | exact Or.inr rfl) rfl (N := ["mark", "web"]) (fr := [0]) (CSc.of (by kernel_rfl)) (bpi_list (bpe_ixA ix_tup (bpv 1) (bpe_const T.c_MARKS))) (fun _ _ _ _ _ => bpts_nil)
        (fun _ _ _ _ _ => (bpe_fnx T.moves_by G_moves_by hr pass0' (bpa_cons (bpv 1) (bpa_cons (bpv 0) bpa_nil)))))
      (bpss_cons (bps_set (i := 4) sc_book.nd rfl (by first | exact Or.inl rfl | exact Or.inr rfl) (bpe_lst (bpa_cons (bpe_tup (bpa_cons (bpv 2) (bpa_cons bpe_int (bpa_cons bpe_int (bpa_cons (bpe_un un_neg bpe_int) (bpa_cons (bpe_un un_neg bpe_int) bpa_nil)))))) bpa_nil)))
      (bpss_cons (bps_set (i := 5) sc_book.nd rfl (by first | exact Or.inl rfl | exact Or.inr rfl) (bpe_dispT (hu_of hr) (bpe_tup (bpa_cons (bpv 2) (bpa_cons bpe_int bpa_nil))) bpe_bl))
      (bpss_cons (bps_set (i := 6) sc_book.nd rfl (by first | exact Or.inl rfl | exact Or.inr rfl) bpe_int)
      (bpss_cons (bps_while PassesOwn.never (bpt_cmpR op_lt (bpv 6) (bpe_callB call_len_seq (by rfl) T.b_len PySem.boot_len (bpa_cons (bpv 4) bpa_nil)) (nomark _))
      (bpss_cons (bps_set (i := 7) sc_book.nd rfl (by first | exact Or.inl rfl | exact Or.inr rfl) (bpe_ixA ix_list (bpv 4) (bpv 6)))
      (bpss_cons (bps_for PassesOwn.never rfl (bpi_list (bpe_ixA ix_list (bpe_ixA ix_tup (bpv 1) (bpe_const T.c_FOLLOWS)) (bpe_ixA ix_tup (bpv 7) bpe_int))) (bpg_name (i := 8) sc_book.nd rfl (by first | exact Or.inl rfl | exact Or.inr rfl))
      (bpss_one (bps_for PassesOwn.never rfl (bpi_list (bpe_dget2 (hu_of hr) (bpe_ixA ix_list (bpv 3) (bpe_op op_sub (bpv 8) bpe_int)) (bpe_ixA ix_tup (bpv 7) bpe_int) (bpe_lst bpa_nil))) (bpg_tup rfl (bpgs_cons (bpg_name (i := 9) sc_book.nd rfl (by first | exact Or.inl rfl | exact Or.inr rfl)) (bpgs_cons (bpg_name (i := 10) sc_book.nd rfl (by first | exact Or.inl rfl | exact Or.inr rfl)) bpgs_nil)))
      (bpss_one (bps_if (bpt_cmp (bpc_dnotin (hu_of hr) (bpe_tup (bpa_cons (bpv 10) (bpa_cons (bpv 8) bpa_nil))) (bpv 5)))
      (bpss_cons (bps_dput (hu_of hr) (bpv 5) (bpe_tup (bpa_cons (bpv 10) (bpa_cons (bpv 8) bpa_nil))) bpe_bl)
      (bpss_one (bps_expr (bpe_bm PySem.F.plainAttrs_list PySem.F.slot_list_append PySem.F.type_list_append mt_append (bpv 4) (bpa_cons (bpe_tup (bpa_cons (bpv 10) (bpa_cons (bpv 8) (bpa_cons (bpe_op op_add (bpe_ixA ix_tup (bpv 7) bpe_int) bpe_int) (bpa_cons (bpv 9) (bpa_cons (bpv 6) bpa_nil)))))) bpa_nil)))))
      bpss_nil)))))
      (bpss_one (bps_set (i := 6) sc_book.nd rfl (by first | exact Or.inl rfl | exact Or.inr rfl) (bpe_op op_add (bpv 6) bpe_int))))))
      (bpss_one (bps_ret (bpv 4))))))))), ?_⟩
    walk_at "rs"
    obtain ⟨xm, xf, xe, ha, hm, hf, he⟩ := hM.at_
    refine seq_rule fun N hN => ?_
    walk_at "rd"
    refine ⟨_, _, w.obj, rfl, p, W, st, rfl, w, _, rfl, ?_⟩
    rw [decide_eq_true hst]
    refine hN _ _ ?_
    clear hN N
    refine seq_rule fun N hN => ?_
    walk_at "rd"
    obtain ⟨as, hma, al⟩ := hm
    have T0 : Tells (Itl K xm) H ((as.zip M.mks).map fun c => V.ref c.1) := by
      have e : (as.zip M.mks).map (fun c => V.ref c.1) = as.map V.ref := by
        rw [show (fun c : Addr × Mrk => V.ref c.1) = V.ref ∘ Prod.fst from rfl, ← List.map_map, List.map_fst_zip (by rw [al.len]; exact Nat.le_refl _)]
      rw [e]
      exact tells_list (SqL.of hma)
    have lm := ok.few
    refine ⟨_, rfl, _, _, _, _, rfl, rfl, SqT.of ha, rfl, xm, rfl, ⟨_, SqL.of hma⟩, comp_D T0 (fun D H2 c v => ∃ (Hb : Hp) (d : Addr) (kvs : List (Key × V)), v = V.ref d ∧ Hb D ≠ none ∧ MvK Hb H2 d 63 63 (Goes W c.2.back) kvs) (fun D c v H2 H3 s ⟨Hb, d, kvs, e, h1, h2⟩ => ⟨Hb, d, kvs, e, h1, h2.same s⟩) (sz_of (by rw [List.length_zip]; omega)) (fun D c H2 ys Q2 hc s2 hD h => ?_) (fun H2 c v D ys zs hD ⟨Hb, d, kvs, e, h1, h2⟩ => ⟨Hb, d, kvs, e, h1, h2.off hD h1⟩) fun pm H2 ys hpm s2 d2 all => hN _ _ ?_⟩
    · walk_at "rd"
      obtain ⟨h1, h2⟩ := al.zip c hc
      exact ⟨p, c.1, W, c.2, rfl, w.same s2, few, s2 _ _ h1, fun d H3 kvs hd s3 g3 => h (.ref d) H3 s3 ⟨H2, d, kvs, rfl, (by rw [hD]; exact fun z => nomatch z), g3⟩⟩
    clear hN N T0
    have mv : ∀ (i : Nat) (mk : Mrk), M.mks[i]? = some mk → ∃ (Hb : Hp) (d : Addr) (kvs : List (Key × V)), ys[i]? = some (V.ref d) ∧ MvK Hb H2 d 63 63 (Goes W mk.back) kvs := by
      intro i mk hi
      obtain ⟨x, hx, _⟩ := al.at hi
      have hz : (as.zip M.mks)[i]? = some (x, mk) := by
        rw [List.getElem?_zip_eq_some]
        exact ⟨hx, hi⟩
      have ly : ys.length = (as.zip M.mks).length := all.len.symm
      have il := (List.getElem?_eq_some_iff.mp hz).1
      obtain ⟨Hb, d, kvs, e, _, g⟩ := all.get hz (show ys[i]? = some (ys[i]'(by omega)) by simp)
      exact ⟨Hb, d, kvs, by rw [← e]; simp, g⟩
    clear all
    have w2 := w.same s2
    have a2 := s2 _ _ ha
    have f2 := hf.same s2
    refine seq_rule fun N hN => ?_
    walk_at "rd"
    refine ⟨by decide, fun b0 hb0 => ⟨by decide, fun qe hqe => hN _ _ ?_⟩⟩
    clear hN N
    have n3 : Same H2 (upd H2 b0 (.tup [.str (tx st), .int 0, .int 0, .int (-1), .int (-1)])) := Same.new hb0
    have fe : H2 qe = none := n3.free hqe
    have E3 : EntsAt (upd (upd H2 b0 (.tup [.str (tx st), .int 0, .int 0, .int (-1), .int (-1)])) qe (.lst [.ref b0])) qe [⟨st, 0, 0, -1, -1⟩] := ⟨[b0], upd_same, .cons ((upd_ne (fun z => by rw [← z, upd_same] at hqe; cases hqe)).trans upd_same) .nil⟩
    have s3 : Same H2 (upd (upd H2 b0 (.tup [.str (tx st), .int 0, .int 0, .int (-1), .int (-1)])) qe (.lst [.ref b0])) := n3.trans (Same.new hqe)
    generalize upd (upd H2 b0 (.tup [.str (tx st), .int 0, .int 0, .int (-1), .int (-1)])) qe (.lst [.ref b0]) = H3 at E3 s3
    refine seq_rule fun N hN => ?_
    walk_at "rd"
    refine fun qs hqs => ⟨by decide, fun b1 hb1 => ?_⟩
    have q1 : qs ≠ b1 := fun z => by rw [← z, upd_same] at hb1; cases hb1
    refine ⟨(upd_ne q1).trans upd_same, keyE (st, 0), upd_same, hN _ _ ?_⟩
    clear hN N
    have fs : H2 qs = none := s3.free hqs
    have n4 : Same H3 (upd (upd (upd H3 qs (.dT [])) b1 (.tup [.str (tx st), .int 0])) qs (.dT (putK [] (keyE (st, 0)) (.bl true)))) := ((Same.new hqs).trans (Same.new hb1)).upd_new hqs
    have B4 : BkAt H2 (upd (upd (upd H3 qs (.dT [])) b1 (.tup [.str (tx st), .int 0])) qs (.dT (putK [] (keyE (st, 0)) (.bl true)))) qe qs M.mks (Goes W) st (W.vals.map (·.1)) [⟨st, 0, 0, -1, -1⟩] :=
      ⟨s3.trans n4, E3.same n4, upd_same, BookOk.one, by simp, fun e he => by rw [List.mem_singleton.mp he]; exact hst⟩
    generalize upd (upd (upd H3 qs (.dT [])) b1 (.tup [.str (tx st), .int 0])) qs (.dT (putK [] (keyE (st, 0)) (.bl true))) = H4 at B4
    clear n4 hb1 q1 hqs E3 s3 hqe n3
    refine seq_rule fun N hN => ?_
    walk_at "rd"
    refine hN _ _ ?_
    clear hN N
    refine seq_rule fun N hN => ?_
    have lt : (W.vals.map (·.1)).length ≤ 100 := by rw [List.length_map]; exact w.few
    refine while_by (fun σ H5 => ∃ (es : List En) (pl : Nat) (v1 v2 v3 v4 : Option V), σ = [some (.ref p), some (.ref a), some (.str (tx st)), some (.ref pm), some (.ref qe), some (.ref qs), some (.int pl), v1, v2, v3, v4] ∧ BkAt H2 H5 qe qs M.mks (Goes W) st (W.vals.map (·.1)) es)
      (fun σ _ => 2600 - plOf σ) ⟨_, 0, none, none, none, none, rfl, B4⟩ ?_ ?_
    · rintro σ H5 ⟨es, pl, v1, v2, v3, v4, rfl, B5⟩
      have few5 := B5.few lt lm
      walk_at "rd"
      obtain ⟨as5, he5, al5⟩ := id B5.ents
      refine ⟨_, .inl (SqL.of he5), ite_both (fun hlt => ?_) fun _ => ?_⟩
      rotate_left
      · refine hN _ _ ?_
        walk_at "rd"
        exact k qe H5 es (s2.free fe) (s2.trans B5.old) B5.ents B5.ok few5 B5.th
      clear hN
      have pll : pl < es.length := by
        rw [List.length_map, al5.len] at hlt
        exact Int.ofNat_lt.mp hlt
      obtain ⟨e, hpe⟩ : ∃ e, es[pl]? = some e := ⟨es[pl], by simp⟩
      obtain ⟨be, hbe, ebe⟩ := al5.at hpe
      refine rd_ixL he5 (atI_nat (by rw [List.getElem?_map, hbe]; rfl)) ?_
      obtain ⟨r0, r1⟩ := B5.ok.rm hpe
      obtain ⟨l, hl⟩ : ∃ l, M.fol[e.rm.toNat]? = some l := ⟨M.fol[e.rm.toNat]'(by have := ok.lf; omega), by simp⟩
      obtain ⟨xs, xr, h1, h2, h3⟩ := (f2.same B5.old).get hl
      obtain ⟨_, xr', h1', h2', h3'⟩ := f2.get hl
      have exr : xr' = xr := by
        have := B5.old _ _ h1'
        rw [h1] at this
        cases this
        rw [h2] at h2'
        cases h2'
        rfl
      subst exr
      refine ⟨_, rfl, _, _, _, _, rfl, rfl, SqT.of (B5.old _ _ a2), rfl, _, rfl, _, _, _, _, rfl, rfl, SqT.of ebe, rfl, _, _, _, _, rfl, rfl, SqL.of h1, at_get r0 h2, xr', rfl, ⟨_, SqL.of h3⟩, for_list (xs := l.map V.int) (fun i σ H6 => ∃ (es : List En) (v2 v3 v4 : Option V), σ = [some (.ref p), some (.ref a), some (.str (tx st)), some (.ref pm), some (.ref qe), some (.ref qs), some (.int pl), some (.ref be), v2, v3, v4] ∧ BkAt H2 H6 qe qs M.mks (Goes W) st (W.vals.map (·.1)) es ∧ es[pl]? = some e ∧ H6 be = some (.tup (enV e)))
        ⟨es, v2, v3, v4, rfl, B5, hpe, ebe⟩ (fun i σ H6 _ ⟨es, v2, v3, v4, _, B6, _⟩ => SqL.of (B6.old _ _ h3')) ?_ ?_⟩
      · clear few5 he5 al5 hlt pll hpe hbe ebe h1 h2 h3 B5 h1'
        clear es as5
        rintro i x σ H6 hx ⟨es, v2, v3, v4, rfl, B6, hpe, ebe⟩
        walk_at "rg"
        rw [List.getElem?_map] at hx
        obtain ⟨r, hr, rfl⟩ := Option.map_eq_some_iff.mp hx
        obtain ⟨g0, g1⟩ := ok.rng l (List.mem_of_getElem? hl) r (List.mem_of_getElem? hr)
        clear hx
        obtain ⟨mk, hmk⟩ : ∃ mk, M.mks[(r - 1).toNat]? = some mk := ⟨M.mks[(r - 1).toNat]'(by omega), by simp⟩
        obtain ⟨Hb, d, kvs, hys, gm⟩ := mv _ mk hmk
        have gm6 := gm.same B6.old
        refine ⟨_, rfl, _, rfl, _, _, rfl, rfl, _, _, _, _, rfl, rfl, SqL.of (B6.old _ _ d2), at_get (by omega) hys, d, rfl, .inl ⟨_, .inl gm6.at_⟩, _, rfl, _, _, _, _, rfl, rfl, SqT.of ebe, rfl, Nat.zero_le _, fun lz hlz => ?_⟩
        have n7 : Same H6 (upd H6 lz (.lst [])) := Same.new hlz
        have z7 : upd H6 lz (.lst []) lz = some (.lst []) := upd_same
        have B7 := B6.same n7
        have ebe7 := n7 _ _ ebe
        generalize upd H6 lz (.lst []) = H7 at n7 z7 B7 ebe7
        have gm7 := gm6.same n7
        refine ⟨_, DGet.k (k := .inr (tx e.th)) gm7.at_, ?_⟩
        obtain ⟨lw, zs, ew, hw7, hw, good⟩ : ∃ (lw : Addr) (zs : List V), (valV kvs (.inr (tx e.th))).getD (.ref lz) = .ref lw ∧ H7 lw = some (.lst zs) ∧ (H2 lw = some (.lst zs) ∨ zs = []) ∧ ∀ y ∈ zs, ∃ b num to, y = .ref b ∧ H2 b = some (.tup [.int num, .str (tx to)]) ∧ Goes W mk.back e.th num to := by
          cases hv : valV kvs (.inr (tx e.th)) with
          | none => exact ⟨lz, [], rfl, z7, .inr rfl, fun y hy => nomatch hy⟩
          | some v =>
            obtain ⟨l', zs, rfl, _, h', _, r'⟩ := gm.there hv
            exact ⟨l', zs, rfl, n7 _ _ (B6.old _ _ h'), .inl h', r'⟩
        refine ⟨lw, ew, ⟨_, SqL.of hw7⟩, for_list (xs := zs) (fun i σ H8 => ∃ (es : List En) (v3 v4 : Option V), σ = [some (.ref p), some (.ref a), some (.str (tx st)), some (.ref pm), some (.ref qe), some (.ref qs), some (.int pl), some (.ref be), some (.int r), v3, v4] ∧ BkAt H2 H8 qe qs M.mks (Goes W) st (W.vals.map (·.1)) es ∧ es[pl]? = some e ∧ H8 be = some (.tup (enV e)) ∧ H8 lw = some (.lst zs))
          ⟨es, v3, v4, rfl, B7, hpe, ebe7, hw7⟩ (fun i σ H8 _ ⟨es, v3, v4, _, B8, _, _, h8⟩ => SqL.of h8) ?_ ?_⟩
        · clear hpe ebe ebe7 hw7 B6 B7 gm6 gm7 n7 z7
          clear es
          rintro j x σ H8 hx ⟨es, v3, v4, rfl, B8, hpe, ebe, h8⟩
          have hw2 : H2 lw = some (.lst zs) := hw.resolve_right fun z => by rw [z] at hx; cases hx
          obtain ⟨b, num, to, rfl, hb, go⟩ := good x (List.mem_of_getElem? hx)
          have few8 := B8.few lt lm
          refine ⟨b, _, rfl, SqT.of (B8.old _ _ hb), rfl, ?_⟩
          walk_at "rd"
          have hth : to ∈ W.vals.map (·.1) := by
            obtain ⟨_, tie, mt, _, rfl⟩ := go
            unfold goneT
            split
            · exact (tin _ mt).1
            · exact (tin _ mt).2
          refine ⟨by decide, fun b1 hb1 => ?_⟩
          have n9 : Same H8 (upd H8 b1 (.tup [.str (tx to), .int r])) := Same.new hb1
          have q9 : upd H8 b1 (.tup [.str (tx to), .int r]) b1 = some (.tup ((keyE (to, r)).map kV)) := upd_same
          have B9 := B8.same n9
          have ebe9 := n9 _ _ ebe
          have h9 := n9 _ _ h8
          generalize upd H8 b1 (.tup [.str (tx to), .int r]) = H9 at n9 q9 B9 ebe9 h9
          refine ⟨_, DGet.t (k := keyE (to, r)) B9.seen q9, ?_⟩
          rw [seen_some]
          refine ite_both (fun hn => ?_) fun _ => ⟨es, B9, hpe, ebe9, h9⟩
          have new : (to, r) ∉ es.map stOf := of_decide_eq_false hn
          refine ⟨by decide, fun b2 hb2 => ?_⟩
          have n10 : Same H9 (upd H9 b2 (.tup [.str (tx to), .int r])) := Same.new hb2
          have q10 : upd H9 b2 (.tup [.str (tx to), .int r]) b2 = some (.tup ((keyE (to, r)).map kV)) := upd_same
          have B10 := B9.same n10
          have ebe10 := n10 _ _ ebe9
          generalize upd H9 b2 (.tup [.str (tx to), .int r]) = H10 at n10 q10 B10 ebe10
          have off : ∀ c (o : HO), (∀ z, o ≠ .dT z) → H10 c = some o → upd H10 qs (.dT (putK (seenK es) (keyE (to, r)) (.bl true))) c = some o := fun c o no hc => by
            rw [upd_ne (ne_of hc B10.seen (no _))]
            exact hc
          have ebe11 := off _ _ (fun z q => by cases q) ebe10
          refine ⟨_, DPut.t (k := keyE (to, r)) B10.seen q10 (Nat.lt_of_lt_of_le (show (seenK es).length < 3000 by unfold seenK; rw [List.length_map]; omega) (sz_of (by decide))), ?_, rd_ixT ebe11 rfl ⟨_, rfl, by decide, fun b3 hb3 => ?_⟩⟩
          · obtain ⟨as, ha, _⟩ := B10.ents
            exact tyV_lst (SqL.of (off _ _ (fun z q => by cases q) ha))
          obtain ⟨xs, hx, lx, B11⟩ := B10.put (e := ⟨to, r, e.far + 1, num, pl⟩) new fe fs rfl hpe rfl g0 hmk go hth hb3
          refine ⟨xs, hx, Nat.lt_of_lt_of_le (show xs.length < 3000 by omega) (sz_of (by decide)), _, B11, by rw [List.getElem?_append_left (List.getElem?_eq_some_iff.mp hpe).1]; exact hpe, ?_, B11.old _ _ hw2⟩
          have c1 : upd (upd H10 qs (.dT (putK (seenK es) (keyE (to, r)) (.bl true)))) b3 (.tup [.str (tx to), .int r, .int (e.far + 1), .int num, .int pl]) be = some (.tup (enV e)) := by
            rw [upd_ne (ne_of_none ebe11 hb3)]
            exact ebe11
          rw [upd_ne (ne_of c1 hx (fun z => nomatch z))]
          exact c1
        · rintro σ H8 ⟨es, v3, v4, rfl, B8, hpe, ebe, h8⟩
          walk_at "rd"
          exact ⟨es, B8, hpe, ebe⟩
      · rintro σ H6 ⟨es, v2, v3, v4, rfl, B6, hpe, ebe⟩
        walk_at "rd"
        refine ⟨⟨es, pl + 1, by rw [Int.natCast_succ], B6⟩, ?_⟩
        show 2600 - ((pl : Int) + 1).toNat < 2600 - ((pl : Int)).toNat
        omega
    · intro σ H5 Q1 Q2 hq
      walk_at "rd"
      rintro ⟨v, e1, v1, e2, q, e3, x, e4, i, e5, e6⟩
      exact ⟨v, e1, v1, e2, q, e3, x, e4, i, e5, hq _ _ e6⟩
theorem sc_way_in : FnScope ["made", "entries", "place", "way", "entry", "mark"] ["made", "entries", "place"] (defScope s_way_in) := ⟨rfl, rfl, rfl, by decide +kernel, rfl, by decide +kernel, by decide +kernel⟩
theorem ok_way_in (T : Txt K mg t) : FnOk P w K mg base (CX1 P w) 1 t.a_way_in t.d_way_in ["made", "entries", "place"] (sp_way_in) := by
  refine T.way_in.fn.okN sc_way_in (fun vs H Q E h => ?_) (fun cdv A outer s H vs Q E hr h => ?_)
  · obtain ⟨a, q, M, st, good, es, k, rfl, hM, ok, hE, bo, few, kl, kk⟩ := h
    rfl
  · obtain ⟨a, q, M, st, good, es, k, rfl, hM, ok, hE, bo, few, kl, kk⟩ := h
    refine ⟨_, Bx.un (bpss_cons (bps_set (i := 3) sc_way_in.nd rfl (by first | exact Or.inl rfl | exact Or.inr rfl) (bpe_lst bpa_nil))
      (bpss_cons (bps_set (i := 4) sc_way_in.nd rfl (by first | exact Or.inl rfl | exact Or.inr rfl) (bpe_ixA ix_list (bpv 1) (bpv 2)))
      (bpss_cons (bps_while PassesOwn.never (bpt_cmpR op_ge (bpe_ixA ix_tup (bpv 4) bpe_int) bpe_int (nomark _))
      (bpss_cons (bps_set (i := 5) sc_way_in.nd rfl (by first | exact Or.inl rfl | exact Or.inr rfl) (bpe_ixA ix_list (bpe_ixA ix_tup (bpv 0) (bpe_const T.c_MARKS)) (bpe_op op_sub (bpe_ixA ix_tup (bpv 4) bpe_int) bpe_int)))
      (bpss_cons (bps_expr (bpe_bm PySem.F.plainAttrs_list PySem.F.slot_list_append PySem.F.type_list_append mt_append (bpv 3) (bpa_cons (bpe_tup (bpa_cons (bpe_ixA ix_tup (bpv 4) bpe_int) (bpa_cons (bpe_ixA ix_tup (bpv 5) bpe_int) bpa_nil))) bpa_nil)))
      (bpss_one (bps_set (i := 4) sc_way_in.nd rfl (by first | exact Or.inl rfl | exact Or.inr rfl) (bpe_ixA ix_list (bpv 1) (bpe_ixA ix_tup (bpv 4) bpe_int)))))))
      (bpss_cons (bps_expr (bpe_bm0 PySem.F.plainAttrs_list PySem.F.slot_list_reverse PySem.F.type_list_reverse mt_reverse (bpv 3)))
      (bpss_one (bps_ret (bpv 3))))))), ?_⟩
    walk_at "rs"
    obtain ⟨xm, xf, xe, ha, hm, hf, he⟩ := hM.at_
    obtain ⟨as, hq, al⟩ := id hE
    obtain ⟨ams, hma, alm⟩ := hm
    refine seq_rule fun N hN => ?_
    walk_at "rd"
    refine ⟨Nat.zero_le _, fun wl hwl => hN _ _ ?_⟩
    clear hN N
    have s1 : Same H (upd H wl (.lst [])) := Same.new hwl
    have W1 : WaysAt (upd H wl (.lst [])) wl [] := ⟨[], upd_same, .nil⟩
    generalize upd H wl (.lst []) = H1 at s1 W1
    refine seq_rule fun N hN => ?_
    walk_at "rd"
    obtain ⟨e0, he0⟩ : ∃ e, es[k]? = some e := ⟨es[k], by simp⟩
    obtain ⟨be0, hb0, r0⟩ := al.at he0
    refine rd_ixL (s1 _ _ hq) (atI_nat (by rw [List.getElem?_map, hb0]; rfl)) (hN _ _ ?_)
    clear hN N
    refine seq_rule fun N hN => ?_
    refine while_at (fun m σ H5 => ∃ (e : En) (be : Addr) (done : List Nat) (v5 : Option V), σ = [some (.ref a), some (.ref q), some (.int k), some (.ref wl), some (.ref be), v5] ∧ Same H H5 ∧ WaysAt H5 wl (done.map (stepC M.mks es)) ∧ es[m]? = some e ∧ H be = some (.tup (enV e)) ∧ lineC es es.length k = done ++ lineC es m m) k
      ⟨e0, be0, [], none, rfl, s1, W1, he0, r0, lineC_any bo _ _ _ (by omega) (Nat.le_refl _) kl⟩ ?_ ?_
    · rintro m σ H5 ⟨e, be, done, v5, rfl, s5, W5, he5, r5, line⟩
      walk_at "rd"
      refine rd_ixT (s5 _ _ r5) rfl ⟨_, rfl, ite_both (fun h => ?_) fun h => ?_⟩
      · cases m with
        | zero =>
          rw [bo.fst] at he5
          cases he5
          exact absurd h (show ¬ (0 : Int) ≤ -1 by decide)
        | succ m =>
          clear hN
          obtain ⟨j, f, mk, jle, hbef, hf5, hfar, h1, hmk, hg⟩ := bo.nxt m e he5
          obtain ⟨bm, hbm, rm, _⟩ := alm.at hmk
          obtain ⟨as5, hw5, al5⟩ := W5
          obtain ⟨bf, hbf, rf⟩ := al.at hf5
          have lw : as5.length ≤ 2500 := by
            have h2 : (lineC es es.length k).length ≤ es.length := lineC_len _ _
            rw [line, List.length_append] at h2
            have h3 := al5.len
            rw [List.length_map] at h3
            omega
          refine rd_ixT (s5 _ _ ha) rfl (rd_ixT (s5 _ _ r5) rfl ⟨_, rfl, rd_ixL (s5 _ _ hma) (at_get (by omega) (by rw [List.getElem?_map, hbm]; rfl)) ⟨tyV_lst (SqL.of hw5), rd_ixT (s5 _ _ r5) rfl (rd_ixT (s5 _ _ rm) rfl ⟨by decide, fun b hb => ?_⟩)⟩⟩)
          have n6 : Same H5 (upd H5 b (.tup [.int e.num, .bl mk.back])) := Same.new hb
          have q6 : upd H5 b (.tup [.int e.num, .bl mk.back]) b = some (.tup [.int e.num, .bl mk.back]) := upd_same
          generalize upd H5 b (.tup [.int e.num, .bl mk.back]) = H6 at n6 q6
          refine ⟨_, n6 _ _ hw5, Nat.lt_of_lt_of_le (show (as5.map V.ref).length < 3000 by rw [List.length_map]; omega) (sz_of (by decide)), ?_⟩
          have s7 : Same H (upd H6 wl (.lst (as5.map V.ref ++ [.ref b]))) := (s5.trans n6).upd_new hwl
          have W7 := ways_push (w := (e.num, mk.back)) (n6 _ _ hw5) (al5.imp fun _ _ r => n6 _ _ r) q6
          generalize upd H6 wl (.lst (as5.map V.ref ++ [.ref b])) = H7 at s7 W7
          refine rd_ixT (s7 _ _ r5) rfl (rd_ixL (s7 _ _ hq) (by rw [hbef]; exact atI_nat (by rw [List.getElem?_map, hbf]; rfl)) ⟨j, by omega, f, bf, rfl, s7, done ++ [m + 1], ?_, hf5, rf, ?_⟩)
          · rw [List.map_append]
            have : stepC M.mks es (m + 1) = (e.num, mk.back) := by
              unfold stepC
              rw [he5]
              show (e.num, ((M.mks[(e.rm - 1).toNat]?).map Mrk.back).getD false) = _
              rw [hmk]
              rfl
            rw [List.map_cons, this]
            exact W7
          · rw [line, lineC_step bo he5 hbef, List.append_assoc]
            rfl
      · cases m with
        | succ m =>
          obtain ⟨j, f, mk, jle, hbef, _⟩ := bo.nxt m e he5
          exact absurd (show (0 : Int) ≤ e.bef by omega) h
        | zero =>
          refine hN _ _ ?_
          walk_at "rd"
          obtain ⟨as5, hw5, al5⟩ := W5
          rw [lineC_zero, List.append_nil] at line
          refine ⟨tyV_lst (SqL.of hw5), _, hw5, kk wl _ hwl (s5.upd_new hwl) ?_⟩
          rw [line]
          exact ways_rev hw5 al5
    · intro σ H5 Q1 Q2 hq
      walk_at "rd"
      rintro ⟨v, e1, b, xs, i, u, e2, e3, e4, e5, j, e6, e7⟩
      exact ⟨v, e1, b, xs, i, u, e2, e3, e4, e5, j, e6, hq _ _ e7⟩
theorem sc_ends_in : FnScope ["made", "entries", "found", "place", "entry"] ["made", "entries"] (defScope s_ends_in) := ⟨rfl, rfl, rfl, by decide +kernel, rfl, by decide +kernel, by decide +kernel⟩
theorem ok_ends_in (T : Txt K mg t) : FnOk P w K mg base (CX1 P w) 1 t.a_ends_in t.d_ends_in ["made", "entries"] (sp_ends_in) := by
  refine T.ends_in.fn.okN sc_ends_in (fun vs H Q E h => ?_) (fun cdv A outer s H vs Q E hr h => ?_)
  · obtain ⟨a, q, M, st, good, es, rfl, hM, ok, hE, bo, few, kk⟩ := h
    rfl
  · obtain ⟨a, q, M, st, good, es, rfl, hM, ok, hE, bo, few, kk⟩ := h
    refine ⟨_, Bx.un (bpss_cons (bps_set (i := 2) sc_ends_in.nd rfl (by first | exact Or.inl rfl | exact Or.inr rfl) bpe_dnewK)
      (bpss_cons (bps_for PassesOwn.never rfl (bpi_enum rfl T.b_enumerate (bpa_cons (bpv 1) bpa_nil)) (bpg_tup rfl (bpgs_cons (bpg_name (i := 3) sc_ends_in.nd rfl (by first | exact Or.inl rfl | exact Or.inr rfl)) (bpgs_cons (bpg_name (i := 4) sc_ends_in.nd rfl (by first | exact Or.inl rfl | exact Or.inr rfl)) bpgs_nil)))
      (bpss_one (bps_if (bpt_val (bpe_ixA ix_list (bpe_ixA ix_tup (bpv 0) (bpe_const T.c_ENDS)) (bpe_ixA ix_tup (bpv 4) bpe_int)))
      (bpss_one (bps_expr (bpe_dsetd (bpv 2) (bpe_ixA ix_tup (bpv 4) bpe_int) (bpv 3))))
      bpss_nil)))
      (bpss_one (bps_ret (bpe_listI rfl (by rfl) T.b_list (bpv 2)))))), ?_⟩
    walk_at "rs"
    refine seq_rule fun N hN => ?_
    walk_at "rd"
    refine fun fd hfd => hN _ _ ?_
    clear hN N
    have s1 : Same H (upd H fd (.dK [])) := Same.new hfd
    have q1 : upd H fd (.dK []) fd = some (.dK (kvNums [])) := upd_same
    generalize upd H fd (.dK []) = H1 at s1 q1
    obtain ⟨xm, xf, xe, ha, hm, hf, he⟩ := hM.at_
    obtain ⟨as, hq, al⟩ := id hE
    refine seq_rule fun N hN => ?_
    refine ⟨_, rfl, q, _, rfl, SqL.of (s1 _ _ hq), for_enum (xs := as.map V.ref) (fun i σ H2 => ∃ v v', σ = [some (.ref a), some (.ref q), some (.ref fd), v, v'] ∧ Same H H2 ∧ H2 fd = some (.dK (kvNums (endsC M.ends (es.take i) 0 []))))
      ⟨none, none, rfl, s1, q1⟩ (fun i σ H2 _ ⟨v, v', _, s2, _⟩ => SqL.of (s2 _ _ hq)) ?_ ?_⟩
    · rintro i y b σ H2 hy hb ⟨v, v', rfl, s2, q2⟩
      rw [List.getElem?_map] at hy
      obtain ⟨be, hbe, rfl⟩ := Option.map_eq_some_iff.mp hy
      have il : i < es.length := by rw [← al.len]; exact (List.getElem?_eq_some_iff.mp hbe).1
      have hei : es[i]? = some es[i] := by simp
      have rbe := al.get hbe hei
      clear hN
      have n3 : Same H2 (upd H2 b (.tup [.int i, .ref be])) := Same.new hb
      have b3 : upd H2 b (.tup [.int i, .ref be]) b = some (.tup [.int i, .ref be]) := upd_same
      generalize upd H2 b (.tup [.int i, .ref be]) = H3 at n3 b3
      have s3 := s2.trans n3
      have q3 := n3 _ _ q2
      refine ⟨b, _, rfl, SqT.of b3, rfl, ?_⟩
      walk_at "rd"
      generalize es[i] = e at hei rbe
      obtain ⟨r0, r1⟩ := bo.rm hei
      obtain ⟨eb, heb⟩ : ∃ eb, M.ends[e.rm.toNat]? = some eb := ⟨M.ends[e.rm.toNat]'(by have := ok.le; omega), by simp⟩
      have len : (kvNums (endsC M.ends (es.take i) 0 [])).length < sizeLine := by
        have h1 := endsC_len M.ends (es.take i) 0 []
        rw [List.length_take, List.length_nil] at h1
        refine Nat.lt_of_lt_of_le (show _ < 3000 from ?_) (sz_of (by decide))
        unfold kvNums
        rw [List.length_map]
        omega
      have zl : (es.take i).length = i := by rw [List.length_take]; omega
      have nx : endsC M.ends (es.take (i + 1)) 0 [] = if eb = true ∧ e.th ∉ (endsC M.ends (es.take i) 0 []).map (·.1) then endsC M.ends (es.take i) 0 [] ++ [(e.th, (i : Int))] else endsC M.ends (es.take i) 0 [] := by
        rw [take_get hei, endsC_snoc, heb, zl, Nat.zero_add]
        rfl
      rw [nx]
      refine rd_ixT (s3 _ _ ha) rfl (rd_ixT (s3 _ _ rbe) rfl (rd_ixL (s3 _ _ he) (at_get r0 (by rw [List.getElem?_map, heb]; rfl)) ⟨_, rfl, ite_both (fun h => ?_) fun h => ⟨s3, ?_⟩⟩))
      · subst h
        refine ⟨.inl ⟨_, .inl q3⟩, rd_ixT (s3 _ _ rbe) rfl ⟨_, q3, .inr (tx e.th), rfl, len, fun v hv => ⟨s3, ?_⟩, fun hv => ⟨s3.upd_new hfd, ?_⟩⟩⟩
        · have h1 : e.th ∈ (endsC M.ends (es.take i) 0 []).map (·.1) := by
            have h2 := nums_isSome (l := e.th) (m := endsC M.ends (es.take i) 0 [])
            rw [hv] at h2
            exact of_decide_eq_true h2.symm
          rw [if_neg (fun z => z.2 h1)]
          exact q3
        · have h1 : e.th ∉ (endsC M.ends (es.take i) 0 []).map (·.1) := by
            have h2 := nums_isSome (l := e.th) (m := endsC M.ends (es.take i) 0 [])
            rw [hv] at h2
            exact of_decide_eq_false h2.symm
          rw [if_pos ⟨rfl, h1⟩, upd_same, (nums_put h1).2]
      · rw [if_neg (fun z => h z.1)]
        exact q3
    · rintro σ H2 ⟨v, v', rfl, s2, q2⟩
      refine hN _ _ ?_
      walk_at "rd"
      rw [List.length_map, al.len, List.take_length] at q2
      refine ⟨_, .inl q2, fun l bs H3 hl lb s3 h3 _ h5 => kk l H3 (s2.free hl) (s2.trans s3) ⟨bs, h3, all2_of _ _ lb fun i x y hx hy => h5 i x y hx hy⟩⟩
theorem sc_l_rooms_by : FnScope ["cell", "many", "mixed", "bits", "rooms", "room"] ["cell", "many", "mixed"] (defScope s_l_rooms_by) := ⟨rfl, rfl, rfl, by decide +kernel, rfl, by decide +kernel, by decide +kernel⟩
theorem ok_l_rooms_by (T : Txt K mg t) : FnOk P w K mg base (CX1 P w) 2 t.a_l_rooms_by t.d_l_rooms_by ["cell", "many", "mixed"] (sp_l_rooms_by) := by
  have G_l_mixed := (ok_l_mixed (P := P) (w := w) (base := base) T).mono (show 1 ≤ 1 by decide)
  refine T.l_rooms_by.fn.okN sc_l_rooms_by (fun vs H Q E h => ?_) (fun cdv A outer s H vs Q E hr h => ?_)
  · obtain ⟨c, n, bb, rfl, n0, n1, k⟩ := h
    rfl
  · obtain ⟨c, n, bb, rfl, n0, n1, k⟩ := h
    refine ⟨_, Bx.un (bpss_cons (bps_set (i := 3) sc_l_rooms_by.nd rfl (by first | exact Or.inl rfl | exact Or.inr rfl) (bpe_op op_mod (bpv 0) bpe_int))
      (bpss_cons (bps_if (bpt_val (bpv 2))
      (bpss_one (bps_set (i := 3) sc_l_rooms_by.nd rfl (by first | exact Or.inl rfl | exact Or.inr rfl) (bpe_fnx T.l_mixed G_l_mixed hr pass0' (bpa_cons (bpv 0) bpa_nil))))
      bpss_nil)
      (bpss_cons (bps_set (i := 4) sc_l_rooms_by.nd rfl (by first | exact Or.inl rfl | exact Or.inr rfl) (bpe_lst bpa_nil))
      (bpss_cons (bps_for PassesOwn.never rfl (bpi_range2 rfl T.b_range (bpa_cons bpe_int (bpa_cons (bpe_op op_add (bpv 1) bpe_int) bpa_nil))) (bpg_name (i := 5) sc_l_rooms_by.nd rfl (by first | exact Or.inl rfl | exact Or.inr rfl))
      (bpss_cons (bps_if (bpt_cmpR op_eq (bpe_op op_mod (bpv 3) bpe_int) bpe_int (nomark _))
      (bpss_one (bps_expr (bpe_bm PySem.F.plainAttrs_list PySem.F.slot_list_append PySem.F.type_list_append mt_append (bpv 4) (bpa_cons (bpv 5) bpa_nil))))
      bpss_nil)
      (bpss_one (bps_set (i := 3) sc_l_rooms_by.nd rfl (by first | exact Or.inl rfl | exact Or.inr rfl) (bpe_op op_fdiv (bpv 3) bpe_int)))))
      (bpss_one (bps_ret (bpv 4))))))), ?_⟩
    walk_at "rs"
    refine seq_rule fun N hN => ?_
    walk_at "rd"
    refine hN _ _ ?_
    clear hN N
    refine seq_rule fun N hN => ?_
    have hM : ∀ bits : Int, N [some (.int c), some (.int n), some (.bl bb), some (.int bits), none, none] H := by
      intro bits
      refine hN _ _ ?_
      clear hN N
      refine seq_rule fun N hN => ?_
      walk_at "rd"
      refine ⟨Nat.zero_le _, fun q hq => hN _ _ ?_⟩
      clear hN N
      refine seq_rule fun N hN => ?_
      refine ⟨_, rfl, _, _, rfl, rfl, _, _, rfl, ⟨by decide, by decide, by omega, by omega⟩, for_range (n := (n + 1 - 1).toNat) (lo := 1) (fun i σ H2 => ∃ (v : Option V) (bits : Int) (l : List Int), σ = [some (.int c), some (.int n), some (.bl bb), some (.int bits), some (.ref q), v] ∧ Same H H2 ∧ H2 q = some (.lst (l.map V.int)) ∧ (∀ r ∈ l, 1 ≤ r ∧ r ≤ n) ∧ l.length ≤ i)
        ⟨none, bits, [], rfl, Same.new hq, upd_same, fun r hr => (by cases hr), Nat.le_refl _⟩ ?_ ?_⟩
      · rintro i σ H2 hi ⟨v, bits, l, rfl, s2, q2, rg, ll⟩
        walk_at "rg"
        refine seq_rule fun N2 hN => ?_
        have hM2 : ∀ (l : List Int) (H3 : Hp), Same H H3 → H3 q = some (.lst (l.map V.int)) → (∀ r ∈ l, 1 ≤ r ∧ r ≤ n) → l.length ≤ i + 1 → N2 [some (.int c), some (.int n), some (.bl bb), some (.int bits), some (.ref q), some (.int (1 + (i : Int)))] H3 := by
          intro l H3 s3 q3 rg3 l3
          refine hN _ _ ?_
          walk_at "rd"
          exact ⟨s3, l, q3, rg3, l3⟩
        walk_at "rd"
        refine ite_both (fun _ => ⟨tyV_lst (SqL.of q2), _, q2, ?_, hM2 (l ++ [1 + (i : Int)]) _ (s2.upd_new hq) ?_ (fun r hr => ?_) ?_⟩) fun _ => hM2 l H2 s2 q2 rg (by omega)
        · rw [List.length_map]
          exact Nat.lt_of_lt_of_le (show List.length l < 3000 by omega) (sz_of (by decide))
        · rw [upd_same, List.map_append]
          rfl
        · rcases List.mem_append.mp hr with z | z
          · exact rg r z
          · rw [List.mem_singleton.mp z]
            omega
        · rw [List.length_append]
          simp only [List.length_cons, List.length_nil]
          omega
      · rintro σ H2 ⟨v, bits, l, rfl, s2, q2, rg, ll⟩
        refine hN _ _ ?_
        walk_at "rd"
        exact k q H2 l hq s2 q2 rg (by omega)
    walk_at "rd"
    exact ite_both (fun _ => ⟨_, rfl, fun m _ _ => hM m⟩) fun _ => hM _
theorem sc_l_made_by : FnScope ["script", "many", "mixed", "names", "base", "marks", "follows", "lasts"] ["script", "many", "mixed", "names", "base"] (defScope s_l_made_by) := ⟨rfl, rfl, rfl, by decide +kernel, rfl, by decide +kernel, by decide +kernel⟩
theorem ok_l_made_by (T : Txt K mg t) : FnOk P w K mg base (CX1 P w) 4 t.a_l_made_by t.d_l_made_by ["script", "many", "mixed", "names", "base"] (sp_l_made_by K) := by
  have G_l_rooms_by := (ok_l_rooms_by (P := P) (w := w) (base := base) T).mono (show 2 ≤ 3 by decide)
  have G_l_mark_by := (ok_l_mark_by (P := P) (w := w) (base := base) T).mono (show 3 ≤ 3 by decide)
  have G_l_cell_at := (ok_l_cell_at (P := P) (w := w) (base := base) T).mono (show 1 ≤ 3 by decide)
  refine T.l_made_by.fn.okN sc_l_made_by (fun vs H Q E h => ?_) (fun cdv A outer s H vs Q E hr h => ?_)
  · obtain ⟨sc, nm, cs, many, mx, nms, b, rfl, hS, m1, m24, e1, hb, k⟩ := h
    rfl
  · obtain ⟨sc, nm, cs, many, mx, nms, b, rfl, hS, m1, m24, e1, hb, k⟩ := h
    refine ⟨_, Bx.un (bpss_cons (bps_setC (i := 5) sc_l_made_by.nd rfl (by first | exact Or.inl rfl | exact Or.inr rfl) rfl (N := ["k", "names", "base", "script"]) (fr := [3, 4, 0]) (CSc.of (by kernel_rfl)) (bpi_range1 rfl T.b_range (bpa_cons (bpv 1) bpa_nil)) (fun _ _ _ _ _ => bpts_nil)
        (fun _ _ _ _ _ => (bpe_fnx T.l_mark_by G_l_mark_by hr pass0' (bpa_cons (bpe_fnx T.l_cell_at G_l_cell_at hr pass0' (bpa_cons (bpv 3) (bpa_cons (bpe_op op_add bpe_int (bpv 0)) bpa_nil))) (bpa_cons (bpv 1) (bpa_cons (bpv 2) bpa_nil))))))
      (bpss_cons (bps_setC (i := 6) sc_l_made_by.nd rfl (by first | exact Or.inl rfl | exact Or.inr rfl) rfl (N := ["k", "many", "mixed", "script"]) (fr := [1, 2, 0]) (CSc.of (by kernel_rfl)) (bpi_range1 rfl T.b_range (bpa_cons (bpe_op op_add (bpv 1) bpe_int) bpa_nil)) (fun _ _ _ _ _ => bpts_nil)
        (fun _ _ _ _ _ => (bpe_fnx T.l_rooms_by G_l_rooms_by hr pass0' (bpa_cons (bpe_fnx T.l_cell_at G_l_cell_at hr pass0' (bpa_cons (bpv 3) (bpa_cons (bpe_op op_add (bpe_op op_add bpe_int (bpv 1)) (bpv 0)) bpa_nil))) (bpa_cons (bpv 1) (bpa_cons (bpv 2) bpa_nil))))))
      (bpss_cons (bps_set (i := 7) sc_l_made_by.nd rfl (by first | exact Or.inl rfl | exact Or.inr rfl) (bpe_fnx T.l_rooms_by G_l_rooms_by hr pass0' (bpa_cons (bpe_fnx T.l_cell_at G_l_cell_at hr pass0' (bpa_cons (bpv 0) (bpa_cons bpe_int bpa_nil))) (bpa_cons (bpe_op op_add (bpv 1) bpe_int) (bpa_cons (bpv 2) bpa_nil)))))
      (bpss_one (bps_ret (bpe_tup (bpa_cons (bpv 5) (bpa_cons (bpv 6) (bpa_cons (bpe_comp rfl (N := ["room", "lasts"]) (fr := [7]) (CSc.of (by kernel_rfl)) (bpi_range1 rfl T.b_range (bpa_cons (bpe_op op_add (bpv 1) bpe_int) bpa_nil)) (fun _ _ _ _ _ => bpts_nil)
        (fun _ _ _ _ _ => (bpe_cmpR (op_in_seqK K) (bpe_op op_add (bpv 0) bpe_int) (bpv 1) (by with_unfolding_all rfl)))) bpa_nil))))))))), ?_⟩
    walk_at "rs"
    refine seq_rule fun N hN => ?_
    refine ⟨_, rfl, _, rfl, by omega, by omega, comp_rel (tells_range (n := many.toNat)) (fun H2 _ v => ∃ (p : Addr) (m : Mrk), v = .ref p ∧ H2 p = some (.tup (mkV m)) ∧ MrkW m) (fun _ _ _ _ s ⟨p, m, e, h1, h2⟩ => ⟨p, m, e, s _ _ h1, h2⟩) (sz_of (by rw [List.length_range]; omega)) (fun j H2 Q2 _ s2 h => ?_) (fun H2 _ v D ys zs hD ⟨p, m, e, h1, h2⟩ => ⟨p, m, e, (upd_ne (ne_of h1 hD (by intro z; cases z))).trans h1, h2⟩) fun lm H2 ys hlm s2 d2 al2 => hN _ _ ?_⟩
    · walk_at "rd"
      exact ⟨_, _, _, rfl, s2.seq hS, by omega, fun c => ⟨_, _, _, _, rfl, ⟨s2 _ _ e1.1, e1.2⟩, hb, fun m p H3 om hp s3 e3 => h _ _ s3 ⟨p, m, rfl, e3, om⟩⟩⟩
    clear hN N
    obtain ⟨am, ms, rfl, alm, lms⟩ := refs_rel al2
    have msn : ms.length = many.toNat := by rw [lms, List.length_range]
    have hmk : MksAt H2 lm ms := ⟨am, d2, alm⟩
    clear al2 alm d2 lms
    refine seq_rule fun N hN => ?_
    refine ⟨_, rfl, _, _, rfl, rfl, _, rfl, by omega, by omega, comp_own (tells_range (n := (many + 1).toNat)) (fun H3 _ p => ∃ l : List Int, H3 p = some (.lst (l.map V.int)) ∧ (∀ r ∈ l, 1 ≤ r ∧ r ≤ many) ∧ l.length ≤ 100) (fun _ _ _ _ s ⟨l, h1, h2⟩ => ⟨l, s _ _ h1, h2⟩) (sz_of (by rw [List.length_range]; omega)) (fun j H3 Q2 _ s3 h => ?_) (fun H3 _ p D o n ⟨l, h1, h2⟩ => ⟨l, (upd_ne n).trans h1, h2⟩) fun lf H3 ys hlf s3 d3 al3 => hN _ _ ?_⟩
    · walk_at "rd"
      exact ⟨_, _, _, rfl, (s2.trans s3).seq hS, by omega, fun c => ⟨_, _, _, rfl, by omega, by omega, fun q H4 l hq s4 e4 rg ll => h _ _ hq s4 ⟨l, e4, rg, ll⟩⟩⟩
    clear hN N
    obtain ⟨af, fs, rfl, alf, lfs⟩ := refs_rel (P := fun p (l : List Int) => H3 p = some (.lst (l.map V.int)) ∧ (∀ r ∈ l, 1 ≤ r ∧ r ≤ many) ∧ l.length ≤ 100) (al3.imp fun _ _ ⟨p, e, ⟨l, h⟩, _⟩ => ⟨p, l, e, h⟩)
    have fsn : fs.length = (many + 1).toNat := by rw [lfs, List.length_range]
    have hfo : FolAt H3 lf fs := ⟨af, d3, alf.imp fun _ _ h => h.1⟩
    have frng : ∀ l ∈ fs, (∀ r ∈ l, 1 ≤ r ∧ r ≤ many) ∧ l.length ≤ 100 := fun l hl => by
      obtain ⟨i, hi⟩ := List.mem_iff_getElem?.mp hl
      obtain ⟨x, _, r⟩ := alf.at hi
      exact r.2
    clear al3 alf d3 lfs
    have hmk3 := hmk.same s3
    have s03 := s2.trans s3
    refine seq_rule fun N hN => ?_
    walk_at "rd"
    refine ⟨_, _, _, rfl, s03.seq hS, by decide, fun c3 => ⟨_, _, _, rfl, by omega, by omega, fun ll H4 la hll s4 e4 _ _ => hN _ _ ?_⟩⟩
    clear hN N
    have hmk4 := hmk3.same s4
    have hfo4 := hfo.same s4
    have s04 := s03.trans s4
    refine ⟨_, rfl, _, rfl, _, rfl, _, _, rfl, rfl, _, rfl, by omega, by omega, comp_map (tells_range (n := (many + 1).toNat)) (fun (j : Nat) => .bl (decide ((0 + (j : Int) + 1) ∈ la))) (sz_of (by rw [List.length_range]; omega)) (fun j H5 Q2 _ s5 h => ?_) fun le H5 hle s5 d5 => ?_⟩
    · walk_at "rd"
      exact rd_inN (SqL.of (s5 _ _ e4)) (h _ (Same.refl _))
    obtain ⟨bs, eb, bsn⟩ : ∃ bs : List Bool, EndsAt H5 le bs ∧ bs.length = (many + 1).toNat := by
      refine ⟨(List.range (many + 1).toNat).map fun (j : Nat) => decide ((0 + (j : Int) + 1) ∈ la), ?_, by rw [List.length_map, List.length_range]⟩
      show H5 le = _
      rw [d5, List.map_map]
      rfl
    clear d5
    have ok5 : MchOk ⟨ms, fs, bs⟩ := ⟨by show fs.length = ms.length + 1; omega, by show bs.length = ms.length + 1; omega, fun l hl r hr => by
      have := (frng l hl).1 r hr
      show 1 ≤ r ∧ r ≤ (ms.length : Int)
      omega, by show ms.length ≤ 24; omega, fun l hl => (frng l hl).2⟩
    have s05 := s04.trans s5
    refine ⟨by show 3 ≤ sizeLine; decide, fun p hp => k p _ ⟨ms, fs, bs⟩ (s05.free hp) (s05.upd_new (s05.free hp)) ?_ ok5⟩
    have n6 : Same H5 (upd H5 p (.tup [.ref lm, .ref lf, .ref le])) := Same.new hp
    exact ⟨lm, lf, le, upd_same, (hmk4.same s5).same n6, (hfo4.same s5).same n6, n6 _ _ eb⟩
theorem sc_l_line : FnScope ["entries", "place", "line", "at", "turn"] ["entries", "place"] (defScope s_l_line) := ⟨rfl, rfl, rfl, by decide +kernel, rfl, by decide +kernel, by decide +kernel⟩
theorem ok_l_line (T : Txt K mg t) : FnOk P w K mg base (CX1 P w) 1 t.a_l_line t.d_l_line ["entries", "place"] (sp_l_line) := by
  refine T.l_line.fn.okN sc_l_line (fun vs H Q E h => ?_) (fun cdv A outer s H vs Q E hr h => ?_)
  · obtain ⟨q, mks, good, st, es, k, rfl, hE, bo, few, kl, kk⟩ := h
    rfl
  · obtain ⟨q, mks, good, st, es, k, rfl, hE, bo, few, kl, kk⟩ := h
    refine ⟨_, Bx.un (bpss_cons (bps_set (i := 2) sc_l_line.nd rfl (by first | exact Or.inl rfl | exact Or.inr rfl) (bpe_lst bpa_nil))
      (bpss_cons (bps_set (i := 3) sc_l_line.nd rfl (by first | exact Or.inl rfl | exact Or.inr rfl) (bpv 1))
      (bpss_cons (bps_for PassesOwn.never rfl (bpi_range1 rfl T.b_range (bpa_cons (bpe_callB call_len_seq (by rfl) T.b_len PySem.boot_len (bpa_cons (bpv 0) bpa_nil)) bpa_nil)) (bpg_name (i := 4) sc_l_line.nd rfl (by first | exact Or.inl rfl | exact Or.inr rfl))
      (bpss_one (bps_if (bpw_and (bpt_cmpR op_gt (bpv 3) bpe_int (nomark _)) (bpw_and1 (bpt_cmpR op_lt (bpv 3) (bpe_callB call_len_seq (by rfl) T.b_len PySem.boot_len (bpa_cons (bpv 0) bpa_nil)) (nomark _)))).bpt
      (bpss_cons (bps_expr (bpe_bm PySem.F.plainAttrs_list PySem.F.slot_list_append PySem.F.type_list_append mt_append (bpv 2) (bpa_cons (bpv 3) bpa_nil)))
      (bpss_one (bps_set (i := 3) sc_l_line.nd rfl (by first | exact Or.inl rfl | exact Or.inr rfl) (bpe_ixA ix_tup (bpe_ixA ix_list (bpv 0) (bpv 3)) bpe_int))))
      bpss_nil)))
      (bpss_one (bps_ret (bpe_listR rfl (by rfl) T.b_list (by rfl) T.b_reversed (bpa_cons (bpv 2) bpa_nil))))))), ?_⟩
    walk_at "rs"
    obtain ⟨as, hq, al⟩ := id hE
    refine seq_rule fun N hN => ?_
    walk_at "rd"
    refine ⟨Nat.zero_le _, fun ll hll => hN _ _ ?_⟩
    clear hN N
    have s1 : Same H (upd H ll (.lst [])) := Same.new hll
    have q1 : upd H ll (.lst []) ll = some (.lst (([] : List Nat).map fun (n : Nat) => V.int n)) := upd_same
    generalize upd H ll (.lst []) = H1 at s1 q1
    refine seq_rule fun N hN => ?_
    walk_at "rd"
    refine hN _ _ ?_
    clear hN N
    refine seq_rule fun N hN => ?_
    have len : (as.map V.ref).length = es.length := by rw [List.length_map, al.len]
    refine ⟨_, rfl, q, _, rfl, .inl (SqL.of (s1 _ _ hq)), _, rfl, by omega, by omega, ?_⟩
    rw [len, Int.toNat_natCast]
    refine for_range (n := es.length) (lo := 0) (fun i σ H2 => ∃ (m : Nat) (done : List Nat) (v : Option V), σ = [some (.ref q), some (.int k), some (.ref ll), some (.int m), v] ∧ Same H H2 ∧ H2 ll = some (.lst (done.map fun (n : Nat) => V.int n)) ∧ m < es.length ∧ (m = 0 ∨ m + i ≤ k) ∧ lineC es es.length k = done ++ lineC es m m) ⟨k, [], none, rfl, s1, q1, kl, .inr (Nat.le_refl _), lineC_any bo _ _ _ (by omega) (Nat.le_refl _) kl⟩ ?_ ?_
    · rintro i σ H2 hi ⟨m, done, v, rfl, s2, q2, ml, mi, line⟩
      clear hN
      walk_at "rg"
      walk_at "rd"
      have dl : done.length ≤ 2500 := by
        have h2 : (lineC es es.length k).length ≤ es.length := lineC_len _ _
        rw [line, List.length_append] at h2
        omega
      refine ite_both (fun h => ⟨_, .inl (SqL.of (s2 _ _ hq)), ite_both (fun h2 => ?_) fun h2 => absurd (show (m : Int) < (as.map V.ref).length by rw [len]; omega) h2⟩) fun h => ⟨m, rfl, s2, done, q2, ml, .inl (by omega), line⟩
      obtain ⟨m', rfl⟩ : ∃ m', m = m' + 1 := ⟨m - 1, by omega⟩
      have he : es[m' + 1]? = some es[m' + 1] := by simp
      generalize es[m' + 1] = e at he
      obtain ⟨j, f, mk, h3, h4, _⟩ := bo.nxt m' e he
      obtain ⟨be, hbe, rbe⟩ := al.at he
      have s3 : Same H (upd H2 ll (.lst ((done.map fun (n : Nat) => V.int n) ++ [.int ((m' + 1 : Nat) : Int)]))) := s2.upd_new hll
      refine ⟨tyV_lst (SqL.of q2), _, q2, Nat.lt_of_lt_of_le (show (done.map fun (n : Nat) => V.int n).length < 3000 by rw [List.length_map]; omega) (sz_of (by decide)), rd_ixL (s3 _ _ hq) (atI_nat (by rw [List.getElem?_map, hbe]; rfl)) (rd_ixT (s3 _ _ rbe) rfl ⟨j, by rw [h4], s3, done ++ [m' + 1], ?_, by omega, by omega, ?_⟩)⟩
      · rw [upd_same, List.map_append]
        rfl
      · rw [line, lineC_step bo he h4, List.append_assoc]
        rfl
    · rintro σ H2 ⟨m, done, v, rfl, s2, q2, ml, mi, line⟩
      refine hN _ _ ?_
      walk_at "rd"
      obtain rfl : m = 0 := by omega
      rw [lineC_zero, List.append_nil] at line
      refine ⟨_, SqL.of q2, fun l hl => kk l _ (s2.free hl) (s2.upd_new (s2.free hl)) ?_⟩
      rw [upd_same]
      unfold lineI
      rw [line, List.map_reverse]
theorem sc_l_led : FnScope ["way", "entries", "place", "made", "ties", "line", "here", "k", "step", "entry", "tie"] ["way", "entries", "place", "made", "ties"] (defScope s_l_led) := ⟨rfl, rfl, rfl, by decide +kernel, rfl, by decide +kernel, by decide +kernel⟩
theorem ok_l_led (T : Txt K mg t) : FnOk P w K mg base (CX1 P w) 2 t.a_l_led t.d_l_led ["way", "entries", "place", "made", "ties"] (sp_l_led) := by
  have G_l_line := (ok_l_line (P := P) (w := w) (base := base) T).mono (show 1 ≤ 1 by decide)
  have G_l_whole := (ok_l_whole (P := P) (w := w) (base := base) T).mono (show 1 ≤ 1 by decide)
  refine T.l_led.fn.okN sc_l_led (fun vs H Q E h => ?_) (fun cdv A outer s H vs Q E hr h => ?_)
  · obtain ⟨wl, q, a, pt, M, st, es, k, rs, rfl, hW, hE, bo, few, kl, hM, ok, hR, nd, kk⟩ := h
    rfl
  · obtain ⟨wl, q, a, pt, M, st, es, k, rs, rfl, hW, hE, bo, few, kl, hM, ok, hR, nd, kk⟩ := h
    refine ⟨_, Bx.un (bpss_cons (bps_set (i := 5) sc_l_led.nd rfl (by first | exact Or.inl rfl | exact Or.inr rfl) (bpe_fnx T.l_line G_l_line hr pass0' (bpa_cons (bpv 1) (bpa_cons (bpv 2) bpa_nil))))
      (bpss_cons (bps_if (bpw_or (bpt_not (bpt_val (bpe_callB call_isinst (by rfl) T.b_isinstance PyProof.Rows.boot_isinstance (bpa_cons (bpv 0) (bpa_cons (bpe_ty T.b_list PyProof.Rows.boot_list) bpa_nil))))) (bpw_or (bpt_cmpR op_ne (bpe_callB call_len_seq (by rfl) T.b_len PySem.boot_len (bpa_cons (bpv 0) bpa_nil)) (bpe_ixA ix_tup (bpe_ixA ix_list (bpv 1) (bpv 2)) bpe_int) (nomark _)) (bpw_or1 (bpt_cmpR op_ne (bpe_callB call_len_seq (by rfl) T.b_len PySem.boot_len (bpa_cons (bpv 0) bpa_nil)) (bpe_callB call_len_seq (by rfl) T.b_len PySem.boot_len (bpa_cons (bpv 5) bpa_nil)) (nomark _))))).bpt
      (bpss_one (bps_ret bpe_bl))
      bpss_nil)
      (bpss_cons (bps_set (i := 6) sc_l_led.nd rfl (by first | exact Or.inl rfl | exact Or.inr rfl) (bpe_ixA ix_tup (bpe_ixA ix_list (bpv 1) bpe_int) bpe_int))
      (bpss_cons (bps_for PassesOwn.never rfl (bpi_range1 rfl T.b_range (bpa_cons (bpe_callB call_len_seq (by rfl) T.b_len PySem.boot_len (bpa_cons (bpv 0) bpa_nil)) bpa_nil)) (bpg_name (i := 7) sc_l_led.nd rfl (by first | exact Or.inl rfl | exact Or.inr rfl))
      (bpss_cons (bps_set (i := 8) sc_l_led.nd rfl (by first | exact Or.inl rfl | exact Or.inr rfl) (bpe_ixA ix_list (bpv 0) (bpv 7)))
      (bpss_cons (bps_set (i := 9) sc_l_led.nd rfl (by first | exact Or.inl rfl | exact Or.inr rfl) (bpe_ixA ix_list (bpv 1) (bpe_ixA ix_list (bpv 5) (bpv 7))))
      (bpss_cons (bps_if (bpw_or (bpt_not (bpt_val (bpe_callB call_isinst (by rfl) T.b_isinstance PyProof.Rows.boot_isinstance (bpa_cons (bpv 8) (bpa_cons (bpe_ty T.b_tuple PyProof.Rows.boot_tuple) bpa_nil))))) (bpw_or (bpt_cmpR op_ne (bpe_callB call_len_seq (by rfl) T.b_len PySem.boot_len (bpa_cons (bpv 8) bpa_nil)) bpe_int (nomark _)) (bpw_or (bpt_not (bpt_val (bpe_fnx T.l_whole G_l_whole hr pass0' (bpa_cons (bpe_ixA ix_tup (bpv 8) bpe_int) bpa_nil)))) (bpw_or1 (bpt_not (bpt_val (bpe_callB call_isinst (by rfl) T.b_isinstance PyProof.Rows.boot_isinstance (bpa_cons (bpe_ixA ix_tup (bpv 8) bpe_int) (bpa_cons (bpe_ty T.b_bool PyProof.Rows.boot_bool) bpa_nil))))))))).bpt
      (bpss_one (bps_ret bpe_bl))
      bpss_nil)
      (bpss_cons (bps_if (bpw_or (bpt_cmp (bpc_dnotin (hu_of hr) (bpe_ixA ix_tup (bpv 8) bpe_int) (bpv 4))) (bpw_or1 (bpt_cmpR (op_neD (hu64 hr)) (bpv 8) (bpe_tup (bpa_cons (bpe_ixA ix_tup (bpv 9) bpe_int) (bpa_cons (bpe_ixA ix_tup (bpe_ixA ix_list (bpe_ixA ix_tup (bpv 3) bpe_int) (bpe_op op_sub (bpe_ixA ix_tup (bpv 9) bpe_int) bpe_int)) bpe_int) bpa_nil))) (nomark _)))).bpt
      (bpss_one (bps_ret bpe_bl))
      bpss_nil)
      (bpss_cons (bps_set (i := 10) sc_l_led.nd rfl (by first | exact Or.inl rfl | exact Or.inr rfl) (bpe_dgetA (hu_of hr) (bpv 4) (bpe_ixA ix_tup (bpv 8) bpe_int)))
      (bpss_cons (bps_if (bpt_cmpR op_ne (bpe_ixA ix_list (bpe_lst (bpa_cons (bpe_ixA ix_tup (bpv 10) bpe_int) (bpa_cons (bpe_ixA ix_tup (bpv 10) bpe_int) bpa_nil))) (bpe_callTy call_int1 (by rfl) T.b_int PyProof.Rows.boot_int (bpa_cons (bpe_ixA ix_tup (bpv 8) bpe_int) bpa_nil))) (bpv 6) (nomark _))
      (bpss_one (bps_ret bpe_bl))
      bpss_nil)
      (bpss_cons (bps_set (i := 6) sc_l_led.nd rfl (by first | exact Or.inl rfl | exact Or.inr rfl) (bpe_ixA ix_list (bpe_lst (bpa_cons (bpe_ixA ix_tup (bpv 10) bpe_int) (bpa_cons (bpe_ixA ix_tup (bpv 10) bpe_int) bpa_nil))) (bpe_callTy call_int1 (by rfl) T.b_int PyProof.Rows.boot_int (bpa_cons (bpe_ixA ix_tup (bpv 8) bpe_int) bpa_nil))))
      (bpss_one (bps_if (bpt_cmpR op_ne (bpv 6) (bpe_ixA ix_tup (bpv 9) bpe_int) (nomark _))
      (bpss_one (bps_ret bpe_bl))
      bpss_nil))))))))))
      (bpss_one (bps_ret (bpe_cmpR op_eq (bpv 6) (bpe_ixA ix_tup (bpe_ixA ix_list (bpv 1) (bpv 2)) bpe_int) (nomark _)))))))), ?_⟩
    walk_at "rs"
    obtain ⟨as, hq, al⟩ := id hE
    obtain ⟨aw, hw, alw⟩ := id hW
    obtain ⟨xm, xf, xe, ha, hm, hf, he⟩ := hM.at_
    obtain ⟨ams, hma, alm⟩ := hm
    refine seq_rule fun N hN => ?_
    walk_at "rd"
    refine ⟨q, M.mks, _, st, es, k, rfl, hE, bo, few, kl, fun ll H1 hll s1 q1 => hN _ _ ?_⟩
    clear hN N
    have hek : es[k]? = some es[k] := by simp
    generalize es[k] = ek at hek
    obtain ⟨bk, hbk, rbk⟩ := al.at hek
    have eL : lineC es es.length k = lineC es k k := lineC_any bo _ _ _ (by omega) (Nat.le_refl _) kl
    have hfar := bo.far k ek hek
    have hch := bo.chain k kl
    unfold lineI at q1
    rw [eL] at alw q1
    have lw : aw.length = (lineC es k k).reverse.length := by rw [alw.len, List.length_reverse, List.length_map, List.length_reverse]
    have lL : (lineC es k k).reverse.length ≤ 2500 := by
      rw [List.length_reverse]
      exact Nat.le_trans (lineC_len _ _) (by omega)
    rw [← List.map_reverse] at alw
    rw [← List.length_reverse] at hfar
    generalize (lineC es k k).reverse = r at alw q1 lw lL hfar hch
    refine seq_rule fun N hN => ?_
    walk_at "rd"
    refine ⟨_, .lst (s1 _ _ hw), _, kit_ll K, ite_F (by decide) ⟨_, .inl (SqL.of (s1 _ _ hw)), rd_ixL (s1 _ _ hq) (atI_nat (by rw [List.getElem?_map, hbk]; rfl)) (rd_ixT (s1 _ _ rbk) rfl ⟨rfl, ite_F (fun z => z (by rw [List.length_map, lw, hfar])) ⟨_, .inl (SqL.of (s1 _ _ hw)), _, .inl (SqL.of q1), ite_F (fun z => z (by simp only [List.length_map]; omega)) (hN _ _ ?_)⟩⟩)⟩⟩
    clear hN N
    obtain ⟨b0, hb0, rb0⟩ := al.at bo.fst
    refine seq_rule fun N hN => ?_
    walk_at "rd"
    refine rd_ixL (s1 _ _ hq) (at_get (by decide) (by rw [List.getElem?_map]; exact congrArg (Option.map V.ref) hb0)) (rd_ixT (s1 _ _ rb0) rfl (hN _ _ ?_))
    clear hN N
    refine seq_rule fun N hN => ?_
    have len : (aw.map V.ref).length = r.length := by rw [List.length_map, lw]
    refine ⟨_, rfl, wl, _, rfl, .inl (SqL.of (s1 _ _ hw)), _, rfl, by omega, by omega, ?_⟩
    rw [len, Int.toNat_natCast]
    refine for_range (n := r.length) (lo := 0) (fun i σ H2 => ∃ (m : Nat) (e : En) (v1 v2 v3 v4 : Option V), σ = [some (.ref wl), some (.ref q), some (.int k), some (.ref a), some (.ref pt), some (.ref ll), some (.str (tx e.th)), v1, v2, v3, v4] ∧ Same H1 H2 ∧ es[m]? = some e ∧ Chain es m (r.drop i) k) ⟨0, _, none, none, none, none, rfl, Same.refl _, bo.fst, hch⟩ ?_ ?_
    · rintro i σ H2 hi ⟨m, e, v1, v2, v3, v4, rfl, s2, hem, ch⟩
      clear hN
      have s02 := s1.trans s2
      rw [List.drop_eq_getElem_cons hi] at ch
      have hri : r[i]? = some r[i] := by simp
      generalize r[i] = x at ch hri
      obtain ⟨⟨y, f, rfl, hfx, hbef⟩, ch2⟩ := ch
      obtain ⟨j, e', mk, j1, j2, j3, j4, j5, j6, tn, tie, jt, jf, jg⟩ := bo.nxt y f hfx
      obtain rfl : j = m := by omega
      obtain rfl : e' = e := by rw [hem] at j3; cases j3; rfl
      obtain ⟨bw, hbw, rbw⟩ := alw.at (show (r.map (stepC M.mks es))[i]? = some (stepC M.mks es (y + 1)) by rw [List.getElem?_map, hri]; rfl)
      have est : stepC M.mks es (y + 1) = (f.num, mk.back) := by
        unfold stepC
        rw [hfx]
        show (f.num, ((M.mks[(f.rm - 1).toNat]?).map Mrk.back).getD false) = _
        rw [j6]
        rfl
      rw [est] at rbw
      obtain ⟨bf, hbf, rbf⟩ := al.at hfx
      obtain ⟨bm, hbm, rm, _⟩ := alm.at j6
      walk_at "rg"
      refine seq_rule fun N hN => ?_
      walk_at "rd"
      refine rd_ixL (s02 _ _ hw) (by rw [Int.zero_add]; exact atI_nat (by rw [List.getElem?_map, hbw]; rfl)) (hN _ _ ?_)
      clear hN N
      refine seq_rule fun N hN => ?_
      walk_at "rd"
      refine rd_ixL (s2 _ _ q1) (by rw [Int.zero_add]; exact atI_nat (by rw [List.getElem?_map, hri]; rfl)) (rd_ixL (s02 _ _ hq) (atI_nat (by rw [List.getElem?_map, hbf]; rfl)) (hN _ _ ?_))
      clear hN N
      have rbw2 := s02 _ _ rbw
      refine seq_rule fun N hN => ?_
      walk_at "rd"
      refine ⟨_, .tup rbw2, _, kit_tt K, ite_F (by decide) ⟨_, .inr (SqT.of rbw2), ite_F (fun z => z rfl) (rd_ixT rbw2 rfl ⟨_, rfl, _, rfl, ite_F (by decide) (rd_ixT rbw2 rfl ⟨_, .bl _, _, kit_bb K, ite_F (by decide) (hN _ _ ?_)⟩)⟩)⟩⟩
      clear hN N
      have hv : valV (kvTies rs) (.inl f.num) = some (.ref tn) := by
        have h1 : (valV (kvTies rs) (.inl f.num)).isSome = true := by
          rw [ties_isSome]
          exact decide_eq_true (List.mem_map.mpr ⟨_, jt, rfl⟩)
        obtain ⟨v, h2⟩ := Option.isSome_iff_exists.mp h1
        have h3 := valV_mem h2
        unfold kvTies at h3
        obtain ⟨x, hx, ex⟩ := List.mem_map.mp h3
        injection ex with e1 e2
        injection e1 with e1
        have : x = (f.num, tn, tie) := nd_inj nd hx jt e1
        rw [h2, ← e2, this]
      have hR2 := hR.same s02
      refine seq_rule fun N hN => ?_
      walk_at "rd"
      have fitT : Fit 1 (.tuple [.int f.num, .bool mk.back]) := fit_tup (fit_all fun d hd => by
        simp only [List.mem_cons, List.not_mem_nil, or_false] at hd
        rcases hd with rfl | rfl
        · exact fit_int _
        · exact fit_bool _)
      refine rd_ixT rbw2 rfl ⟨_, DGet.k (k := .inl f.num) hR2.at_, ite_F (by rw [hv]; exact fun z => nomatch z) (rd_ixT (s02 _ _ rbf) rfl (rd_ixT (s02 _ _ ha) rfl (rd_ixT (s02 _ _ rbf) rfl ⟨_, rfl, rd_ixL (s02 _ _ hma) (at_get (by omega) (by rw [List.getElem?_map, hbm]; rfl)) (rd_ixT (s02 _ _ rm) rfl ⟨by decide, fun b hb => ⟨.tuple [.int f.num, .bool mk.back], .tup (SqT.of (Same.new hb _ _ rbw2)) (.cons (.int _) (.cons (.bl _) .nil)), .tup (SqT.of upd_same) (.cons (.int _) (.cons (.bl _) .nil)), fitT.shaped (by decide), hN _ _ ?_⟩⟩)⟩)))⟩
      clear hN N
      have n3 : Same H2 (upd H2 b (.tup [.int f.num, .bl mk.back])) := Same.new hb
      generalize upd H2 b (.tup [.int f.num, .bl mk.back]) = H3 at n3
      have s13 := s2.trans n3
      have s03 := s02.trans n3
      have hR3 := hR2.same n3
      have rt := hR3.tups _ jt
      refine seq_rule fun N hN => ?_
      walk_at "rd"
      refine rd_ixT (n3 _ _ rbw2) rfl ⟨_, .inl ⟨_, .inl f.num, .inl hR3.at_, rfl, hv.symm⟩, hN _ _ ?_⟩
      clear hN N
      refine seq_rule fun N hN => ?_
      walk_at "rd"
      refine rd_ixT rt rfl (rd_ixT rt rfl ⟨by decide, fun l5 hl5 => ?_⟩)
      have n5 : Same H3 (upd H3 l5 (.lst [.str (tx tie.start), .str (tx tie.stop)])) := Same.new hl5
      have q5 : upd H3 l5 (.lst [.str (tx tie.start), .str (tx tie.stop)]) l5 = some (.lst [.str (tx tie.start), .str (tx tie.stop)]) := upd_same
      generalize upd H3 l5 (.lst [.str (tx tie.start), .str (tx tie.stop)]) = H5 at n5 q5
      have c1 : atI [V.str (tx tie.start), V.str (tx tie.stop)] (if mk.back = true then 1 else 0) = some (V.str (tx e'.th)) := by
        rw [← jf]
        unfold goneF
        cases mk.back <;> rfl
      refine rd_ixT (n5 _ _ (n3 _ _ rbw2)) rfl (.inr ⟨mk.back, rfl, rd_ixL q5 c1 ⟨rfl, ite_F (fun z => z rfl) (hN _ _ ?_)⟩⟩)
      clear hN N
      refine seq_rule fun N hN => ?_
      walk_at "rd"
      have rt5 := n5 _ _ rt
      refine rd_ixT rt5 rfl (rd_ixT rt5 rfl ⟨by decide, fun l6 hl6 => ?_⟩)
      have n6 : Same H5 (upd H5 l6 (.lst [.str (tx tie.stop), .str (tx tie.start)])) := Same.new hl6
      have q6 : upd H5 l6 (.lst [.str (tx tie.stop), .str (tx tie.start)]) l6 = some (.lst [.str (tx tie.stop), .str (tx tie.start)]) := upd_same
      generalize upd H5 l6 (.lst [.str (tx tie.stop), .str (tx tie.start)]) = H6 at n6 q6
      have c2 : atI [V.str (tx tie.stop), V.str (tx tie.start)] (if mk.back = true then 1 else 0) = some (V.str (tx f.th)) := by
        rw [← jg]
        unfold goneT
        cases mk.back <;> rfl
      refine rd_ixT (n6 _ _ (n5 _ _ (n3 _ _ rbw2))) rfl (.inr ⟨mk.back, rfl, rd_ixL q6 c2 (hN _ _ ?_)⟩)
      clear hN N
      walk_at "rd"
      refine rd_ixT (n6 _ _ (n5 _ _ (s03 _ _ rbf))) rfl ⟨rfl, ite_F (fun z => z rfl) ⟨y + 1, f, rfl, (s13.trans n5).trans n6, hfx, ch2⟩⟩
    · rintro σ H2 ⟨m, e, v1, v2, v3, v4, rfl, s2, hem, ch⟩
      refine hN _ _ ?_
      walk_at "rd"
      rw [List.drop_length] at ch
      obtain rfl : m = k := ch
      obtain rfl : e = ek := by rw [hek] at hem; cases hem; rfl
      refine rd_ixL ((s1.trans s2) _ _ hq) (atI_nat (by rw [List.getElem?_map, hbk]; rfl)) (rd_ixT ((s1.trans s2) _ _ rbk) rfl ⟨rfl, ?_⟩)
      rw [decide_eq_true rfl]
      exact kk H2 (s1.trans s2)
theorem sc_l_ends : FnScope ["entries", "made", "found", "k", "entry"] ["entries", "made"] (defScope s_l_ends) := ⟨rfl, rfl, rfl, by decide +kernel, rfl, by decide +kernel, by decide +kernel⟩
theorem ok_l_ends (T : Txt K mg t) : FnOk P w K mg base (CX1 P w) 1 t.a_l_ends t.d_l_ends ["entries", "made"] (sp_l_ends) := by
  refine T.l_ends.fn.okN sc_l_ends (fun vs H Q E h => ?_) (fun cdv A outer s H vs Q E hr h => ?_)
  · obtain ⟨q, a, M, st, good, es, rfl, hE, bo, few, hM, ok, kk⟩ := h
    rfl
  · obtain ⟨q, a, M, st, good, es, rfl, hE, bo, few, hM, ok, kk⟩ := h
    refine ⟨_, Bx.un (bpss_cons (bps_set (i := 2) sc_l_ends.nd rfl (by first | exact Or.inl rfl | exact Or.inr rfl) (bpe_lst bpa_nil))
      (bpss_cons (bps_for PassesOwn.never rfl (bpi_range1 rfl T.b_range (bpa_cons (bpe_callB call_len_seq (by rfl) T.b_len PySem.boot_len (bpa_cons (bpv 0) bpa_nil)) bpa_nil)) (bpg_name (i := 3) sc_l_ends.nd rfl (by first | exact Or.inl rfl | exact Or.inr rfl))
      (bpss_cons (bps_set (i := 4) sc_l_ends.nd rfl (by first | exact Or.inl rfl | exact Or.inr rfl) (bpe_ixA ix_list (bpv 0) (bpv 3)))
      (bpss_one (bps_if (bpw_and (bpt_val (bpe_ixA ix_list (bpe_ixA ix_tup (bpv 1) bpe_int) (bpe_ixA ix_tup (bpv 4) bpe_int))) (bpw_and1 (bpt_cmpR op_notIn_seq (bpe_ixA ix_tup (bpv 4) bpe_int) (bpe_comp rfl (N := ["row"]) (fr := []) (CSc.of (by kernel_rfl)) (bpi_list (bpv 2)) (fun _ _ _ _ _ => bpts_nil)
        (fun _ _ _ _ _ => (bpe_ixA (ix_tupK K) (bpv 0) bpe_int))) (by with_unfolding_all rfl)))).bpt
      (bpss_one (bps_expr (bpe_bm PySem.F.plainAttrs_list PySem.F.slot_list_append PySem.F.type_list_append mt_append (bpv 2) (bpa_cons (bpe_tup (bpa_cons (bpe_ixA ix_tup (bpv 4) bpe_int) (bpa_cons (bpv 3) bpa_nil))) bpa_nil))))
      bpss_nil))))
      (bpss_one (bps_ret (bpv 2))))), ?_⟩
    walk_at "rs"
    obtain ⟨as, hq, al⟩ := id hE
    obtain ⟨xm, xf, xe, ha, hm, hf, he⟩ := hM.at_
    refine seq_rule fun N hN => ?_
    walk_at "rd"
    refine ⟨Nat.zero_le _, fun fd hfd => hN _ _ ?_⟩
    clear hN N
    have s1 : Same H (upd H fd (.lst [])) := Same.new hfd
    have q1 : PairsAt (upd H fd (.lst [])) fd [] := ⟨[], upd_same, .nil⟩
    generalize upd H fd (.lst []) = H1 at s1 q1
    refine seq_rule fun N hN => ?_
    have len : (as.map V.ref).length = es.length := by rw [List.length_map, al.len]
    refine ⟨_, rfl, q, _, rfl, .inl (SqL.of (s1 _ _ hq)), _, rfl, by omega, by omega, ?_⟩
    rw [len, Int.toNat_natCast]
    refine for_range (n := es.length) (lo := 0) (fun i σ H2 => ∃ (v v' : Option V), σ = [some (.ref q), some (.ref a), some (.ref fd), v, v'] ∧ Same H H2 ∧ PairsAt H2 fd (endsC M.ends (es.take i) 0 [])) ⟨none, none, rfl, s1, q1⟩ ?_ ?_
    · rintro i σ H2 hi ⟨v, v', rfl, s2, q2⟩
      clear hN
      walk_at "rg"
      refine seq_rule fun N2 hN => ?_
      walk_at "rd"
      have hei : es[i]? = some es[i] := by simp
      generalize es[i] = e at hei
      obtain ⟨be, hbe, rbe⟩ := al.at hei
      obtain ⟨r0, r1⟩ := bo.rm hei
      obtain ⟨eb, heb⟩ : ∃ eb, M.ends[e.rm.toNat]? = some eb := ⟨M.ends[e.rm.toNat]'(by have := ok.le; omega), by simp⟩
      have zl : (es.take i).length = i := by rw [List.length_take]; omega
      have nx : endsC M.ends (es.take (i + 1)) 0 [] = if eb = true ∧ e.th ∉ (endsC M.ends (es.take i) 0 []).map (·.1) then endsC M.ends (es.take i) 0 [] ++ [(e.th, (i : Int))] else endsC M.ends (es.take i) 0 [] := by
        rw [take_get hei, endsC_snoc, heb, zl, Nat.zero_add]
        rfl
      rw [nx] at hN
      have lenm : (endsC M.ends (es.take i) 0 []).length ≤ 2500 := by
        have h1 := endsC_len M.ends (es.take i) 0 []
        rw [zl, List.length_nil] at h1
        omega
      generalize endsC M.ends (es.take i) 0 [] = m at q2 hN lenm
      refine rd_ixL (s2 _ _ hq) (by rw [Int.zero_add]; exact atI_nat (by rw [List.getElem?_map, hbe]; rfl)) (hN _ _ ?_)
      clear hN N2 nx
      obtain ⟨am, hfd2, alm⟩ := id q2
      walk_at "rd"
      refine rd_ixT (s2 _ _ ha) rfl (rd_ixT (s2 _ _ rbe) rfl (rd_ixL (s2 _ _ he) (at_get r0 (by rw [List.getElem?_map, heb]; rfl)) ⟨_, rfl, ite_both (fun h => ?_) fun h => ⟨s2, by rw [if_neg (fun z => h z.1)]; exact q2⟩⟩))
      subst h
      refine rd_ixT (s2 _ _ rbe) rfl ?_
      have T0 : Tells (Itl K fd) H2 ((am.zip m).map fun c => V.ref c.1) := by
        have e : (am.zip m).map (fun c => V.ref c.1) = am.map V.ref := by
          rw [show (fun c : Addr × (Nm × Int) => V.ref c.1) = V.ref ∘ Prod.fst from rfl, ← List.map_map, List.map_fst_zip (by rw [alm.len]; exact Nat.le_refl _)]
        rw [e]
        exact tells_list (SqL.of hfd2)
      refine ⟨_, rfl, fd, rfl, ⟨_, SqL.of hfd2⟩, comp_map T0 (fun c => .str (tx c.2.1)) (sz_of (by rw [List.length_zip]; omega)) (fun c H3 Q2 hc s3 h => ?_) fun D H3 hD s3 d3 => ?_⟩
      · walk_at "rd"
        exact rd_ixT (s3 _ _ (alm.zip c hc)) rfl (h _ (Same.refl _))
      have ez : (am.zip m).map (fun c => V.str (tx c.2.1)) = (m.map (·.1)).map fun z => V.str (tx z) := by
        rw [show (fun c : Addr × (Nm × Int) => V.str (tx c.2.1)) = (fun y : Nm × Int => V.str (tx y.1)) ∘ Prod.snd from rfl, ← List.map_map, List.map_snd_zip (by rw [alm.len]; exact Nat.le_refl _), List.map_map]
        rfl
      rw [ez] at d3
      have s03 := s2.trans s3
      refine rd_inS (SqL.of d3) ⟨_, rfl, ite_both (fun h => ?_) fun h => ⟨s03, ?_⟩⟩
      · have h1 : e.th ∉ m.map (·.1) := by simpa using h
        refine ⟨tyV_lst (SqL.of (s3 _ _ hfd2)), rd_ixT (s03 _ _ rbe) rfl ⟨by decide, fun b hb => ?_⟩⟩
        rw [Int.zero_add]
        have n4 : Same H3 (upd H3 b (.tup [.str (tx e.th), .int i])) := Same.new hb
        have q4 : upd H3 b (.tup [.str (tx e.th), .int i]) b = some (.tup [.str (tx e.th), .int i]) := upd_same
        generalize upd H3 b (.tup [.str (tx e.th), .int i]) = H4 at n4 q4
        refine ⟨_, n4 _ _ (s3 _ _ hfd2), Nat.lt_of_lt_of_le (show (am.map V.ref).length < 3000 by rw [List.length_map, alm.len]; omega) (sz_of (by decide)), (s03.trans n4).upd_new hfd, ?_⟩
        rw [if_pos ⟨rfl, h1⟩]
        exact pairs_push (w := (e.th, (i : Int))) (n4 _ _ (s3 _ _ hfd2)) (alm.imp fun _ _ r => n4 _ _ (s3 _ _ r)) q4
      · have h1 : e.th ∈ m.map (·.1) := by
          by_cases z : e.th ∈ m.map (·.1)
          · exact z
          · exact absurd (by simp [z]) h
        rw [if_neg (fun z => z.2 h1)]
        exact q2.same s3
    · rintro σ H2 ⟨v, v', rfl, s2, q2⟩
      refine hN _ _ ?_
      walk_at "rd"
      rw [List.take_length] at q2
      exact kk fd H2 hfd s2 q2
theorem sc_l_same : FnScope ["found", "due", "row"] ["found", "due"] (defScope s_l_same) := ⟨rfl, rfl, rfl, by decide +kernel, rfl, by decide +kernel, by decide +kernel⟩
theorem ok_l_same (T : Txt K mg t) : FnOk P w K mg base (CX1 P w) 2 t.a_l_same t.d_l_same ["found", "due"] (sp_l_same) := by
  have G_l_whole := (ok_l_whole (P := P) (w := w) (base := base) T).mono (show 1 ≤ 1 by decide)
  refine T.l_same.fn.okN sc_l_same (fun vs H Q E h => ?_) (fun cdv A outer s H vs Q E hr h => ?_)
  · obtain ⟨a, b, m, rfl, ha, hb, om, kk⟩ := h
    rfl
  · obtain ⟨a, b, m, rfl, ha, hb, om, kk⟩ := h
    refine ⟨_, Bx.un (bpss_cons (bps_if (bpw_or (bpt_not (bpt_val (bpe_callB call_isinst (by rfl) T.b_isinstance PyProof.Rows.boot_isinstance (bpa_cons (bpv 0) (bpa_cons (bpe_ty T.b_list PyProof.Rows.boot_list) bpa_nil))))) (bpw_or1 (bpt_cmpR (op_neD (hu64 hr)) (bpv 0) (bpv 1) (nomark _)))).bpt
      (bpss_one (bps_ret bpe_bl))
      bpss_nil)
      (bpss_cons (bps_for PassesOwn.never rfl (bpi_list (bpv 0)) (bpg_name (i := 2) sc_l_same.nd rfl (by first | exact Or.inl rfl | exact Or.inr rfl))
      (bpss_one (bps_if (bpw_or (bpt_not (bpt_val (bpe_callB call_isinst (by rfl) T.b_isinstance PyProof.Rows.boot_isinstance (bpa_cons (bpv 2) (bpa_cons (bpe_ty T.b_tuple PyProof.Rows.boot_tuple) bpa_nil))))) (bpw_or1 (bpt_not (bpt_val (bpe_fnx T.l_whole G_l_whole hr pass0' (bpa_cons (bpe_ixA ix_tup (bpv 2) bpe_int) bpa_nil)))))).bpt
      (bpss_one (bps_ret bpe_bl))
      bpss_nil)))
      (bpss_one (bps_ret bpe_bl)))), ?_⟩
    walk_at "rs"
    obtain ⟨as, hq, al⟩ := id ha
    refine seq_rule fun N hN => ?_
    walk_at "rd"
    refine ⟨_, .lst hq, _, kit_ll K, ite_F (by decide) ⟨_, ha.dat, hb.dat, (pairs_fit om).shaped (by decide), hN _ _ ?_⟩⟩
    clear hN N
    refine seq_rule fun N hN => ?_
    refine ⟨_, rfl, a, rfl, ⟨_, SqL.of hq⟩, for_list (xs := as.map V.ref) (fun i σ H2 => H2 = H ∧ ∃ v, σ = [some (.ref a), some (.ref b), v]) ⟨rfl, none, rfl⟩ (fun i σ H2 _ ⟨e, _⟩ => by rw [e]; exact SqL.of hq) ?_ ?_⟩
    · rintro i x σ H2 hx ⟨rfl, v, rfl⟩
      clear hN
      walk_at "rg"
      rw [List.getElem?_map] at hx
      obtain ⟨bx, hbx, rfl⟩ := Option.map_eq_some_iff.mp hx
      obtain ⟨y, hy⟩ : ∃ y, m[i]? = some y := ⟨m[i]'(by rw [← al.len]; exact (List.getElem?_eq_some_iff.mp hbx).1), by simp⟩
      have r := al.get hbx hy
      walk_at "rd"
      exact ⟨_, .tup r, _, kit_tt K, ite_F (by decide) (rd_ixT r rfl ⟨_, rfl, _, rfl, ite_F (by decide) ⟨rfl, _, rfl⟩⟩)⟩
    · rintro σ H2 ⟨rfl, v, rfl⟩
      refine hN _ _ ?_
      walk_at "rd"
      exact kk
theorem sc_law : FnScope ["script", "head", "size", "many", "names", "base", "things", "made", "web", "ties", "handed", "entries", "kept", "place"] ["script"] (defScope s_law) := ⟨rfl, rfl, rfl, by decide +kernel, rfl, by decide +kernel, by decide +kernel⟩
def spLaw (K : PySem.W.Frag) : Sp := fun vs H Q _ => ∃ (a : Addr) (ns : List Int), vs = [.ref a] ∧ SqL K H a (ns.map V.int) ∧ ns.length ≤ 63 ∧ ∀ H', Q (.bl true) H'
theorem ok_law {f : Addr} {fd : FuncData} (F : Fun K "law" "law" s_law f fd) (T : Txt K mg t) : FnOk P w K mg base (CX1 P w) 6 f fd ["script"] (spLaw K) := by
  have G_l_names := (ok_l_names (P := P) (w := w) (base := base) T).mono (show 1 ≤ 5 by decide)
  have G_l_base := (ok_l_base (P := P) (w := w) (base := base) T).mono (show 1 ≤ 5 by decide)
  have G_l_things := (ok_l_things (P := P) (w := w) (base := base) T).mono (show 1 ≤ 5 by decide)
  have G_l_made_by := (ok_l_made_by (P := P) (w := w) (base := base) T).mono (show 4 ≤ 5 by decide)
  have G_l_web_by := (ok_l_web_by (P := P) (w := w) (base := base) T).mono (show 5 ≤ 5 by decide)
  have G_book := (ok_book (P := P) (w := w) (base := base) T).mono (show 4 ≤ 5 by decide)
  have G_l_cell_at := (ok_l_cell_at (P := P) (w := w) (base := base) T).mono (show 1 ≤ 5 by decide)
  have G_l_same := (ok_l_same (P := P) (w := w) (base := base) T).mono (show 2 ≤ 5 by decide)
  have G_ends_in := (ok_ends_in (P := P) (w := w) (base := base) T).mono (show 1 ≤ 5 by decide)
  have G_l_ends := (ok_l_ends (P := P) (w := w) (base := base) T).mono (show 1 ≤ 5 by decide)
  have G_l_led := (ok_l_led (P := P) (w := w) (base := base) T).mono (show 2 ≤ 5 by decide)
  have G_way_in := (ok_way_in (P := P) (w := w) (base := base) T).mono (show 1 ≤ 5 by decide)
  refine F.okN sc_law (fun vs H Q E h => ?_) (fun cdv A outer s H vs Q E hr h => ?_)
  · obtain ⟨a, ns, rfl, hS, hlen, k⟩ := h
    rfl
  · obtain ⟨a, ns, rfl, hS, hlen, k⟩ := h
    refine ⟨_, Bx.un (bpss_cons (bps_set (i := 1) sc_law.nd rfl (by first | exact Or.inl rfl | exact Or.inr rfl) (bpe_op op_mod (bpe_fnx T.l_cell_at G_l_cell_at hr pass0' (bpa_cons (bpv 0) (bpa_cons bpe_int bpa_nil))) (bpe_op op_pow bpe_int bpe_int)))
      (bpss_cons (bps_set (i := 2) sc_law.nd rfl (by first | exact Or.inl rfl | exact Or.inr rfl) (bpe_op op_add bpe_int (bpe_op op_mod (bpe_op op_fdiv (bpv 1) bpe_int) bpe_int)))
      (bpss_cons (bps_set (i := 3) sc_law.nd rfl (by first | exact Or.inl rfl | exact Or.inr rfl) (bpe_op op_add bpe_int (bpe_op op_mod (bpe_op op_fdiv (bpv 1) bpe_int) bpe_int)))
      (bpss_cons (bps_if (bpt_cmpR op_eq (bpe_op op_mod (bpv 1) bpe_int) bpe_int (nomark _))
      (bpss_cons (bps_set (i := 2) sc_law.nd rfl (by first | exact Or.inl rfl | exact Or.inr rfl) (bpe_op op_add bpe_int (bpe_op op_mod (bpe_op op_fdiv (bpv 1) bpe_int) bpe_int)))
      (bpss_one (bps_set (i := 3) sc_law.nd rfl (by first | exact Or.inl rfl | exact Or.inr rfl) (bpe_op op_add bpe_int (bpe_op op_mod (bpe_op op_fdiv (bpv 1) bpe_int) bpe_int)))))
      bpss_nil)
      (bpss_cons (bps_set (i := 4) sc_law.nd rfl (by first | exact Or.inl rfl | exact Or.inr rfl) (bpe_fnx T.l_names G_l_names hr pass0' (bpa_cons (bpe_fnx T.l_cell_at G_l_cell_at hr pass0' (bpa_cons (bpv 0) (bpa_cons bpe_int bpa_nil))) bpa_nil)))
      (bpss_cons (bps_set (i := 5) sc_law.nd rfl (by first | exact Or.inl rfl | exact Or.inr rfl) (bpe_fnx T.l_base G_l_base hr pass0' (bpa_cons (bpe_fnx T.l_cell_at G_l_cell_at hr pass0' (bpa_cons (bpv 0) (bpa_cons bpe_int bpa_nil))) bpa_nil)))
      (bpss_cons (bps_set (i := 6) sc_law.nd rfl (by first | exact Or.inl rfl | exact Or.inr rfl) (bpe_fnx T.l_things G_l_things hr pass0' (bpa_cons (bpe_fnx T.l_cell_at G_l_cell_at hr pass0' (bpa_cons (bpv 0) (bpa_cons bpe_int bpa_nil))) (bpa_cons (bpv 2) bpa_nil))))
      (bpss_cons (bps_set (i := 7) sc_law.nd rfl (by first | exact Or.inl rfl | exact Or.inr rfl) (bpe_fnx T.l_made_by G_l_made_by hr pass0' (bpa_cons (bpv 0) (bpa_cons (bpv 3) (bpa_cons (bpe_cmpR op_eq (bpe_op op_mod (bpe_op op_fdiv (bpv 1) bpe_int) bpe_int) bpe_int (nomark _)) (bpa_cons (bpv 4) (bpa_cons (bpv 5) bpa_nil)))))))
      (bpss_cons (bps_asg (bpe_fnx T.l_web_by G_l_web_by hr pass0' (bpa_cons (bpe_slice sl_list (bpe_slice sl_list (bpv 0) (bpo_some (bpe_op op_add bpe_int (bpe_op op_mul bpe_int (bpv 3)))) bpo_none) bpo_none (bpo_some bpe_int)) (bpa_cons (bpv 6) (bpa_cons (bpv 4) (bpa_cons (bpv 5) bpa_nil))))) (bpg_tup rfl (bpgs_cons (bpg_name (i := 8) sc_law.nd rfl (by first | exact Or.inl rfl | exact Or.inr rfl)) (bpgs_cons (bpg_name (i := 9) sc_law.nd rfl (by first | exact Or.inl rfl | exact Or.inr rfl)) bpgs_nil))))
      (bpss_cons (bps_set (i := 10) sc_law.nd rfl (by first | exact Or.inl rfl | exact Or.inr rfl) (bpe_tup (bpa_cons (bpe_callTy call_list_of (by rfl) T.b_list PyProof.Rows.boot_list (bpa_cons (bpe_ixA ix_tup (bpv 7) bpe_int) bpa_nil)) (bpa_cons (bpe_comp rfl (N := ["rooms"]) (fr := []) (CSc.of (by kernel_rfl)) (bpi_list (bpe_ixA ix_tup (bpv 7) bpe_int)) (fun _ _ _ _ _ => bpts_nil)
        (fun _ _ _ _ _ => (bpe_callTy (call_list_ofK K) (by rfl) T.b_list PyProof.Rows.boot_list (bpa_cons (bpv 0) bpa_nil)))) (bpa_cons (bpe_callTy call_list_of (by rfl) T.b_list PyProof.Rows.boot_list (bpa_cons (bpe_ixA ix_tup (bpv 7) bpe_int) bpa_nil)) bpa_nil)))))
      (bpss_cons (bps_set (i := 11) sc_law.nd rfl (by first | exact Or.inl rfl | exact Or.inr rfl) (bpe_fnx T.book G_book hr pass0' (bpa_cons (bpv 8) (bpa_cons (bpv 10) (bpa_cons (bpe_ixA ix_list (bpv 6) (bpe_op op_mod (bpe_op op_fdiv (bpv 1) bpe_int) (bpv 2))) bpa_nil)))))
      (bpss_cons (bps_set (i := 12) sc_law.nd rfl (by first | exact Or.inl rfl | exact Or.inr rfl) (bpe_callTy call_list_of (by rfl) T.b_list PyProof.Rows.boot_list (bpa_cons (bpv 11) bpa_nil)))
      (bpss_cons (bps_if (bpt_not (bpt_val (bpe_fnx T.l_same G_l_same hr pass0' (bpa_cons (bpe_fnx T.ends_in G_ends_in hr pass0' (bpa_cons (bpv 10) (bpa_cons (bpv 11) bpa_nil))) (bpa_cons (bpe_fnx T.l_ends G_l_ends hr pass0' (bpa_cons (bpv 12) (bpa_cons (bpv 7) bpa_nil))) bpa_nil)))))
      (bpss_one (bps_ret bpe_bl))
      bpss_nil)
      (bpss_cons (bps_for PassesOwn.never rfl (bpi_range1 rfl T.b_range (bpa_cons (bpe_callB call_len_seq (by rfl) T.b_len PySem.boot_len (bpa_cons (bpv 12) bpa_nil)) bpa_nil)) (bpg_name (i := 13) sc_law.nd rfl (by first | exact Or.inl rfl | exact Or.inr rfl))
      (bpss_one (bps_if (bpt_not (bpt_val (bpe_fnx T.l_led G_l_led hr pass0' (bpa_cons (bpe_fnx T.way_in G_way_in hr pass0' (bpa_cons (bpv 10) (bpa_cons (bpv 11) (bpa_cons (bpv 13) bpa_nil)))) (bpa_cons (bpv 12) (bpa_cons (bpv 13) (bpa_cons (bpv 7) (bpa_cons (bpv 9) bpa_nil))))))))
      (bpss_one (bps_ret bpe_bl))
      bpss_nil)))
      (bpss_one (bps_ret (bpe_and (bpe_cmpR (op_eqD (hu64 hr)) (bpv 11) (bpv 12) (nomark _)) (bpe_one (bpe_cmpR (op_eqD (hu64 hr)) (bpv 10) (bpv 7) (nomark _)))))))))))))))))))), ?_⟩
    walk_at "rs"
    refine seq_rule fun N hN => ?_
    walk_at "rd"
    refine ⟨_, _, _, rfl, hS, by decide, fun c0 => ⟨by decide, _, rfl, hN _ _ ?_⟩⟩
    clear hN N
    generalize c0 % 1000000000 = hd
    refine seq_rule fun N hN => ?_
    walk_at "rd"
    refine hN _ _ ?_
    clear hN N
    refine seq_rule fun N hN => ?_
    walk_at "rd"
    refine hN _ _ ?_
    clear hN N
    refine seq_rule fun N hN => ?_
    have hM : ∀ size many : Int, 1 ≤ size → size ≤ 8 → 1 ≤ many → many ≤ 8 → N [some (.ref a), some (.int hd), some (.int size), some (.int many), none, none, none, none, none, none, none, none, none, none] H := by
      intro size many z1 z8 m1 m8
      refine hN _ _ ?_
      clear hN N
      refine seq_rule fun N hN => ?_
      walk_at "rd"
      refine ⟨_, _, _, rfl, hS, by decide, fun c1 => ⟨_, rfl, fun nm H1 nms hnm s1 e1 => hN _ _ ?_⟩⟩
      clear hN N
      refine seq_rule fun N hN => ?_
      walk_at "rd"
      refine ⟨_, _, _, rfl, s1.seq hS, by decide, fun c2 => ⟨_, rfl, fun b hb => hN _ _ ?_⟩⟩
      clear hN N
      refine seq_rule fun N hN => ?_
      walk_at "rd"
      refine ⟨_, _, _, rfl, s1.seq hS, by decide, fun c3 => ⟨_, _, rfl, by omega, by omega, fun lt H2 ts hlt s2 t2 tl tnd tg => hN _ _ ?_⟩⟩
      clear hN N
      have s02 := s1.trans s2
      have nm2 : NamesAt H2 nm nms := ⟨s2 _ _ e1.1, e1.2⟩
      refine seq_rule fun N hN => ?_
      walk_at "rd"
      refine ⟨_, _, _, _, _, _, _, rfl, s02.seq hS, m1, by omega, nm2, hb, fun pm H3 M hpm s3 mch ok => hN _ _ ?_⟩
      clear hN N
      have s03 := s02.trans s3
      have nm3 : NamesAt H3 nm nms := ⟨s3 _ _ nm2.1, nm2.2⟩
      have t3 := s3 _ _ t2
      obtain ⟨cs1, ec1, lc1⟩ := cut_ints ns (some (6 + 2 * many)) none
      obtain ⟨cs, ec2, lc2⟩ := cut_ints cs1 none (some 60)
      refine seq_rule fun N hN => ?_
      walk_at "rd"
      refine ⟨.inl (by decide), a, _, rfl, s03.seq hS, fun p1 hp1 => ⟨p1, _, rfl, SqL.of upd_same, fun lc hlc => ?_⟩⟩
      rw [ec1, ec2] at *
      have n4 := (Same.new (o := .lst (cs1.map V.int)) hp1).trans (Same.new (o := .lst (cs.map V.int)) hlc)
      have c4 : upd (upd H3 p1 (.lst (cs1.map V.int))) lc (.lst (cs.map V.int)) lc = some (.lst (cs.map V.int)) := upd_same
      generalize upd (upd H3 p1 (.lst (cs1.map V.int))) lc (.lst (cs.map V.int)) = H4 at n4 c4
      refine ⟨lc, lt, nm, b, cs, ts, nms, rfl, c4, by omega, n4 _ _ t3, fun z => (by rw [z] at tl; simp at tl; omega), by omega, tnd, tg, ⟨n4 _ _ nm3.1, nm3.2⟩, hb, fun pp pw pt H5 W rs md hpp _ => ⟨pp, rfl, _, SqT.of hpp, rfl, _, _, rfl, _, _, rfl, rfl, hN _ _ ?_⟩⟩
      clear hN N
      have s35 := n4.trans md.old
      have s05 := s03.trans s35
      have t5 := s35 _ _ t3
      have mch5 := mch.same s35
      have web5 := md.web
      have rows5 := md.rows
      obtain ⟨lm, lf, le, pm5, hmk5, hfo5, eb5⟩ := mch5.at_
      obtain ⟨am, em, alm⟩ := id hmk5
      obtain ⟨af, ef, alf⟩ := id hfo5
      refine seq_rule fun N hN => ?_
      walk_at "rd"
      refine rd_ixT pm5 rfl ⟨lm, rfl, _, .inl (SqL.of em), fun lm' hlm' => ?_⟩
      have n6 := Same.new (o := .lst (am.map V.ref)) hlm'
      have lm6 : upd H5 lm' (.lst (am.map V.ref)) lm' = some (.lst (am.map V.ref)) := upd_same
      generalize upd H5 lm' (.lst (am.map V.ref)) = H6 at n6 lm6
      have lenf := alf.len
      have ef6 := n6 _ _ ef
      have lenfm : M.fol.length ≤ 25 := by have h1 := ok.lf; have h2 := ok.few; omega
      refine ⟨_, rfl, _, _, _, _, rfl, rfl, SqT.of (n6 _ _ pm5), rfl, lf, rfl, ⟨_, SqL.of ef6⟩, comp_own (cs := af.zip M.fol) (g := fun c => V.ref c.1) (tells_list (by rw [zip_ref lenf]; exact SqL.of ef6)) (fun H9 c p => H9 p = some (.lst (c.2.map V.int))) (fun _ _ _ _ s h => s _ _ h) (sz_of (by rw [List.length_zip]; omega)) (fun c H9 Q2 hc s9 h => ?_) (fun _ _ _ _ _ n h => (upd_ne n).trans h) fun lf' H7 ys hlf' s7 d7 al7 => ?_⟩
      · have ec := alf.zip c hc
        walk_at "rd"
        exact ⟨_, .inl (SqL.of (s9 _ _ (n6 _ _ ec))), fun l hl => h l _ hl (Same.new hl) upd_same⟩
      obtain ⟨af', rfl, alf'⟩ := refs_same (P := fun p (l : List Int) => H7 p = some (.lst (l.map V.int))) (R := fun c : Addr × List Int => c.2) (al7.imp fun _ _ ⟨p, e, h, _⟩ => ⟨p, e, h⟩)
      rw [List.map_snd_zip (by omega)] at alf'
      have s57 := n6.trans s7
      refine rd_ixT (s57 _ _ pm5) rfl ⟨le, rfl, _, .inl (SqL.of (s57 _ _ eb5)), fun le' hle' => ⟨by decide, fun hm hhm => hN _ _ ?_⟩⟩
      clear hN N
      have n8 := Same.new (o := .lst (M.ends.map V.bl)) hle'
      have le8 : upd H7 le' (.lst (M.ends.map V.bl)) le' = some (.lst (M.ends.map V.bl)) := upd_same
      generalize upd H7 le' (.lst (M.ends.map V.bl)) = H8 at n8 le8 hhm
      have n9 := Same.new (o := .tup [V.ref lm', V.ref lf', V.ref le']) hhm
      have md9 : upd H8 hm (.tup [V.ref lm', V.ref lf', V.ref le']) hm = some (.tup [V.ref lm', V.ref lf', V.ref le']) := upd_same
      generalize upd H8 hm (.tup [V.ref lm', V.ref lf', V.ref le']) = H9 at n9 md9
      have s79 := n8.trans n9
      have s59 := s57.trans s79
      have mat : MchAt H9 hm M := ⟨lm', lf', le', md9, ⟨am, s79 _ _ (s7 _ _ lm6), alm.imp fun x kk h => ⟨s59 _ _ h.1, h.2⟩⟩, ⟨af', s79 _ _ d7, alf'.imp fun _ _ h => s79 _ _ h⟩, n9 _ _ le8⟩
      have mch9 := mch5.same s59
      have web9 := web5.same s59
      have rows9 := rows5.same s59
      have t9 := s59 _ _ t5
      have s09 := s05.trans s59
      clear n8 le8 n9 md9 s79 s57 al7 alf' d7 s7 hlf' ef6 lm6 n6 hlm' hle' hhm em alm ef alf hmk5 hfo5 eb5 pm5 lenf lenfm
      have nms : W.vals.map (·.1) = ts := by rw [← names_abs]; exact md.nms
      have tiesW : ∀ x ∈ W.ties, ∃ y ∈ rs, y.1 = x.1 ∧ y.2.2 = x.2.2 := fun x hx => by
        have h1 : (x.1, x.2.2) ∈ W.abs.ties := List.mem_map.mpr ⟨x, hx, rfl⟩
        rw [← md.eq] at h1
        unfold L2.plain at h1
        obtain ⟨y, hy, e⟩ := List.mem_map.mp h1
        injection e with e1 e2
        exact ⟨y, hy, e1, e2⟩
      have fewW : W.ties.length ≤ 63 := by
        have h1 := congrArg List.length md.eq
        unfold L2.plain WS.abs at h1
        simp only [List.length_map] at h1
        rw [← h1]
        exact md.few
      refine seq_rule fun N hN => ?_
      walk_at "rd"
      have x0 : 0 ≤ hd / 5 % size := Int.emod_nonneg _ (by omega)
      have x1 : hd / 5 % size < size := Int.emod_lt_of_pos _ (by omega)
      obtain ⟨st, hst⟩ : ∃ st, ts[(hd / 5 % size).toNat]? = some st := ⟨ts[(hd / 5 % size).toNat]'(by omega), by simp⟩
      have stm := List.mem_of_getElem? hst
      refine ⟨by omega, rd_ixL t9 (at_get x0 (by rw [List.getElem?_map, hst]; rfl)) ⟨pw, hm, W, M, st, rfl, web9, by rw [nms]; exact stm, fewW, fun x hx => ?_, mat, ok, fun qe H10 es hqe s10 E10 bo0 fes ths => hN _ _ ?_⟩⟩
      · obtain ⟨y, hy, _, e2⟩ := tiesW x hx
        have := md.tie y hy
        rw [← e2, nms]
        exact ⟨this.1, this.2.1⟩
      clear hN N
      have bo : BookOk M.mks (GoesR rs) st es := bo0.mono fun x k n t ⟨a, tie, h1, h2, h3⟩ => by
        obtain ⟨y, hy, e1, e2⟩ := tiesW _ h1
        dsimp only at e1 e2
        exact ⟨y.2.1, tie, by rw [← e1, ← e2]; exact hy, h2, h3⟩
      have okE : ∀ e ∈ es, okT e.th := fun e he => (good_ok (good_of (tg e.th (by rw [← nms]; exact ths e he)))).1
      obtain ⟨ae, hqe10, ale⟩ := id E10
      refine seq_rule fun N hN => ?_
      walk_at "rd"
      refine ⟨_, .inl (SqL.of hqe10), fun kp hkp => hN _ _ ?_⟩
      clear hN N
      have n11 : Same H10 (upd H10 kp (.lst (ae.map V.ref))) := Same.new hkp
      have k11 : EntsAt (upd H10 kp (.lst (ae.map V.ref))) kp es := ⟨ae, upd_same, ale.imp fun _ _ r => n11 _ _ r⟩
      generalize upd H10 kp (.lst (ae.map V.ref)) = H11 at n11 k11
      have s911 := s10.trans n11
      have E11 := E10.same n11
      have mat11 := mat.same s911
      have mch11 := mch9.same s911
      have rows11 := rows9.same s911
      have okM : ∀ y ∈ endsC M.ends es 0 [], okT y.1 := fun y hy => by
        rcases endsC_in M.ends es 0 [] y hy with h | ⟨e, he, h⟩
        · cases h
        · rw [h]
          exact okE e he
      refine seq_rule fun N hN => ?_
      walk_at "rd"
      refine ⟨hm, qe, M, st, _, es, rfl, mat11, ok, E11, bo, fes, fun l1 H12 hl1 s12 p12 => ⟨kp, pm, M, st, _, es, rfl, k11.same s12, bo, fes, mch11.same s12, ok, fun l2 H13 hl2 s13 p13 => ⟨l1, l2, _, rfl, p12.same s13, p13, okM, ⟨_, rfl, ite_F (by decide) (hN _ _ ?_)⟩⟩⟩⟩
      clear hN N
      have s1113 := s12.trans s13
      clear p12 p13 hl1 hl2
      obtain ⟨ak, hk11, alk⟩ := id k11
      refine seq_rule fun N hN => ?_
      have len : (ak.map V.ref).length = es.length := by rw [List.length_map, alk.len]
      refine ⟨_, rfl, kp, _, rfl, .inl (SqL.of (s1113 _ _ hk11)), _, rfl, by omega, by omega, ?_⟩
      rw [len, Int.toNat_natCast]
      refine for_range (n := es.length) (lo := 0) (fun i σ H14 => ∃ v : Option V, σ = [some (.ref a), some (.int hd), some (.int size), some (.int many), some (.ref nm), some (.int b), some (.ref lt), some (.ref pm), some (.ref pw), some (.ref pt), some (.ref hm), some (.ref qe), some (.ref kp), v] ∧ Same H11 H14) ⟨none, rfl, s1113⟩ ?_ ?_
      · rintro i σ H14 hi ⟨v, rfl, s14⟩
        clear hN
        walk_at "rg"
        walk_at "rd"
        refine ⟨hm, qe, M, st, _, es, i, by rw [Int.zero_add], mat11.same s14, ok, E11.same s14, bo, fes, hi, fun wl H15 hwl s15 w15 => ⟨wl, kp, pm, pt, M, st, es, i, rs, by rw [Int.zero_add], w15, (k11.same s14).same s15, bo, fes, hi, (mch11.same s14).same s15, ok, (rows11.same s14).same s15, ?_, fun H16 s16 => ⟨_, rfl, ite_F (by decide) ((s14.trans s15).trans s16)⟩⟩⟩
        exact md.ris.imp fun h => Int.ne_of_lt h
      · rintro σ H14 ⟨v, rfl, s14⟩
        refine hN _ _ ?_
        walk_at "rd"
        obtain ⟨y1, y2, y3, g1, g2, g3, g4⟩ := (mat11.same s14).at_
        obtain ⟨z1, z2, z3, f1, f2, f3, f4⟩ := (mch11.same s14).at_
        refine ⟨_, (E11.same s14).dat, (k11.same s14).dat, (ents_fit okE).shaped (by decide), _, mach_dat g1 g2 g3 g4, mach_dat f1 f2 f3 f4, (mach_fit g2).shaped (by decide), k _⟩
    walk_at "rd"
    exact ite_both (fun _ => hM _ _ (by omega) (by omega) (by omega) (by omega)) fun _ => hM _ _ (by omega) (by omega) (by omega) (by omega)
end
theorem all_mk {l : PySem.W.OpenLaw} {w : World} {K : PySem.W.Frag} {h : Heap} {mg : Str → Option Value} {fa : Addr} (X : K.In h) (G : h.Ns mainGlobals mg) (hfa : mg "law" = some (.ref fa))
    {C_SeekError : Addr} (gc_SeekError : PySem.W.nsIn K mainGlobals "SeekError" = some (some (.ref C_SeekError)))
    {C_NoName : Addr} (gc_NoName : PySem.W.nsIn K mainGlobals "NoName" = some (some (.ref C_NoName)))
    {C_NoNumber : Addr} (gc_NoNumber : PySem.W.nsIn K mainGlobals "NoNumber" = some (some (.ref C_NoNumber)))
    {C_NoThing : Addr} (gc_NoThing : PySem.W.nsIn K mainGlobals "NoThing" = some (some (.ref C_NoThing)))
    {C_NoTie : Addr} (gc_NoTie : PySem.W.nsIn K mainGlobals "NoTie" = some (some (.ref C_NoTie)))
    {C_Twice : Addr} (gc_Twice : PySem.W.nsIn K mainGlobals "Twice" = some (some (.ref C_Twice)))
    {C_Full : Addr} (gc_Full : PySem.W.nsIn K mainGlobals "Full" = some (some (.ref C_Full)))
    {C_Web : Addr} (gc_Web : PySem.W.nsIn K mainGlobals "Web" = some (some (.ref C_Web)))
    {f0 : Addr} {od0 an0 : Option Addr} {sl0 : Array (Option Value)} {oc0 kV0 dc0 pm0 cd0 ct0 : Value}
    (a0 : PySem.W.nsIn K mainGlobals "good_name" = some (some (.ref f0)))
    (l0 : K.lookup f0 = some ⟨oc0, od0, .func (PySem.W.fnOf "good_name" "good_name" (defArgs s_good_name) (defBody s_good_name) (defScope s_good_name) .none kV0 dc0 pm0 an0 cd0 ct0), sl0⟩) (c0 : PySem.W.codeIn K cd0 "good_name" = true) (k0 : PySem.W.keepIn K (.ref f0) = true)
    {f1 : Addr} {od1 an1 : Option Addr} {sl1 : Array (Option Value)} {oc1 kV1 dc1 pm1 cd1 ct1 : Value}
    (a1 : PySem.W.nsIn K mainGlobals "few_figures" = some (some (.ref f1)))
    (l1 : K.lookup f1 = some ⟨oc1, od1, .func (PySem.W.fnOf "few_figures" "few_figures" (defArgs s_few_figures) (defBody s_few_figures) (defScope s_few_figures) .none kV1 dc1 pm1 an1 cd1 ct1), sl1⟩) (c1 : PySem.W.codeIn K cd1 "few_figures" = true) (k1 : PySem.W.keepIn K (.ref f1) = true)
    {f2 : Addr} {od2 an2 : Option Addr} {sl2 : Array (Option Value)} {oc2 kV2 dc2 pm2 cd2 ct2 : Value}
    (a2 : PySem.W.nsIn K mainGlobals "weight_meets" = some (some (.ref f2)))
    (l2 : K.lookup f2 = some ⟨oc2, od2, .func (PySem.W.fnOf "weight_meets" "weight_meets" (defArgs s_weight_meets) (defBody s_weight_meets) (defScope s_weight_meets) .none kV2 dc2 pm2 an2 cd2 ct2), sl2⟩) (c2 : PySem.W.codeIn K cd2 "weight_meets" = true) (k2 : PySem.W.keepIn K (.ref f2) = true)
    {f3 : Addr} {od3 an3 : Option Addr} {sl3 : Array (Option Value)} {oc3 kV3 dc3 pm3 cd3 ct3 : Value}
    (a3 : PySem.W.nsIn K mainGlobals "fits" = some (some (.ref f3)))
    (l3 : K.lookup f3 = some ⟨oc3, od3, .func (PySem.W.fnOf "fits" "fits" (defArgs s_fits) (defBody s_fits) (defScope s_fits) .none kV3 dc3 pm3 an3 cd3 ct3), sl3⟩) (c3 : PySem.W.codeIn K cd3 "fits" = true) (k3 : PySem.W.keepIn K (.ref f3) = true)
    {f4 : Addr} {od4 an4 : Option Addr} {sl4 : Array (Option Value)} {oc4 kV4 dc4 pm4 cd4 ct4 : Value}
    (a4 : PySem.W.nsIn K mainGlobals "gone_step" = some (some (.ref f4)))
    (l4 : K.lookup f4 = some ⟨oc4, od4, .func (PySem.W.fnOf "gone_step" "gone_step" (defArgs s_gone_step) (defBody s_gone_step) (defScope s_gone_step) .none kV4 dc4 pm4 an4 cd4 ct4), sl4⟩) (c4 : PySem.W.codeIn K cd4 "gone_step" = true) (k4 : PySem.W.keepIn K (.ref f4) = true)
    {f5 : Addr} {od5 an5 : Option Addr} {sl5 : Array (Option Value)} {oc5 kV5 dc5 pm5 cd5 ct5 : Value}
    (a5 : PySem.W.nsIn K mainGlobals "gone_from" = some (some (.ref f5)))
    (l5 : K.lookup f5 = some ⟨oc5, od5, .func (PySem.W.fnOf "gone_from" "gone_from" (defArgs s_gone_from) (defBody s_gone_from) (defScope s_gone_from) .none kV5 dc5 pm5 an5 cd5 ct5), sl5⟩) (c5 : PySem.W.codeIn K cd5 "gone_from" = true) (k5 : PySem.W.keepIn K (.ref f5) = true)
    {f6 : Addr} {od6 an6 : Option Addr} {sl6 : Array (Option Value)} {oc6 kV6 dc6 pm6 cd6 ct6 : Value}
    (a6 : PySem.W.nsIn K mainGlobals "gone_to" = some (some (.ref f6)))
    (l6 : K.lookup f6 = some ⟨oc6, od6, .func (PySem.W.fnOf "gone_to" "gone_to" (defArgs s_gone_to) (defBody s_gone_to) (defScope s_gone_to) .none kV6 dc6 pm6 an6 cd6 ct6), sl6⟩) (c6 : PySem.W.codeIn K cd6 "gone_to" = true) (k6 : PySem.W.keepIn K (.ref f6) = true)
    {f7 : Addr} {od7 an7 : Option Addr} {sl7 : Array (Option Value)} {oc7 kV7 dc7 pm7 cd7 ct7 : Value}
    (a7 : PySem.W.nsIn K mainGlobals "moves_by" = some (some (.ref f7)))
    (l7 : K.lookup f7 = some ⟨oc7, od7, .func (PySem.W.fnOf "moves_by" "moves_by" (defArgs s_moves_by) (defBody s_moves_by) (defScope s_moves_by) .none kV7 dc7 pm7 an7 cd7 ct7), sl7⟩) (c7 : PySem.W.codeIn K cd7 "moves_by" = true) (k7 : PySem.W.keepIn K (.ref f7) = true)
    {f8 : Addr} {od8 an8 : Option Addr} {sl8 : Array (Option Value)} {oc8 kV8 dc8 pm8 cd8 ct8 : Value}
    (a8 : PySem.W.nsIn K mainGlobals "book" = some (some (.ref f8)))
    (l8 : K.lookup f8 = some ⟨oc8, od8, .func (PySem.W.fnOf "book" "book" (defArgs s_book) (defBody s_book) (defScope s_book) .none kV8 dc8 pm8 an8 cd8 ct8), sl8⟩) (c8 : PySem.W.codeIn K cd8 "book" = true) (k8 : PySem.W.keepIn K (.ref f8) = true)
    {f9 : Addr} {od9 an9 : Option Addr} {sl9 : Array (Option Value)} {oc9 kV9 dc9 pm9 cd9 ct9 : Value}
    (a9 : PySem.W.nsIn K mainGlobals "way_in" = some (some (.ref f9)))
    (l9 : K.lookup f9 = some ⟨oc9, od9, .func (PySem.W.fnOf "way_in" "way_in" (defArgs s_way_in) (defBody s_way_in) (defScope s_way_in) .none kV9 dc9 pm9 an9 cd9 ct9), sl9⟩) (c9 : PySem.W.codeIn K cd9 "way_in" = true) (k9 : PySem.W.keepIn K (.ref f9) = true)
    {f10 : Addr} {od10 an10 : Option Addr} {sl10 : Array (Option Value)} {oc10 kV10 dc10 pm10 cd10 ct10 : Value}
    (a10 : PySem.W.nsIn K mainGlobals "ends_in" = some (some (.ref f10)))
    (l10 : K.lookup f10 = some ⟨oc10, od10, .func (PySem.W.fnOf "ends_in" "ends_in" (defArgs s_ends_in) (defBody s_ends_in) (defScope s_ends_in) .none kV10 dc10 pm10 an10 cd10 ct10), sl10⟩) (c10 : PySem.W.codeIn K cd10 "ends_in" = true) (k10 : PySem.W.keepIn K (.ref f10) = true)
    {f11 : Addr} {od11 an11 : Option Addr} {sl11 : Array (Option Value)} {oc11 kV11 dc11 pm11 cd11 ct11 : Value}
    (a11 : PySem.W.nsIn K mainGlobals "check_name" = some (some (.ref f11)))
    (l11 : K.lookup f11 = some ⟨oc11, od11, .func (PySem.W.fnOf "check_name" "check_name" (defArgs s_check_name) (defBody s_check_name) (defScope s_check_name) .none kV11 dc11 pm11 an11 cd11 ct11), sl11⟩) (c11 : PySem.W.codeIn K cd11 "check_name" = true) (k11 : PySem.W.keepIn K (.ref f11) = true)
    {f12 : Addr} {od12 an12 : Option Addr} {sl12 : Array (Option Value)} {oc12 kV12 dc12 pm12 cd12 ct12 : Value}
    (a12 : PySem.W.nsIn K mainGlobals "check_number" = some (some (.ref f12)))
    (l12 : K.lookup f12 = some ⟨oc12, od12, .func (PySem.W.fnOf "check_number" "check_number" (defArgs s_check_number) (defBody s_check_number) (defScope s_check_number) .none kV12 dc12 pm12 an12 cd12 ct12), sl12⟩) (c12 : PySem.W.codeIn K cd12 "check_number" = true) (k12 : PySem.W.keepIn K (.ref f12) = true)
    {f13 : Addr} {od13 an13 : Option Addr} {sl13 : Array (Option Value)} {oc13 kV13 dc13 pm13 cd13 ct13 : Value}
    (a13 : PySem.W.nsIn K mainGlobals "_law_cell_at" = some (some (.ref f13)))
    (l13 : K.lookup f13 = some ⟨oc13, od13, .func (PySem.W.fnOf "_law_cell_at" "_law_cell_at" (defArgs s_l_cell_at) (defBody s_l_cell_at) (defScope s_l_cell_at) .none kV13 dc13 pm13 an13 cd13 ct13), sl13⟩) (c13 : PySem.W.codeIn K cd13 "_law_cell_at" = true) (k13 : PySem.W.keepIn K (.ref f13) = true)
    {f14 : Addr} {od14 an14 : Option Addr} {sl14 : Array (Option Value)} {oc14 kV14 dc14 pm14 cd14 ct14 : Value}
    (a14 : PySem.W.nsIn K mainGlobals "_law_mixed" = some (some (.ref f14)))
    (l14 : K.lookup f14 = some ⟨oc14, od14, .func (PySem.W.fnOf "_law_mixed" "_law_mixed" (defArgs s_l_mixed) (defBody s_l_mixed) (defScope s_l_mixed) .none kV14 dc14 pm14 an14 cd14 ct14), sl14⟩) (c14 : PySem.W.codeIn K cd14 "_law_mixed" = true) (k14 : PySem.W.keepIn K (.ref f14) = true)
    {f15 : Addr} {od15 an15 : Option Addr} {sl15 : Array (Option Value)} {oc15 kV15 dc15 pm15 cd15 ct15 : Value}
    (a15 : PySem.W.nsIn K mainGlobals "_law_names" = some (some (.ref f15)))
    (l15 : K.lookup f15 = some ⟨oc15, od15, .func (PySem.W.fnOf "_law_names" "_law_names" (defArgs s_l_names) (defBody s_l_names) (defScope s_l_names) .none kV15 dc15 pm15 an15 cd15 ct15), sl15⟩) (c15 : PySem.W.codeIn K cd15 "_law_names" = true) (k15 : PySem.W.keepIn K (.ref f15) = true)
    {f16 : Addr} {od16 an16 : Option Addr} {sl16 : Array (Option Value)} {oc16 kV16 dc16 pm16 cd16 ct16 : Value}
    (a16 : PySem.W.nsIn K mainGlobals "_law_whole" = some (some (.ref f16)))
    (l16 : K.lookup f16 = some ⟨oc16, od16, .func (PySem.W.fnOf "_law_whole" "_law_whole" (defArgs s_l_whole) (defBody s_l_whole) (defScope s_l_whole) .none kV16 dc16 pm16 an16 cd16 ct16), sl16⟩) (c16 : PySem.W.codeIn K cd16 "_law_whole" = true) (k16 : PySem.W.keepIn K (.ref f16) = true)
    {f17 : Addr} {od17 an17 : Option Addr} {sl17 : Array (Option Value)} {oc17 kV17 dc17 pm17 cd17 ct17 : Value}
    (a17 : PySem.W.nsIn K mainGlobals "_law_base" = some (some (.ref f17)))
    (l17 : K.lookup f17 = some ⟨oc17, od17, .func (PySem.W.fnOf "_law_base" "_law_base" (defArgs s_l_base) (defBody s_l_base) (defScope s_l_base) .none kV17 dc17 pm17 an17 cd17 ct17), sl17⟩) (c17 : PySem.W.codeIn K cd17 "_law_base" = true) (k17 : PySem.W.keepIn K (.ref f17) = true)
    {f18 : Addr} {od18 an18 : Option Addr} {sl18 : Array (Option Value)} {oc18 kV18 dc18 pm18 cd18 ct18 : Value}
    (a18 : PySem.W.nsIn K mainGlobals "_law_number" = some (some (.ref f18)))
    (l18 : K.lookup f18 = some ⟨oc18, od18, .func (PySem.W.fnOf "_law_number" "_law_number" (defArgs s_l_number) (defBody s_l_number) (defScope s_l_number) .none kV18 dc18 pm18 an18 cd18 ct18), sl18⟩) (c18 : PySem.W.codeIn K cd18 "_law_number" = true) (k18 : PySem.W.keepIn K (.ref f18) = true)
    {f19 : Addr} {od19 an19 : Option Addr} {sl19 : Array (Option Value)} {oc19 kV19 dc19 pm19 cd19 ct19 : Value}
    (a19 : PySem.W.nsIn K mainGlobals "_law_mark_by" = some (some (.ref f19)))
    (l19 : K.lookup f19 = some ⟨oc19, od19, .func (PySem.W.fnOf "_law_mark_by" "_law_mark_by" (defArgs s_l_mark_by) (defBody s_l_mark_by) (defScope s_l_mark_by) .none kV19 dc19 pm19 an19 cd19 ct19), sl19⟩) (c19 : PySem.W.codeIn K cd19 "_law_mark_by" = true) (k19 : PySem.W.keepIn K (.ref f19) = true)
    {f20 : Addr} {od20 an20 : Option Addr} {sl20 : Array (Option Value)} {oc20 kV20 dc20 pm20 cd20 ct20 : Value}
    (a20 : PySem.W.nsIn K mainGlobals "_law_things" = some (some (.ref f20)))
    (l20 : K.lookup f20 = some ⟨oc20, od20, .func (PySem.W.fnOf "_law_things" "_law_things" (defArgs s_l_things) (defBody s_l_things) (defScope s_l_things) .none kV20 dc20 pm20 an20 cd20 ct20), sl20⟩) (c20 : PySem.W.codeIn K cd20 "_law_things" = true) (k20 : PySem.W.keepIn K (.ref f20) = true)
    {f21 : Addr} {od21 an21 : Option Addr} {sl21 : Array (Option Value)} {oc21 kV21 dc21 pm21 cd21 ct21 : Value}
    (a21 : PySem.W.nsIn K mainGlobals "_law_web_by" = some (some (.ref f21)))
    (l21 : K.lookup f21 = some ⟨oc21, od21, .func (PySem.W.fnOf "_law_web_by" "_law_web_by" (defArgs s_l_web_by) (defBody s_l_web_by) (defScope s_l_web_by) .none kV21 dc21 pm21 an21 cd21 ct21), sl21⟩) (c21 : PySem.W.codeIn K cd21 "_law_web_by" = true) (k21 : PySem.W.keepIn K (.ref f21) = true)
    {f22 : Addr} {od22 an22 : Option Addr} {sl22 : Array (Option Value)} {oc22 kV22 dc22 pm22 cd22 ct22 : Value}
    (a22 : PySem.W.nsIn K mainGlobals "_law_rooms_by" = some (some (.ref f22)))
    (l22 : K.lookup f22 = some ⟨oc22, od22, .func (PySem.W.fnOf "_law_rooms_by" "_law_rooms_by" (defArgs s_l_rooms_by) (defBody s_l_rooms_by) (defScope s_l_rooms_by) .none kV22 dc22 pm22 an22 cd22 ct22), sl22⟩) (c22 : PySem.W.codeIn K cd22 "_law_rooms_by" = true) (k22 : PySem.W.keepIn K (.ref f22) = true)
    {f23 : Addr} {od23 an23 : Option Addr} {sl23 : Array (Option Value)} {oc23 kV23 dc23 pm23 cd23 ct23 : Value}
    (a23 : PySem.W.nsIn K mainGlobals "_law_made_by" = some (some (.ref f23)))
    (l23 : K.lookup f23 = some ⟨oc23, od23, .func (PySem.W.fnOf "_law_made_by" "_law_made_by" (defArgs s_l_made_by) (defBody s_l_made_by) (defScope s_l_made_by) .none kV23 dc23 pm23 an23 cd23 ct23), sl23⟩) (c23 : PySem.W.codeIn K cd23 "_law_made_by" = true) (k23 : PySem.W.keepIn K (.ref f23) = true)
    {f24 : Addr} {od24 an24 : Option Addr} {sl24 : Array (Option Value)} {oc24 kV24 dc24 pm24 cd24 ct24 : Value}
    (a24 : PySem.W.nsIn K mainGlobals "_law_line" = some (some (.ref f24)))
    (l24 : K.lookup f24 = some ⟨oc24, od24, .func (PySem.W.fnOf "_law_line" "_law_line" (defArgs s_l_line) (defBody s_l_line) (defScope s_l_line) .none kV24 dc24 pm24 an24 cd24 ct24), sl24⟩) (c24 : PySem.W.codeIn K cd24 "_law_line" = true) (k24 : PySem.W.keepIn K (.ref f24) = true)
    {f25 : Addr} {od25 an25 : Option Addr} {sl25 : Array (Option Value)} {oc25 kV25 dc25 pm25 cd25 ct25 : Value}
    (a25 : PySem.W.nsIn K mainGlobals "_law_led" = some (some (.ref f25)))
    (l25 : K.lookup f25 = some ⟨oc25, od25, .func (PySem.W.fnOf "_law_led" "_law_led" (defArgs s_l_led) (defBody s_l_led) (defScope s_l_led) .none kV25 dc25 pm25 an25 cd25 ct25), sl25⟩) (c25 : PySem.W.codeIn K cd25 "_law_led" = true) (k25 : PySem.W.keepIn K (.ref f25) = true)
    {f26 : Addr} {od26 an26 : Option Addr} {sl26 : Array (Option Value)} {oc26 kV26 dc26 pm26 cd26 ct26 : Value}
    (a26 : PySem.W.nsIn K mainGlobals "_law_ends" = some (some (.ref f26)))
    (l26 : K.lookup f26 = some ⟨oc26, od26, .func (PySem.W.fnOf "_law_ends" "_law_ends" (defArgs s_l_ends) (defBody s_l_ends) (defScope s_l_ends) .none kV26 dc26 pm26 an26 cd26 ct26), sl26⟩) (c26 : PySem.W.codeIn K cd26 "_law_ends" = true) (k26 : PySem.W.keepIn K (.ref f26) = true)
    {f27 : Addr} {od27 an27 : Option Addr} {sl27 : Array (Option Value)} {oc27 kV27 dc27 pm27 cd27 ct27 : Value}
    (a27 : PySem.W.nsIn K mainGlobals "_law_same" = some (some (.ref f27)))
    (l27 : K.lookup f27 = some ⟨oc27, od27, .func (PySem.W.fnOf "_law_same" "_law_same" (defArgs s_l_same) (defBody s_l_same) (defScope s_l_same) .none kV27 dc27 pm27 an27 cd27 ct27), sl27⟩) (c27 : PySem.W.codeIn K cd27 "_law_same" = true) (k27 : PySem.W.keepIn K (.ref f27) = true)
    {f28 : Addr} {od28 an28 : Option Addr} {sl28 : Array (Option Value)} {oc28 kV28 dc28 pm28 cd28 ct28 : Value}
    (a28 : PySem.W.nsIn K mainGlobals "law" = some (some (.ref f28)))
    (l28 : K.lookup f28 = some ⟨oc28, od28, .func (PySem.W.fnOf "law" "law" (defArgs s_law) (defBody s_law) (defScope s_law) .none kV28 dc28 pm28 an28 cd28 ct28), sl28⟩) (c28 : PySem.W.codeIn K cd28 "law" = true) (k28 : PySem.W.keepIn K (.ref f28) = true)
    {f29 : Addr} {od29 an29 : Option Addr} {sl29 : Array (Option Value)} {oc29 kV29 dc29 pm29 cd29 ct29 : Value}
    (a29 : PySem.W.findIn K (.ref C_Web) "__init__" = some (some (.ref f29))) (n29 : PySem.W.isFn K (.ref f29) = true)
    (l29 : K.lookup f29 = some ⟨oc29, od29, .func (PySem.W.fnOf "__init__" "Web.__init__" (defArgs s_Web_init) (defBody s_Web_init) (defScope s_Web_init) .none kV29 dc29 pm29 an29 cd29 ct29), sl29⟩) (c29 : PySem.W.codeIn K cd29 "Web.__init__" = true) (k29 : PySem.W.keepIn K (.ref f29) = true)
    {f30 : Addr} {od30 an30 : Option Addr} {sl30 : Array (Option Value)} {oc30 kV30 dc30 pm30 cd30 ct30 : Value}
    (a30 : PySem.W.findIn K (.ref C_Web) "check_thing" = some (some (.ref f30))) (n30 : PySem.W.isFn K (.ref f30) = true)
    (l30 : K.lookup f30 = some ⟨oc30, od30, .func (PySem.W.fnOf "check_thing" "Web.check_thing" (defArgs s_Web_check_thing) (defBody s_Web_check_thing) (defScope s_Web_check_thing) .none kV30 dc30 pm30 an30 cd30 ct30), sl30⟩) (c30 : PySem.W.codeIn K cd30 "Web.check_thing" = true) (k30 : PySem.W.keepIn K (.ref f30) = true)
    {f31 : Addr} {od31 an31 : Option Addr} {sl31 : Array (Option Value)} {oc31 kV31 dc31 pm31 cd31 ct31 : Value}
    (a31 : PySem.W.findIn K (.ref C_Web) "check_tie" = some (some (.ref f31))) (n31 : PySem.W.isFn K (.ref f31) = true)
    (l31 : K.lookup f31 = some ⟨oc31, od31, .func (PySem.W.fnOf "check_tie" "Web.check_tie" (defArgs s_Web_check_tie) (defBody s_Web_check_tie) (defScope s_Web_check_tie) .none kV31 dc31 pm31 an31 cd31 ct31), sl31⟩) (c31 : PySem.W.codeIn K cd31 "Web.check_tie" = true) (k31 : PySem.W.keepIn K (.ref f31) = true)
    {f32 : Addr} {od32 an32 : Option Addr} {sl32 : Array (Option Value)} {oc32 kV32 dc32 pm32 cd32 ct32 : Value}
    (a32 : PySem.W.findIn K (.ref C_Web) "add_thing" = some (some (.ref f32))) (n32 : PySem.W.isFn K (.ref f32) = true)
    (l32 : K.lookup f32 = some ⟨oc32, od32, .func (PySem.W.fnOf "add_thing" "Web.add_thing" (defArgs s_Web_add_thing) (defBody s_Web_add_thing) (defScope s_Web_add_thing) .none kV32 dc32 pm32 an32 cd32 ct32), sl32⟩) (c32 : PySem.W.codeIn K cd32 "Web.add_thing" = true) (k32 : PySem.W.keepIn K (.ref f32) = true)
    {f33 : Addr} {od33 an33 : Option Addr} {sl33 : Array (Option Value)} {oc33 kV33 dc33 pm33 cd33 ct33 : Value}
    (a33 : PySem.W.findIn K (.ref C_Web) "add_tie" = some (some (.ref f33))) (n33 : PySem.W.isFn K (.ref f33) = true)
    {dt33 : Addr} {dd33 : Option Addr} {dn33 : Nat} {ds33 : Array (Option Value)} {dk33_0 : Tok}
    (dl33 : K.lookup dt33 = some ⟨.type "tuple", dd33, .seq #[.int 0 dk33_0] dn33, ds33⟩)
    (l33 : K.lookup f33 = some ⟨oc33, od33, .func (PySem.W.fnOf "add_tie" "Web.add_tie" (defArgs s_Web_add_tie) (defBody s_Web_add_tie) (defScope s_Web_add_tie) (.ref dt33) kV33 dc33 pm33 an33 cd33 ct33), sl33⟩) (c33 : PySem.W.codeIn K cd33 "Web.add_tie" = true) (k33 : PySem.W.keepIn K (.ref f33) = true)
    {f34 : Addr} {od34 an34 : Option Addr} {sl34 : Array (Option Value)} {oc34 kV34 dc34 pm34 cd34 ct34 : Value}
    (a34 : PySem.W.findIn K (.ref C_Web) "cut_tie" = some (some (.ref f34))) (n34 : PySem.W.isFn K (.ref f34) = true)
    (l34 : K.lookup f34 = some ⟨oc34, od34, .func (PySem.W.fnOf "cut_tie" "Web.cut_tie" (defArgs s_Web_cut_tie) (defBody s_Web_cut_tie) (defScope s_Web_cut_tie) .none kV34 dc34 pm34 an34 cd34 ct34), sl34⟩) (c34 : PySem.W.codeIn K cd34 "Web.cut_tie" = true) (k34 : PySem.W.keepIn K (.ref f34) = true)
    {f35 : Addr} {od35 an35 : Option Addr} {sl35 : Array (Option Value)} {oc35 kV35 dc35 pm35 cd35 ct35 : Value}
    (a35 : PySem.W.findIn K (.ref C_Web) "has_thing" = some (some (.ref f35))) (n35 : PySem.W.isFn K (.ref f35) = true)
    (l35 : K.lookup f35 = some ⟨oc35, od35, .func (PySem.W.fnOf "has_thing" "Web.has_thing" (defArgs s_Web_has_thing) (defBody s_Web_has_thing) (defScope s_Web_has_thing) .none kV35 dc35 pm35 an35 cd35 ct35), sl35⟩) (c35 : PySem.W.codeIn K cd35 "Web.has_thing" = true) (k35 : PySem.W.keepIn K (.ref f35) = true)
    {f36 : Addr} {od36 an36 : Option Addr} {sl36 : Array (Option Value)} {oc36 kV36 dc36 pm36 cd36 ct36 : Value}
    (a36 : PySem.W.findIn K (.ref C_Web) "things" = some (some (.ref f36))) (n36 : PySem.W.isFn K (.ref f36) = true)
    (l36 : K.lookup f36 = some ⟨oc36, od36, .func (PySem.W.fnOf "things" "Web.things" (defArgs s_Web_things) (defBody s_Web_things) (defScope s_Web_things) .none kV36 dc36 pm36 an36 cd36 ct36), sl36⟩) (c36 : PySem.W.codeIn K cd36 "Web.things" = true) (k36 : PySem.W.keepIn K (.ref f36) = true)
    {f37 : Addr} {od37 an37 : Option Addr} {sl37 : Array (Option Value)} {oc37 kV37 dc37 pm37 cd37 ct37 : Value}
    (a37 : PySem.W.findIn K (.ref C_Web) "ties" = some (some (.ref f37))) (n37 : PySem.W.isFn K (.ref f37) = true)
    (l37 : K.lookup f37 = some ⟨oc37, od37, .func (PySem.W.fnOf "ties" "Web.ties" (defArgs s_Web_ties) (defBody s_Web_ties) (defScope s_Web_ties) .none kV37 dc37 pm37 an37 cd37 ct37), sl37⟩) (c37 : PySem.W.codeIn K cd37 "Web.ties" = true) (k37 : PySem.W.keepIn K (.ref f37) = true)
    {f38 : Addr} {od38 an38 : Option Addr} {sl38 : Array (Option Value)} {oc38 kV38 dc38 pm38 cd38 ct38 : Value}
    (a38 : PySem.W.findIn K (.ref C_Web) "tie" = some (some (.ref f38))) (n38 : PySem.W.isFn K (.ref f38) = true)
    (l38 : K.lookup f38 = some ⟨oc38, od38, .func (PySem.W.fnOf "tie" "Web.tie" (defArgs s_Web_tie) (defBody s_Web_tie) (defScope s_Web_tie) .none kV38 dc38 pm38 an38 cd38 ct38), sl38⟩) (c38 : PySem.W.codeIn K cd38 "Web.tie" = true) (k38 : PySem.W.keepIn K (.ref f38) = true)
    {tk0 : Tok} (g0 : PySem.W.nsIn K mainGlobals "LETTERS" = some (some (Value.str (v_LETTERS) tk0)))
    {tk1 : Tok} (g1 : PySem.W.nsIn K mainGlobals "MOST_LETTERS" = some (some (Value.int (12) tk1)))
    {tk2 : Tok} (g2 : PySem.W.nsIn K mainGlobals "ANY_NAME" = some (some (Value.str (v_ANY_NAME) tk2)))
    {tk3 : Tok} (g3 : PySem.W.nsIn K mainGlobals "MARKS" = some (some (Value.int (0) tk3)))
    {tk4 : Tok} (g4 : PySem.W.nsIn K mainGlobals "FOLLOWS" = some (some (Value.int (1) tk4)))
    {tk5 : Tok} (g5 : PySem.W.nsIn K mainGlobals "ENDS" = some (some (Value.int (2) tk5)))
    {tk6 : Tok} (g6 : PySem.W.nsIn K mainGlobals "MOST_THINGS" = some (some (Value.int (100) tk6)))
    {tk7 : Tok} (g7 : PySem.W.nsIn K mainGlobals "MOST_TIES" = some (some (Value.int (400) tk7)))
    (z0 : PySem.W.nsIn K mainGlobals "len" = some none)
    (z1 : PySem.W.nsIn K mainGlobals "isinstance" = some none)
    (z2 : PySem.W.nsIn K mainGlobals "bool" = some none)
    (z3 : PySem.W.nsIn K mainGlobals "int" = some none)
    (z4 : PySem.W.nsIn K mainGlobals "range" = some none)
    (z5 : PySem.W.nsIn K mainGlobals "list" = some none)
    (z6 : PySem.W.nsIn K mainGlobals "str" = some none)
    (z7 : PySem.W.nsIn K mainGlobals "ValueError" = some none)
    (z8 : PySem.W.nsIn K mainGlobals "tuple" = some none)
    (z9 : PySem.W.nsIn K mainGlobals "reversed" = some none)
    (z10 : PySem.W.nsIn K mainGlobals "abs" = some none)
    (z11 : PySem.W.nsIn K mainGlobals "all" = some none)
    (z12 : PySem.W.nsIn K mainGlobals "enumerate" = some none)
    (o1_Web : PySem.W.plainGet K C_Web Str.empty = true) (o2_Web : PySem.W.hasDictIn K C_Web = true) (o3_Web : PySem.W.plainOver K C_Web = true) (o4_Web : PySem.W.findIn K (.ref C_Web) "__setattr__" = some (some (.builtin "object.__setattr__"))) (o5_Web : PySem.W.makesIn K C_Web = true) (o6_Web : PySem.W.keepIn K (.ref C_Web) = true)
    (na_kept_values : PySem.W.findIn K (.ref C_Web) "kept_values" = some none)
    (na_kept_ties : PySem.W.findIn K (.ref C_Web) "kept_ties" = some none)
    (na_coming_number : PySem.W.findIn K (.ref C_Web) "coming_number" = some none)
    (xs : ([C_NoName, C_NoNumber, C_NoThing, C_NoTie, C_Twice, C_Full] : List Addr).map (xRow K C_SeekError [C_NoName, C_NoNumber, C_NoThing, C_NoTie, C_Twice, C_Full]) = ([C_NoName, C_NoNumber, C_NoThing, C_NoTie, C_Twice, C_Full] : List Addr).map (xRow0 [C_NoName, C_NoNumber, C_NoThing, C_NoTie, C_Twice, C_Full]))
    (xnd : decide (@List.Nodup Nat [C_NoName, C_NoNumber, C_NoThing, C_NoTie, C_Twice, C_Full]) = true)
    : ∃ fd : FuncData, (∀ (s : Shared) (v : Value), BindsTo s fd ⟨[v], []⟩ [("script", v)]) ∧ ∀ base : Heap, K.In base → base.Ns mainGlobals mg → FnOk l.prog w K mg base (CX1 l.prog w) 6 fa fd ["script"] (spLaw K) := by
  have e := hfa.symm.trans (PySem.W.mg_of X G a28)
  cases e
  have F0 := fun_mk (st := s_good_name) l0 c0 k0
  have b0 := F0.binds (ps := ["text"]) fun _ _ _ _ _ _ us hl => match us, hl with | [_], _ => rfl
  have F1 := fun_mk (st := s_few_figures) l1 c1 k1
  have b1 := F1.binds (ps := ["number"]) fun _ _ _ _ _ _ us hl => match us, hl with | [_], _ => rfl
  have F2 := fun_mk (st := s_weight_meets) l2 c2 k2
  have b2 := F2.binds (ps := ["weight", "sign", "number"]) fun _ _ _ _ _ _ us hl => match us, hl with | [_, _, _], _ => rfl
  have F3 := fun_mk (st := s_fits) l3 c3 k3
  have b3 := F3.binds (ps := ["mark", "step"]) fun _ _ _ _ _ _ us hl => match us, hl with | [_, _], _ => rfl
  have F4 := fun_mk (st := s_gone_step) l4 c4 k4
  have b4 := F4.binds (ps := ["tie", "back"]) fun _ _ _ _ _ _ us hl => match us, hl with | [_, _], _ => rfl
  have F5 := fun_mk (st := s_gone_from) l5 c5 k5
  have b5 := F5.binds (ps := ["tie", "back"]) fun _ _ _ _ _ _ us hl => match us, hl with | [_, _], _ => rfl
  have F6 := fun_mk (st := s_gone_to) l6 c6 k6
  have b6 := F6.binds (ps := ["tie", "back"]) fun _ _ _ _ _ _ us hl => match us, hl with | [_, _], _ => rfl
  have F7 := fun_mk (st := s_moves_by) l7 c7 k7
  have b7 := F7.binds (ps := ["web", "mark"]) fun _ _ _ _ _ _ us hl => match us, hl with | [_, _], _ => rfl
  have F8 := fun_mk (st := s_book) l8 c8 k8
  have b8 := F8.binds (ps := ["web", "made", "start"]) fun _ _ _ _ _ _ us hl => match us, hl with | [_, _, _], _ => rfl
  have F9 := fun_mk (st := s_way_in) l9 c9 k9
  have b9 := F9.binds (ps := ["made", "entries", "place"]) fun _ _ _ _ _ _ us hl => match us, hl with | [_, _, _], _ => rfl
  have F10 := fun_mk (st := s_ends_in) l10 c10 k10
  have b10 := F10.binds (ps := ["made", "entries"]) fun _ _ _ _ _ _ us hl => match us, hl with | [_, _], _ => rfl
  have F11 := fun_mk (st := s_check_name) l11 c11 k11
  have b11 := F11.binds (ps := ["name"]) fun _ _ _ _ _ _ us hl => match us, hl with | [_], _ => rfl
  have F12 := fun_mk (st := s_check_number) l12 c12 k12
  have b12 := F12.binds (ps := ["number"]) fun _ _ _ _ _ _ us hl => match us, hl with | [_], _ => rfl
  have F13 := fun_mk (st := s_l_cell_at) l13 c13 k13
  have b13 := F13.binds (ps := ["script", "k"]) fun _ _ _ _ _ _ us hl => match us, hl with | [_, _], _ => rfl
  have F14 := fun_mk (st := s_l_mixed) l14 c14 k14
  have b14 := F14.binds (ps := ["cell"]) fun _ _ _ _ _ _ us hl => match us, hl with | [_], _ => rfl
  have F15 := fun_mk (st := s_l_names) l15 c15 k15
  have b15 := F15.binds (ps := ["cell"]) fun _ _ _ _ _ _ us hl => match us, hl with | [_], _ => rfl
  have F16 := fun_mk (st := s_l_whole) l16 c16 k16
  have b16 := F16.binds (ps := ["found"]) fun _ _ _ _ _ _ us hl => match us, hl with | [_], _ => rfl
  have F17 := fun_mk (st := s_l_base) l17 c17 k17
  have b17 := F17.binds (ps := ["cell"]) fun _ _ _ _ _ _ us hl => match us, hl with | [_], _ => rfl
  have F18 := fun_mk (st := s_l_number) l18 c18 k18
  have b18 := F18.binds (ps := ["cell", "turn", "base"]) fun _ _ _ _ _ _ us hl => match us, hl with | [_, _, _], _ => rfl
  have F19 := fun_mk (st := s_l_mark_by) l19 c19 k19
  have b19 := F19.binds (ps := ["cell", "names", "base"]) fun _ _ _ _ _ _ us hl => match us, hl with | [_, _, _], _ => rfl
  have F20 := fun_mk (st := s_l_things) l20 c20 k20
  have b20 := F20.binds (ps := ["cell", "many"]) fun _ _ _ _ _ _ us hl => match us, hl with | [_, _], _ => rfl
  have F21 := fun_mk (st := s_l_web_by) l21 c21 k21
  have b21 := F21.binds (ps := ["cells", "things", "names", "base"]) fun _ _ _ _ _ _ us hl => match us, hl with | [_, _, _, _], _ => rfl
  have F22 := fun_mk (st := s_l_rooms_by) l22 c22 k22
  have b22 := F22.binds (ps := ["cell", "many", "mixed"]) fun _ _ _ _ _ _ us hl => match us, hl with | [_, _, _], _ => rfl
  have F23 := fun_mk (st := s_l_made_by) l23 c23 k23
  have b23 := F23.binds (ps := ["script", "many", "mixed", "names", "base"]) fun _ _ _ _ _ _ us hl => match us, hl with | [_, _, _, _, _], _ => rfl
  have F24 := fun_mk (st := s_l_line) l24 c24 k24
  have b24 := F24.binds (ps := ["entries", "place"]) fun _ _ _ _ _ _ us hl => match us, hl with | [_, _], _ => rfl
  have F25 := fun_mk (st := s_l_led) l25 c25 k25
  have b25 := F25.binds (ps := ["way", "entries", "place", "made", "ties"]) fun _ _ _ _ _ _ us hl => match us, hl with | [_, _, _, _, _], _ => rfl
  have F26 := fun_mk (st := s_l_ends) l26 c26 k26
  have b26 := F26.binds (ps := ["entries", "made"]) fun _ _ _ _ _ _ us hl => match us, hl with | [_, _], _ => rfl
  have F27 := fun_mk (st := s_l_same) l27 c27 k27
  have b27 := F27.binds (ps := ["found", "due"]) fun _ _ _ _ _ _ us hl => match us, hl with | [_, _], _ => rfl
  have F28 := fun_mk (st := s_law) l28 c28 k28
  have F29 := fun_mk (st := s_Web_init) l29 c29 k29
  have b29 := F29.binds (ps := ["self"]) fun _ _ _ _ _ _ us hl => match us, hl with | [_], _ => rfl
  have F30 := fun_mk (st := s_Web_check_thing) l30 c30 k30
  have b30 := F30.binds (ps := ["self", "name"]) fun _ _ _ _ _ _ us hl => match us, hl with | [_, _], _ => rfl
  have F31 := fun_mk (st := s_Web_check_tie) l31 c31 k31
  have b31 := F31.binds (ps := ["self", "number"]) fun _ _ _ _ _ _ us hl => match us, hl with | [_, _], _ => rfl
  have F32 := fun_mk (st := s_Web_add_thing) l32 c32 k32
  have b32 := F32.binds (ps := ["self", "name"]) fun _ _ _ _ _ _ us hl => match us, hl with | [_, _], _ => rfl
  have F33 : FunD K _ _ s_Web_add_tie f33 _ := ⟨⟨_, _, _, _, _, _, _, _, _, _, rfl, l33, c33⟩, k33⟩
  have b33 : Binds K (PySem.W.fnOf "add_tie" "Web.add_tie" (defArgs s_Web_add_tie) (defBody s_Web_add_tie) (defScope s_Web_add_tie) (.ref dt33) kV33 dc33 pm33 an33 cd33 ct33) ["self", "start", "name", "end", "weight"] [] := fun s us hK hl => match us, hl with | [_, _, _, _, _], _ => by first | exact .of_eq rfl | exact PySem.W.binds_K hK rfl dl33 rfl rfl rfl
  have e33 : Binds K (PySem.W.fnOf "add_tie" "Web.add_tie" (defArgs s_Web_add_tie) (defBody s_Web_add_tie) (defScope s_Web_add_tie) (.ref dt33) kV33 dc33 pm33 an33 cd33 ct33) ["self", "start", "name", "end", "weight"] [.int 0 dk33_0] := fun s us hK hl => match us, (show us.length = 4 by simp only [List.length_append, List.length_cons, List.length_nil] at hl; omega) with | [_, _, _, _], _ => PySem.W.binds_K hK rfl dl33 rfl rfl rfl
  have F34 := fun_mk (st := s_Web_cut_tie) l34 c34 k34
  have b34 := F34.binds (ps := ["self", "number"]) fun _ _ _ _ _ _ us hl => match us, hl with | [_, _], _ => rfl
  have F35 := fun_mk (st := s_Web_has_thing) l35 c35 k35
  have b35 := F35.binds (ps := ["self", "name"]) fun _ _ _ _ _ _ us hl => match us, hl with | [_, _], _ => rfl
  have F36 := fun_mk (st := s_Web_things) l36 c36 k36
  have b36 := F36.binds (ps := ["self"]) fun _ _ _ _ _ _ us hl => match us, hl with | [_], _ => rfl
  have F37 := fun_mk (st := s_Web_ties) l37 c37 k37
  have b37 := F37.binds (ps := ["self"]) fun _ _ _ _ _ _ us hl => match us, hl with | [_], _ => rfl
  have F38 := fun_mk (st := s_Web_tie) l38 c38 k38
  have b38 := F38.binds (ps := ["self", "number"]) fun _ _ _ _ _ _ us hl => match us, hl with | [_, _], _ => rfl
  have T : Txt K mg ⟨f0, _, f1, _, f2, _, f3, _, f4, _, f5, _, f6, _, f7, _, f8, _, f9, _, f10, _, f11, _, f12, _, f13, _, f14, _, f15, _, f16, _, f17, _, f18, _, f19, _, f20, _, f21, _, f22, _, f23, _, f24, _, f25, _, f26, _, f27, _, f29, _, f30, _, f31, _, f32, _, f33, _, f34, _, f35, _, f36, _, f37, _, f38, _, C_SeekError, C_NoName, C_NoNumber, C_NoThing, C_NoTie, C_Twice, C_Full, C_Web⟩ := ⟨⟨F0, b0, PySem.W.mg_of X G a0⟩, ⟨F1, b1, PySem.W.mg_of X G a1⟩, ⟨F2, b2, PySem.W.mg_of X G a2⟩, ⟨F3, b3, PySem.W.mg_of X G a3⟩, ⟨F4, b4, PySem.W.mg_of X G a4⟩, ⟨F5, b5, PySem.W.mg_of X G a5⟩, ⟨F6, b6, PySem.W.mg_of X G a6⟩, ⟨F7, b7, PySem.W.mg_of X G a7⟩, ⟨F8, b8, PySem.W.mg_of X G a8⟩, ⟨F9, b9, PySem.W.mg_of X G a9⟩, ⟨F10, b10, PySem.W.mg_of X G a10⟩, ⟨F11, b11, PySem.W.mg_of X G a11⟩, ⟨F12, b12, PySem.W.mg_of X G a12⟩, ⟨F13, b13, PySem.W.mg_of X G a13⟩, ⟨F14, b14, PySem.W.mg_of X G a14⟩, ⟨F15, b15, PySem.W.mg_of X G a15⟩, ⟨F16, b16, PySem.W.mg_of X G a16⟩, ⟨F17, b17, PySem.W.mg_of X G a17⟩, ⟨F18, b18, PySem.W.mg_of X G a18⟩, ⟨F19, b19, PySem.W.mg_of X G a19⟩, ⟨F20, b20, PySem.W.mg_of X G a20⟩, ⟨F21, b21, PySem.W.mg_of X G a21⟩, ⟨F22, b22, PySem.W.mg_of X G a22⟩, ⟨F23, b23, PySem.W.mg_of X G a23⟩, ⟨F24, b24, PySem.W.mg_of X G a24⟩, ⟨F25, b25, PySem.W.mg_of X G a25⟩, ⟨F26, b26, PySem.W.mg_of X G a26⟩, ⟨F27, b27, PySem.W.mg_of X G a27⟩, ⟨⟨a29, n29, k29⟩, F29, b29⟩, ⟨⟨a30, n30, k30⟩, F30, b30⟩, ⟨⟨a31, n31, k31⟩, F31, b31⟩, ⟨⟨a32, n32, k32⟩, F32, b32⟩, ⟨⟨a33, n33, k33⟩, F33, b33, ⟨_, (.cons ⟨_, rfl⟩ .nil), e33⟩⟩, ⟨⟨a34, n34, k34⟩, F34, b34⟩, ⟨⟨a35, n35, k35⟩, F35, b35⟩, ⟨⟨a36, n36, k36⟩, F36, b36⟩, ⟨⟨a37, n37, k37⟩, F37, b37⟩, ⟨⟨a38, n38, k38⟩, F38, b38⟩, ⟨_, PySem.W.mg_of X G g0, ⟨_, rfl⟩⟩, ⟨_, PySem.W.mg_of X G g1, ⟨_, rfl⟩⟩, ⟨_, PySem.W.mg_of X G g2, ⟨_, rfl⟩⟩, ⟨_, PySem.W.mg_of X G g3, ⟨_, rfl⟩⟩, ⟨_, PySem.W.mg_of X G g4, ⟨_, rfl⟩⟩, ⟨_, PySem.W.mg_of X G g5, ⟨_, rfl⟩⟩, ⟨_, PySem.W.mg_of X G g6, ⟨_, rfl⟩⟩, ⟨_, PySem.W.mg_of X G g7, ⟨_, rfl⟩⟩, PySem.W.mg_none_of X G z0, PySem.W.mg_none_of X G z1, PySem.W.mg_none_of X G z2, PySem.W.mg_none_of X G z3, PySem.W.mg_none_of X G z4, PySem.W.mg_none_of X G z5, PySem.W.mg_none_of X G z6, PySem.W.mg_none_of X G z7, PySem.W.mg_none_of X G z8, PySem.W.mg_none_of X G z9, PySem.W.mg_none_of X G z10, PySem.W.mg_none_of X G z11, PySem.W.mg_none_of X G z12, PySem.W.mg_of X G gc_SeekError, PySem.W.mg_of X G gc_NoName, PySem.W.mg_of X G gc_NoNumber, PySem.W.mg_of X G gc_NoThing, PySem.W.mg_of X G gc_NoTie, PySem.W.mg_of X G gc_Twice, PySem.W.mg_of X G gc_Full, PySem.W.mg_of X G gc_Web, ⟨xs, xnd⟩, ⟨o1_Web, o2_Web, o3_Web, o4_Web⟩, ⟨o5_Web, a29, n29, o6_Web⟩, na_kept_values, na_kept_ties, na_coming_number⟩
  exact ⟨PySem.W.fnOf "law" "law" (defArgs s_law) (defBody s_law) (defScope s_law) .none kV28 dc28 pm28 an28 cd28 ct28, fun s v => .of_eq rfl, fun base _ _ => ok_law F28 T⟩
theorem walk {l : PySem.W.OpenLaw} {q : Program} {loose : List Str} {XP : (Str → Option Value) → Heap → Prop} {YP : World → Heap → Prop} {d : DefRec} {K : Params → PySem.W.Frag} (hn : l.most = some 63) (hdf : d.params.defaults = [])
    (hY : ∀ (w : World) (h : Heap), YP w h → (K w.params).In h)
    (F : ∀ (w : World) (mg : Str → Option Value) (fa : Addr) (h : Heap), (K w.params).In h → h.Ns mainGlobals mg → mg d.name = some (.ref fa) →
      ∃ fd : FuncData, (∀ (s : Shared) (u : Value), BindsTo s fd ⟨[u], []⟩ [("script", u)]) ∧ ∀ base : Heap, (K w.params).In base → base.Ns mainGlobals mg → FnOk l.prog w (K w.params) mg base (CX1 l.prog w) 6 fa fd ["script"] (spLaw (K w.params))) :
    PySem.W.WalkO q loose XP YP l.row.toRowW d [] (fun f vs => PySem.call f vs) :=
  L2.walk_of (n := 63) (k := 6) (x := "script") (CX := fun w => CX1 l.prog w) (sp := fun w => spLaw (K w.params)) hn (by decide) hdf ⟨rfl, by decide, by decide⟩ hY F (fun _ _ a ns hl _ hS => ⟨a, ns, rfl, hS, hl, fun _ => rfl⟩) fun _ _ _ _ _ ⟨_, _, _, _, _, z⟩ => z
end K30
open PySem PySem.W PyProof.Rows
abbrev rowAt : RowW := PySem.Challenge.rw_tieseek_k30_ways_and_ends_in_a_book.row.toRowW
def seenP : Program :=
  { rowAt.prog with main := { rowAt.prog.main with
      body := (((((((rowAt.prog.main.body.eraseIdx 36).eraseIdx 30).eraseIdx 25).eraseIdx 21).eraseIdx 15).eraseIdx 9).eraseIdx 1) } }
abbrev seenX : Shared → Bool := fun s => xlAt seenP [] s && recOk rowAt.records s
theorem two_looks {W α β γ : Type} {x : W → Option α} {f : α → β} {g : α → γ} {b : β} {c : W → γ}
    (h : ∀ w, (x w).map f = some b) (k : ∀ w, (x w).map g = some (c w)) (w : W) :
    (x w).map (fun s => (f s, g s)) = some (b, c w) := by
  have h := h w
  have k := k w
  revert h k
  cases x w with
  | none => intro h; cases h
  | some a => intro h k; cases h; rw [← Option.some.inj k]; rfl
set_option maxRecDepth 100000 in
set_option maxHeartbeats 0 in
theorem first_look : ∀ w : World, (openEnds treeTable rowAt.prog w 6760).map
    (fun s => openSeen seenP [] (importedModules rowAt.prog.main.body) seenX true s) =
    some (openGood seenP []) := by
  intro w
  unfold openEnds fencedOpening topFrom
  rw [Fast.te14082659384304107361,
      Fast.te14364793385576792824,
      Fast.te10274390034422433532,
      Fast.te14289696077712309145,
      Fast.te1435165496053646825,
      Fast.te4187177175401517315,
      Fast.te5923862056798008813]
  kernel_rfl
local macro_rules
  | `(tactic| o_head $H) => `(tactic|
    refine holds_open (q := seenP) (loose := []) (Xt := seenX)
      (XP := XL seenP []) (Yf := Hook.obs $H) (Ya := Hook.val $H)
      (YP := Hook.says $H) (N := 6760) (two_looks first_look ?hl) (Hook.of $H) (Hook.keeps $H)
      (fun s e => xl_of s (Bool.and_eq_true_iff.mp e).1) XL.keeps
      (by rfl) (by rfl) (by rfl)
      (fun s e => recFacts_of (Bool.and_eq_true_iff.mp e).2)
      (by rfl) (by first | assumption | decide +kernel)
      (by decide +kernel) ⟨rfl, rfl, rfl, rfl, rfl, by decide +kernel⟩ ?hw ?hc)
set_option maxRecDepth 100000 in
set_option maxHeartbeats 0 in
theorem PySem.Challenge.cw_tieseek_k30_ways_and_ends_in_a_book_holds : PySem.Challenge.rw_tieseek_k30_ways_and_ends_in_a_book.Holds := by
  w_on; o_law; k_head; (case hw => w_witness2)
  case hl =>
    intro w
    unfold openEnds fencedOpening topFrom
    rw [Fast.te14082659384304107361, Fast.te14364793385576792824, Fast.te10274390034422433532, Fast.te14289696077712309145, Fast.te1435165496053646825, Fast.te5923862056798008813]
    kernel_rfl
  k_fill
  refine K30.walk (l := PySem.Challenge.rw_tieseek_k30_ways_and_ends_in_a_book) rfl rfl (fun w h Y => PySem.W.kIn_of Y) ?F
  case F =>
    intro w mg fa h KX G hmg
    refine' K30.all_mk KX G hmg ?gc_SeekError ?gc_NoName ?gc_NoNumber ?gc_NoThing ?gc_NoTie ?gc_Twice ?gc_Full ?gc_Web ?xa0 ?xl0 ?xc0 ?xk0 ?xa1 ?xl1 ?xc1 ?xk1 ?xa2 ?xl2 ?xc2 ?xk2 ?xa3 ?xl3 ?xc3 ?xk3 ?xa4 ?xl4 ?xc4 ?xk4 ?xa5 ?xl5 ?xc5 ?xk5 ?xa6 ?xl6 ?xc6 ?xk6 ?xa7 ?xl7 ?xc7 ?xk7 ?xa8 ?xl8 ?xc8 ?xk8 ?xa9 ?xl9 ?xc9 ?xk9 ?xa10 ?xl10 ?xc10 ?xk10 ?xa11 ?xl11 ?xc11 ?xk11 ?xa12 ?xl12 ?xc12 ?xk12 ?xa13 ?xl13 ?xc13 ?xk13 ?xa14 ?xl14 ?xc14 ?xk14 ?xa15 ?xl15 ?xc15 ?xk15 ?xa16 ?xl16 ?xc16 ?xk16 ?xa17 ?xl17 ?xc17 ?xk17 ?xa18 ?xl18 ?xc18 ?xk18 ?xa19 ?xl19 ?xc19 ?xk19 ?xa20 ?xl20 ?xc20 ?xk20 ?xa21 ?xl21 ?xc21 ?xk21 ?xa22 ?xl22 ?xc22 ?xk22 ?xa23 ?xl23 ?xc23 ?xk23 ?xa24 ?xl24 ?xc24 ?xk24 ?xa25 ?xl25 ?xc25 ?xk25 ?xa26 ?xl26 ?xc26 ?xk26 ?xa27 ?xl27 ?xc27 ?xk27 ?xa28 ?xl28 ?xc28 ?xk28 ?xa29 ?xn29 ?xl29 ?xc29 ?xk29 ?xa30 ?xn30 ?xl30 ?xc30 ?xk30 ?xa31 ?xn31 ?xl31 ?xc31 ?xk31 ?xa32 ?xn32 ?xl32 ?xc32 ?xk32 ?xa33 ?xn33 ?xd33 ?xl33 ?xc33 ?xk33 ?xa34 ?xn34 ?xl34 ?xc34 ?xk34 ?xa35 ?xn35 ?xl35 ?xc35 ?xk35 ?xa36 ?xn36 ?xl36 ?xc36 ?xk36 ?xa37 ?xn37 ?xl37 ?xc37 ?xk37 ?xa38 ?xn38 ?xl38 ?xc38 ?xk38 ?xg0 ?xg1 ?xg2 ?xg3 ?xg4 ?xg5 ?xg6 ?xg7 ?xz0 ?xz1 ?xz2 ?xz3 ?xz4 ?xz5 ?xz6 ?xz7 ?xz8 ?xz9 ?xz10 ?xz11 ?xz12 ?o1_Web ?o2_Web ?o3_Web ?o4_Web ?o5_Web ?o6_Web ?na_kept_values ?na_kept_ties ?na_coming_number ?xs ?xnd
    (case gc_SeekError => k_is)
    (case gc_NoName => k_is)
    (case gc_NoNumber => k_is)
    (case gc_NoThing => k_is)
    (case gc_NoTie => k_is)
    (case gc_Twice => k_is)
    (case gc_Full => k_is)
    (case gc_Web => k_is)
    (case xa0 => k_is)
    (case xl0 => k_is)
    (case xc0 => k_is)
    (case xk0 => k_is)
    (case xa1 => k_is)
    (case xl1 => k_is)
    (case xc1 => k_is)
    (case xk1 => k_is)
    (case xa2 => k_is)
    (case xl2 => k_is)
    (case xc2 => k_is)
    (case xk2 => k_is)
    (case xa3 => k_is)
    (case xl3 => k_is)
    (case xc3 => k_is)
    (case xk3 => k_is)
    (case xa4 => k_is)
    (case xl4 => k_is)
    (case xc4 => k_is)
    (case xk4 => k_is)
    (case xa5 => k_is)
    (case xl5 => k_is)
    (case xc5 => k_is)
    (case xk5 => k_is)
    (case xa6 => k_is)
    (case xl6 => k_is)
    (case xc6 => k_is)
    (case xk6 => k_is)
    (case xa7 => k_is)
    (case xl7 => k_is)
    (case xc7 => k_is)
    (case xk7 => k_is)
    (case xa8 => k_is)
    (case xl8 => k_is)
    (case xc8 => k_is)
    (case xk8 => k_is)
    (case xa9 => k_is)
    (case xl9 => k_is)
    (case xc9 => k_is)
    (case xk9 => k_is)
    (case xa10 => k_is)
    (case xl10 => k_is)
    (case xc10 => k_is)
    (case xk10 => k_is)
    (case xa11 => k_is)
    (case xl11 => k_is)
    (case xc11 => k_is)
    (case xk11 => k_is)
    (case xa12 => k_is)
    (case xl12 => k_is)
    (case xc12 => k_is)
    (case xk12 => k_is)
    (case xa13 => k_is)
    (case xl13 => k_is)
    (case xc13 => k_is)
    (case xk13 => k_is)
    (case xa14 => k_is)
    (case xl14 => k_is)
    (case xc14 => k_is)
    (case xk14 => k_is)
    (case xa15 => k_is)
    (case xl15 => k_is)
    (case xc15 => k_is)
    (case xk15 => k_is)
    (case xa16 => k_is)
    (case xl16 => k_is)
    (case xc16 => k_is)
    (case xk16 => k_is)
    (case xa17 => k_is)
    (case xl17 => k_is)
    (case xc17 => k_is)
    (case xk17 => k_is)
    (case xa18 => k_is)
    (case xl18 => k_is)
    (case xc18 => k_is)
    (case xk18 => k_is)
    (case xa19 => k_is)
    (case xl19 => k_is)
    (case xc19 => k_is)
    (case xk19 => k_is)
    (case xa20 => k_is)
    (case xl20 => k_is)
    (case xc20 => k_is)
    (case xk20 => k_is)
    (case xa21 => k_is)
    (case xl21 => k_is)
    (case xc21 => k_is)
    (case xk21 => k_is)
    (case xa22 => k_is)
    (case xl22 => k_is)
    (case xc22 => k_is)
    (case xk22 => k_is)
    (case xa23 => k_is)
    (case xl23 => k_is)
    (case xc23 => k_is)
    (case xk23 => k_is)
    (case xa24 => k_is)
    (case xl24 => k_is)
    (case xc24 => k_is)
    (case xk24 => k_is)
    (case xa25 => k_is)
    (case xl25 => k_is)
    (case xc25 => k_is)
    (case xk25 => k_is)
    (case xa26 => k_is)
    (case xl26 => k_is)
    (case xc26 => k_is)
    (case xk26 => k_is)
    (case xa27 => k_is)
    (case xl27 => k_is)
    (case xc27 => k_is)
    (case xk27 => k_is)
    (case xa28 => k_is)
    (case xl28 => k_is)
    (case xc28 => k_is)
    (case xk28 => k_is)
    (case xa29 => k_is)
    (case xn29 => k_is)
    (case xl29 => k_is)
    (case xc29 => k_is)
    (case xk29 => k_is)
    (case xa30 => k_is)
    (case xn30 => k_is)
    (case xl30 => k_is)
    (case xc30 => k_is)
    (case xk30 => k_is)
    (case xa31 => k_is)
    (case xn31 => k_is)
    (case xl31 => k_is)
    (case xc31 => k_is)
    (case xk31 => k_is)
    (case xa32 => k_is)
    (case xn32 => k_is)
    (case xl32 => k_is)
    (case xc32 => k_is)
    (case xk32 => k_is)
    (case xa33 => k_is)
    (case xn33 => k_is)
    (case xl33 => k_is)
    (case xc33 => k_is)
    (case xk33 => k_is)
    (case xa34 => k_is)
    (case xn34 => k_is)
    (case xl34 => k_is)
    (case xc34 => k_is)
    (case xk34 => k_is)
    (case xa35 => k_is)
    (case xn35 => k_is)
    (case xl35 => k_is)
    (case xc35 => k_is)
    (case xk35 => k_is)
    (case xa36 => k_is)
    (case xn36 => k_is)
    (case xl36 => k_is)
    (case xc36 => k_is)
    (case xk36 => k_is)
    (case xa37 => k_is)
    (case xn37 => k_is)
    (case xl37 => k_is)
    (case xc37 => k_is)
    (case xk37 => k_is)
    (case xa38 => k_is)
    (case xn38 => k_is)
    (case xl38 => k_is)
    (case xc38 => k_is)
    (case xk38 => k_is)
    (case xg0 => k_is)
    (case xg1 => k_is)
    (case xg2 => k_is)
    (case xg3 => k_is)
    (case xg4 => k_is)
    (case xg5 => k_is)
    (case xg6 => k_is)
    (case xg7 => k_is)
    (case xz0 => k_is)
    (case xz1 => k_is)
    (case xz2 => k_is)
    (case xz3 => k_is)
    (case xz4 => k_is)
    (case xz5 => k_is)
    (case xz6 => k_is)
    (case xz7 => k_is)
    (case xz8 => k_is)
    (case xz9 => k_is)
    (case xz10 => k_is)
    (case xz11 => k_is)
    (case xz12 => k_is)
    (case o1_Web => k_is)
    (case o2_Web => k_is)
    (case o3_Web => k_is)
    (case o4_Web => k_is)
    (case o5_Web => k_is)
    (case o6_Web => k_is)
    (case na_kept_values => k_is)
    (case na_kept_ties => k_is)
    (case na_coming_number => k_is)
    (case xs => kernel_rfl)
    (case xnd => kernel_rfl)
    (case xd33 => k_is)
